/- Automata that are built: great structs, and what lies apart. -/
import Derived.Test.YtochckefnjobhaaGreatDoorUj
import Derived.Laws.ResultCell
import Derived.StringKeys
namespace Go.Proofs.YtochckefnjobhaaGreatDoor
open Go Go.RowKit Go.Lib
open X3 (RX Pl)
open X5 (Aut)
set_option linter.unusedVariables false
set_option linter.unusedSimpArgs false
abbrev nil1 : Value := .slice none 0 0
def dvz : Array Value := nvs zs0 ++ #[nil1, nil1]
abbrev dvc (cs : List Nat) (nv tv : Value) : Array Value := nvs cs ++ #[nv, tv]
theorem dvz_lit : dvz = Array.replicate 256 (.int .i64 0) ++ #[nil1, nil1] := by unfold dvz; rw [nvs_zero]
theorem zero30 (w : World) : (zeroValue 26).run Tryz.prog w = .ok (.agg dvz) w := by
 rw [dvz_lit]; kernel_rfl
theorem size30 : (Tryz.prog.info? 26).map (·.size) = some 258 := by kernel_rfl
theorem built30 (parts : List (Nat × Value)) : Tryz.prog.built 26 parts = Instr.fill (fun i => (#[(0, 256), (256, 1), (257, 1)] : Array (Nat × Nat))[i]?) (Array.replicate 256 (.int .i64 0) ++ #[nil1, nil1]) parts := by kernel_rfl
theorem fold_set : ∀ (l : List Value) (k : Nat) (cs : Array Value) (i : Nat), i < cs.size → ((l.zipIdx k).foldl (fun (cs : Array Value) (x : Value × Nat) => cs.setIfInBounds (0 + x.2) x.1) cs)[i]? = if k ≤ i ∧ i < k + l.length then l[i - k]? else cs[i]?
 | [], k, cs, i, hi => by
  rw [List.zipIdx_nil, List.foldl_nil, if_neg (by first | (simp; done) | (simp; omega))]
 | v :: l, k, cs, i, hi => by
  rw [List.zipIdx_cons, List.foldl_cons, fold_set l (k + 1) _ i (by simpa using hi)]
  by_cases h1 : i = k
  ·subst h1
   rw [if_neg (by omega), if_pos (by simp)]
   simp [hi]
  ·by_cases h2 : k + 1 ≤ i ∧ i < k + 1 + l.length
   ·rw [if_pos h2, if_pos (by simp; omega), show i - k = (i - (k + 1)) + 1 by omega, List.getElem?_cons_succ]
   ·rw [if_neg h2, if_neg (by simp; omega), Array.getElem?_setIfInBounds, if_neg (by simp; omega)]
theorem fold_size : ∀ (l : List (Value × Nat)) (cs : Array Value), (l.foldl (fun (cs : Array Value) (x : Value × Nat) => cs.setIfInBounds (0 + x.2) x.1) cs).size = cs.size
 | [], cs => rfl
 | x :: l, cs => by rw [List.foldl_cons, fold_size l]; simp
theorem fill30 (cs : List Nat) (hl : cs.length = 256) : Tryz.prog.built 26 [(0, .agg (nvs cs))] = some (dvc cs nil1 nil1) := by
 rw [built30]
 have hz : (Array.replicate 256 (Value.int .i64 0) ++ #[nil1, nil1]).size = 258 := by rw [Array.size_append, Array.size_replicate]; rfl
 have hs : (nvs cs).size = 256 := by rw [nvs_size, hl]
 generalize hZ : Array.replicate 256 (Value.int .i64 0) ++ #[nil1, nil1] = Z at *
 have hZ1 : Z[256]? = some nil1 := by rw [← hZ, Array.getElem?_append_right (by rw [Array.size_replicate]; omega), Array.size_replicate]; rfl
 have hZ2 : Z[257]? = some nil1 := by rw [← hZ, Array.getElem?_append_right (by rw [Array.size_replicate]; omega), Array.size_replicate]; rfl
 have e0 : (#[(0, 256), (256, 1), (257, 1)] : Array (Nat × Nat))[0]? = some (0, 256) := rfl
 have e1 : Instr.fill (fun i => (#[(0, 256), (256, 1), (257, 1)] : Array (Nat × Nat))[i]?) Z [(0, .agg (nvs cs))] = some ((nvs cs).toList.zipIdx.foldl (fun (cs : Array Value) (x : Value × Nat) => cs.setIfInBounds (0 + x.2) x.1) Z) := by
  have h256 : ¬ ((nvs cs).size ≠ 256 ∨ 0 + (nvs cs).size > Z.size) := by omega
  generalize nvs cs = N at *
  simp [Instr.fill, Value.cells, hs, hz]
  rw [show (256 : Nat) = N.zipIdx.size by simp [hs], ← Array.foldl_toList, Array.toList_zipIdx]
 rw [e1]
 congr 1
 refine Array.ext_getElem? fun i => ?_
 by_cases hi : i < 258
 ·rw [fold_set (nvs cs).toList 0 Z i (by omega)]
  by_cases h1 : i < 256
  ·rw [if_pos ⟨Nat.zero_le _, by rw [Array.length_toList, hs]; omega⟩, Array.getElem?_append_left (by rw [hs]; exact h1), Nat.sub_zero, Array.getElem?_toList]
  ·rw [if_neg (by rw [Array.length_toList, hs]; omega), Array.getElem?_append_right (by rw [hs]; omega), hs]
   rcases (show i = 256 ∨ i = 257 by omega) with rfl | rfl
   ·rw [hZ1]; rfl
   ·rw [hZ2]; rfl
 ·rw [Array.getElem?_eq_none (by rw [fold_size (nvs cs).toList.zipIdx Z]; omega), Array.getElem?_eq_none (by rw [Array.size_append, hs]; simp; omega)]
theorem dvc_size (cs : List Nat) (hl : cs.length = 256) (nv tv : Value) : (dvc cs nv tv).size = 258 := by
 rw [Array.size_append, nvs_size, hl]; rfl
theorem dvc_one (cs : List Nat) {nv tv : Value} (hn : nv.oneCell' = true) (ht : tv.oneCell' = true) : (dvc cs nv tv).all (·.oneCell') = true := by
 rw [Array.all_append, nvs_one]
 simp [hn, ht]
theorem dvz_size : dvz.size = 258 := dvc_size zs0 zs0_len _ _
section
variable {ops : Array Oper} {rest : List Oper} {o : Oper} {a : Act} {w : World} {Q : Exit → Act → World → Prop}
theorem wpList_made30 (hg : o.guard = none) (hop : o.op = .alloc 26)
  (hK : wpList Tryz.prog ops Q rest (a.put o.dst (.pointer (some ⟨w.heap.size, 0, none⟩))) (w.alloc (.cells dvz 26))) : wpList Tryz.prog ops Q (o :: rest) a w :=
 wpList_made hg 26 hop _ (zero30 w) hK
theorem wpList_none30 (hg : o.guard = none) (hop : o.op = .build 26 #[])
  (hK : wpList Tryz.prog ops Q rest (a.put o.dst (.agg dvz)) w) : wpList Tryz.prog ops Q (o :: rest) a w := by
 refine wpList_plain hg fun K' hK' => ?_
 have hrun := run_build (P := Tryz.prog) w 26 #[] dvz (by rw [built30, dvz_lit]; rfl)
 unfold Oper.wp
 simp [execOp, hop, hrun, Result.andThen]
 exact hK' _ _ hK
theorem wpList_build30 (hg : o.guard = none) (x : Operand) (hop : o.op = .build 26 #[(0, x)]) (cs : List Nat) (hl : cs.length = 256) (hx : a.eval x = .agg (nvs cs))
  (hK : wpList Tryz.prog ops Q rest (a.put o.dst (.agg (dvc cs nil1 nil1))) w) : wpList Tryz.prog ops Q (o :: rest) a w := by
 refine wpList_plain hg fun K' hK' => ?_
 have hrun := run_build (P := Tryz.prog) w 26 #[(0, .agg (nvs cs))] _ (fill30 cs hl)
 generalize dvc cs nil1 nil1 = N at *
 generalize nvs cs = M at *
 unfold Oper.wp
 simp [execOp, hop, hx, hrun, Result.andThen]
 exact hK' _ _ hK
theorem wpList_store30 (hg : o.guard = none) (p v : Operand) (hop : o.op = .store 26 p v) (g : Nat) (hp : a.eval p = .pointer (some ⟨g, 0, none⟩)) (cur cs : Array Value) (hb : w.heap[g]? = some (.cells cur 26 (0, 0)))
  (hv : a.eval v = .agg cs) (h0 : cur.size = 258) (h1 : cs.size = 258) (h2 : cs.all (·.oneCell') = true) (hK : wpList Tryz.prog ops Q rest (a.put o.dst undef) (w.setRow g cs)) : wpList Tryz.prog ops Q (o :: rest) a w := by
 refine wpList_plain hg fun K' hK' => ?_
 have hrun := run_storeVar_row (P := Tryz.prog) w g 26 26 cur cs hb (by rw [size30, h1]) (by rw [h0, h1]) h2
 unfold Oper.wp
 simp [execOp, hop, hp, hv, Instr.storeAt, Instr.sureAddr, hrun, Result.andThen]
 exact hK' _ _ hK
theorem wpList_load30 (hg : o.guard = none) (p : Operand) (hop : o.op = .load 26 p) (g : Nat) (hp : a.eval p = .pointer (some ⟨g, 0, none⟩)) (cs : Array Value) (hb : w.heap[g]? = some (.cells cs 26 (0, 0))) (h1 : cs.size = 258)
  (hK : wpList Tryz.prog ops Q rest (a.put o.dst (.agg cs)) w) : wpList Tryz.prog ops Q (o :: rest) a w :=
 wpList_load_row hg 26 p hop g hp 26 cs (0, 0) _ hb Tryz.underlying26 rfl (by rw [size30, h1]) hK
theorem wpList_load26d (hg : o.guard = none) (p : Operand) (hop : o.op = .load 22 p) (g : Nat) (hp : a.eval p = .pointer (some ⟨g, 0, none⟩)) (cs : List Nat) (nv tv : Value) (hb : w.heap[g]? = some (.cells (dvc cs nv tv) 26 (0, 0))) (h1 : cs.length = 256)
  (hK : wpList Tryz.prog ops Q rest (a.put o.dst (.agg (nvs cs))) w) : wpList Tryz.prog ops Q (o :: rest) a w := by
 refine wpList_plain hg fun K' hK' => ?_
 have hl : (loadCells ⟨g, 0, none⟩ (nvs cs).toList.length).run Tryz.prog w = .ok (nvs cs).toList.toArray w :=
  run_loadCells_list (P := Tryz.prog) w ⟨g, 0, none⟩ (nvs cs).toList (fun j v hv => by
   have hadd : (⟨g, 0, none⟩ : Addr).add j = ⟨g, j, none⟩ := by unfold Addr.add; split <;> simp_all
   have hj : j < (nvs cs).size := by
    have := (List.getElem?_eq_some_iff.1 hv).1
    rwa [Array.length_toList] at this
   rw [hadd, cell_of_row w g j _ 26 (0, 0) hb, Array.getElem?_append_left hj, ← Array.getElem?_toList]
   exact hv)
 rw [Array.length_toList, nvs_size, h1] at hl
 have hag : (isAgg 22).run Tryz.prog w = .ok true w := by kernel_rfl
 have hsz : (sizeOf 22).run Tryz.prog w = .ok 256 w := by kernel_rfl
 have hrun : (loadVar 22 ⟨g, 0, none⟩).run Tryz.prog w = .ok (.agg (nvs cs)) w := by
  generalize nvs cs = N at *
  simp [loadVar, Sem.run_bind, hag, hsz, hl, Result.andThen]
 unfold Oper.wp
 simp only [execOp, hop, hp, Instr.loadAt, Instr.sureAddr, Sem.run_bind, Sem.run_pure, Result.andThen_ok, hrun]
 exact hK' _ _ hK
end
end Go.Proofs.YtochckefnjobhaaGreatDoor
namespace Go.Proofs.YtochckefnjobhaaGreatDoor
open Go Go.RowKit Go.Lib
open X3 (RX Pl)
open X5 (Aut)
set_option linter.unusedVariables false
set_option linter.unusedSimpArgs false
structure Sep (n : Nat) (mo io : List (Option Nat)) (bs : List Nat) : Prop where
 mm : ∀ (i j a : Nat), mo[i]? = some (some a) → mo[j]? = some (some a) → i = j
 mi : ∀ a, some a ∈ mo → some a ∉ io
 mb : ∀ a, a ∈ bs → some a ∉ mo ∧ some a ∉ io
 lt : ∀ a, (some a ∈ mo ∨ some a ∈ io ∨ a ∈ bs) → a < n
theorem Sep.mono {n n' : Nat} {mo io : List (Option Nat)} {bs : List Nat} (h : Sep n mo io bs) (hn : n ≤ n') : Sep n' mo io bs :=
 ⟨h.mm, h.mi, h.mb, fun a ha => Nat.lt_of_lt_of_le (h.lt a ha) hn⟩
theorem Sep.upd {n n' N : Nat} {mo io : List (Option Nat)} {bs : List Nat} (h : Sep n mo io bs) (j : Nat) (x : Option Nat) (hx : mo[j]? = some x ∨ (x = some N ∧ n ≤ N ∧ N < n')) (hn : n ≤ n') : Sep n' (mo.set j x) io bs := by
 have hmem : ∀ a, some a ∈ mo.set j x → some a ∈ mo ∨ (x = some a ∧ n ≤ a ∧ a < n') := by
  intro a ha
  rcases List.mem_or_eq_of_mem_set ha with h1 | h1
  ·exact .inl h1
  ·rcases hx with h2 | ⟨h2, h3, h4⟩
   ·exact .inl (List.mem_of_getElem? (by rw [h2, ← h1]))
   ·rw [h2] at h1; injection h1 with h1; subst h1; exact .inr ⟨h2, h3, h4⟩
 have hat : ∀ (i a : Nat), (mo.set j x)[i]? = some (some a) → mo[i]? = some (some a) ∨ (i = j ∧ n ≤ a) := by
  intro i a hi
  rw [List.getElem?_set] at hi
  split at hi
  ·rename_i e
   subst e
   split at hi
   ·injection hi with hi
    rcases hx with h2 | ⟨h2, h3, _⟩
    ·exact .inl (by rw [h2, hi])
    ·rw [h2] at hi; injection hi with hi; subst hi; exact .inr ⟨rfl, h3⟩
   ·cases hi
  ·exact .inl hi
 refine ⟨fun i k a hi hk => ?_, fun a ha hio => ?_, fun a ha => ⟨fun hm => ?_, (h.mb a ha).2⟩, fun a ha => ?_⟩
 ·rcases hat i a hi with h1 | ⟨h1, h2⟩ <;> rcases hat k a hk with h3 | ⟨h3, h4⟩
  ·exact h.mm i k a h1 h3
  ·have := h.lt a (.inl (List.mem_of_getElem? h1)); omega
  ·have := h.lt a (.inl (List.mem_of_getElem? h3)); omega
  ·omega
 ·rcases hmem a ha with h1 | ⟨_, h2, _⟩
  ·exact h.mi a h1 hio
  ·have := h.lt a (.inr (.inl hio)); omega
 ·rcases hmem a hm with h1 | ⟨_, h2, _⟩
  ·exact (h.mb a ha).1 h1
  ·have := h.lt a (.inr (.inr ha)); omega
 ·rcases ha with h1 | h1 | h1
  ·rcases hmem a h1 with h2 | ⟨_, _, h3⟩
   ·exact Nat.lt_of_lt_of_le (h.lt a (.inl h2)) hn
   ·exact h3
  ·exact Nat.lt_of_lt_of_le (h.lt a (.inr (.inl h1))) hn
  ·exact Nat.lt_of_lt_of_le (h.lt a (.inr (.inr h1))) hn
theorem Sep.imm {n n' : Nat} {mo io io' : List (Option Nat)} {bs : List Nat} (h : Sep n mo io bs) (x : Option Nat) (hx : ∀ a, x = some a → n ≤ a ∧ a < n') (hio : ∀ a, some a ∈ io' → some a ∈ io ∨ x = some a) (hn : n ≤ n') : Sep n' mo io' bs := by
 refine ⟨h.mm, fun a ha hi => ?_, fun a ha => ⟨(h.mb a ha).1, fun hi => ?_⟩, fun a ha => ?_⟩
 ·rcases hio a hi with h1 | h1
  ·exact h.mi a ha h1
  ·have := (hx a h1).1; have := h.lt a (.inl ha); omega
 ·rcases hio a hi with h1 | h1
  ·exact (h.mb a ha).2 h1
  ·have := (hx a h1).1; have := h.lt a (.inr (.inr ha)); omega
 ·rcases ha with h1 | h1 | h1
  ·exact Nat.lt_of_lt_of_le (h.lt a (.inl h1)) hn
  ·rcases hio a h1 with h2 | h2
   ·exact Nat.lt_of_lt_of_le (h.lt a (.inr (.inl h2))) hn
   ·exact (hx a h2).2
  ·exact Nat.lt_of_lt_of_le (h.lt a (.inr (.inr h1))) hn
theorem Sep.freeze {n : Nat} {mo io io' : List (Option Nat)} {bs : List Nat} (h : Sep n mo io bs) (j : Nat) (x : Option Nat) (hx : mo[j]? = some x) (hio : ∀ a, some a ∈ io' → some a ∈ io ∨ x = some a) : Sep n (mo.set j none) io' bs := by
 have hmem : ∀ a, some a ∈ mo.set j none → some a ∈ mo ∧ x ≠ some a := by
  intro a ha
  obtain ⟨i, hi⟩ := List.mem_iff_getElem?.1 ha
  rw [List.getElem?_set] at hi
  split at hi
  ·split at hi
   ·injection hi with hi; cases hi
   ·cases hi
  ·rename_i hne
   refine ⟨List.mem_of_getElem? hi, fun e => hne ?_⟩
   exact h.mm j i a (by rw [hx, e]) hi
 have hat : ∀ (i a : Nat), (mo.set j none)[i]? = some (some a) → mo[i]? = some (some a) := by
  intro i a hi
  rw [List.getElem?_set] at hi
  split at hi
  ·split at hi
   ·injection hi with hi; cases hi
   ·cases hi
  ·exact hi
 refine ⟨fun i k a hi hk => h.mm i k a (hat i a hi) (hat k a hk), fun a ha hi => ?_, fun a ha => ⟨fun hm => (h.mb a ha).1 (hmem a hm).1, fun hi => ?_⟩, fun a ha => ?_⟩
 ·rcases hio a hi with h1 | h1
  ·exact h.mi a (hmem a ha).1 h1
  ·exact (hmem a ha).2 h1
 ·rcases hio a hi with h1 | h1
  ·exact (h.mb a ha).2 h1
  ·exact (h.mb a ha).1 (List.mem_of_getElem? (by rw [hx, h1]))
 ·rcases ha with h1 | h1 | h1
  ·exact h.lt a (.inl (hmem a h1).1)
  ·rcases hio a h1 with h2 | h2
   ·exact h.lt a (.inr (.inl h2))
   ·exact h.lt a (.inl (List.mem_of_getElem? (by rw [hx, h2])))
  ·exact h.lt a (.inr (.inr h1))
abbrev u64s (l : List Nat) : List Value := l.map fun (n : Nat) => Value.int .u64 (n : Int)
def keyV (A : List Nat) : Value := .string ⟨(keyX A).toArray⟩
def tmap (SS : List (List Nat)) : List (Value × Value) := SS.zipIdx.map fun p => (keyV p.1, .int .i64 (p.2 : Int))
theorem keyV_inj {A B : List Nat} (h : keyV A = keyV B) : A = B := by
 unfold keyV at h
 injection h with h
 injection h with h
 have := congrArg Array.toList h
 exact keyX_inj (by simpa using this)
theorem tmap_mem {ks : List (List Nat)} {x : List Nat} {i : Nat} (h : ks[i]? = some x) : (keyV x, Value.int .i64 (i : Int)) ∈ tmap ks := by
 refine List.mem_map.2 ⟨(x, i), ?_, rfl⟩
 rw [List.mem_zipIdx_iff_getElem?]
 exact h
theorem tmap_none {ks : List (List Nat)} {x : List Nat} (h : x ∉ ks) : ∀ p ∈ tmap ks, p.1 ≠ keyV x := by
 intro p hp e
 obtain ⟨q, hq, rfl⟩ := List.mem_map.1 hp
 rw [List.mem_zipIdx_iff_getElem?] at hq
 have := keyV_inj e
 subst this
 exact h (List.mem_of_getElem? hq)
theorem tmap_push (ks : List (List Nat)) (x : List Nat) : tmap (ks ++ [x]) = tmap ks ++ [(keyV x, .int .i64 (ks.length : Int))] := by
 simp [tmap, List.zipIdx_append]
structure BS (l : List RX) (DM db mb : Nat) (wM w : World) (fv sv rv nv tv nd td uv : Value) (SS MM : List (List Nat)) (R : List Int) (NX : List (List Int)) (TG : List Nat) (SV NV : List Value) (UA : List Nat) : Prop where
 base : Below DM wM w
 hdm : DM ≤ w.heap.size
 dm : DM ≤ db ∧ DM ≤ mb
 ne : db ≠ mb
 d : w.heap[db]? = some (.cells (dvc (clsX l) nd td) 26 (0, 0))
 f : w.ownsRow DM 5 1 fv (X5.fsX (clsX l) 256).length (bys (X5.fsX (clsX l) 256))
 s : w.ownsRow DM 87 1 sv SV.length SV
 r : w.ownsRow DM 3 1 rv R.length (zs R)
 n : w.ownsRow DM 87 1 nv NV.length NV
 t : w.ownsRow DM 54 1 tv TG.length (u64s TG)
 u : w.ownsRow DM 3 1 uv UA.length (ints UA)
 sl : SV.length = SS.length
 each : ∀ (i : Nat) (v : Value) (A : List Nat), SV[i]? = some v → SS[i]? = some A → w.ownsRow DM 3 1 v A.length (ints A)
 nl : NV.length = NX.length
 neach : ∀ (i : Nat) (v : Value) (x : List Int), NV[i]? = some v → NX[i]? = some x → w.ownsRow DM 3 1 v x.length (zs x)
 map : MapIs Tryz.prog 9 w mb (tmap MM)
 sep : Sep w.heap.size [sv.ownBlock, rv.ownBlock, nv.ownBlock, tv.ownBlock] (fv.ownBlock :: uv.ownBlock :: (SV.map Value.ownBlock ++ NV.map Value.ownBlock)) [db, mb]
section
variable {l : List RX} {DM db mb : Nat} {wM w : World} {fv sv rv nv tv nd td uv : Value} {SS MM : List (List Nat)} {R : List Int} {NX : List (List Int)} {TG : List Nat} {SV NV : List Value} {UA : List Nat}
theorem grown_row {w w' : World} {o : Option Nat} {B size n : Nat} {e : TypeId} {v : Value} {xs : List Value} (h : w.ownsRow B e size v n xs) (hg : w.grownBy w' o) (hne : ∀ a, v.ownBlock = some a → o ≠ some a) : w'.ownsRow B e size v n xs :=
 owns_kept h fun g hv => hg.block g (owns_lt h g hv).2 (fun e => hne g hv e.symm)
theorem below_grown {DM : Nat} {wM w w' : World} {o : Option Nat} (hb : Below DM wM w) (hd : DM ≤ w.heap.size) (hg : w.grownBy w' o) (ho : ∀ a, o = some a → DM ≤ a) : Below DM wM w' := hb.grown hg hd ho
theorem BS.grow (h : BS l DM db mb wM w fv sv rv nv tv nd td uv SS MM R NX TG SV NV UA) {w' : World} (hb : Below w.heap.size w w') : BS l DM db mb wM w' fv sv rv nv tv nd td uv SS MM R NX TG SV NV UA where
 base := h.base.trans (hb.mono h.hdm)
 hdm := Nat.le_trans h.hdm hb.size
 dm := h.dm
 ne := h.ne
 d := (hb.block _ (Array.getElem?_eq_some_iff.1 h.d).1).trans h.d
 f := owns_kept h.f fun g hg => hb.block g (owns_lt h.f g hg).2
 s := owns_kept h.s fun g hg => hb.block g (owns_lt h.s g hg).2
 r := owns_kept h.r fun g hg => hb.block g (owns_lt h.r g hg).2
 n := owns_kept h.n fun g hg => hb.block g (owns_lt h.n g hg).2
 t := owns_kept h.t fun g hg => hb.block g (owns_lt h.t g hg).2
 u := owns_kept h.u fun g hg => hb.block g (owns_lt h.u g hg).2
 sl := h.sl
 each := fun i v A hv hA => owns_kept (h.each i v A hv hA) fun g hg => hb.block g (owns_lt (h.each i v A hv hA) g hg).2
 nl := h.nl
 neach := fun i v x hv hx => owns_kept (h.neach i v x hv hx) fun g hg => hb.block g (owns_lt (h.neach i v x hv hx) g hg).2
 map := h.map.below hb
 sep := h.sep.mono hb.size
theorem BS.hold (h : BS l DM db mb wM w fv sv rv nv tv nd td uv SS MM R NX TG SV NV UA) {w' : World} {u : Value} {A : List Nat} (hb : Below w.heap.size w w') (hu : w'.ownsRow w.heap.size 3 1 u A.length (ints A)) : BS l DM db mb wM w' fv sv rv nv tv nd td u SS MM R NX TG SV NV A where
 base := h.base.trans (hb.mono h.hdm)
 hdm := Nat.le_trans h.hdm hb.size
 dm := h.dm
 ne := h.ne
 d := (hb.block _ (Array.getElem?_eq_some_iff.1 h.d).1).trans h.d
 f := owns_kept h.f fun g hg => hb.block g (owns_lt h.f g hg).2
 s := owns_kept h.s fun g hg => hb.block g (owns_lt h.s g hg).2
 r := owns_kept h.r fun g hg => hb.block g (owns_lt h.r g hg).2
 n := owns_kept h.n fun g hg => hb.block g (owns_lt h.n g hg).2
 t := owns_kept h.t fun g hg => hb.block g (owns_lt h.t g hg).2
 u := ⟨hu.1, hu.2.imp id fun ⟨g, cap, cur, e1, e2, e3⟩ => ⟨g, cap, cur, e1, Nat.le_trans h.hdm e2, e3⟩⟩
 sl := h.sl
 each := fun i v A hv hA => owns_kept (h.each i v A hv hA) fun g hg => hb.block g (owns_lt (h.each i v A hv hA) g hg).2
 nl := h.nl
 neach := fun i v x hv hx => owns_kept (h.neach i v x hv hx) fun g hg => hb.block g (owns_lt (h.neach i v x hv hx) g hg).2
 map := h.map.below hb
 sep := h.sep.imm u.ownBlock (fun a ha => owns_lt hu a ha) (fun a ha => by
  simp only [List.mem_cons, List.mem_append] at ha ⊢
  rcases ha with h1 | h1 | h1
  ·exact .inl (.inl h1)
  ·exact .inr h1.symm
  ·exact .inl (.inr (.inr h1))) hb.size
theorem BS.f_off (h : BS l DM db mb wM w fv sv rv nv tv nd td uv SS MM R NX TG SV NV UA) {o : Option Nat} (ho : o ∈ [sv.ownBlock, rv.ownBlock, nv.ownBlock, tv.ownBlock]) : ∀ a, fv.ownBlock = some a → o ≠ some a := fun a ha e => by
 subst e; exact h.sep.mi a ho (by rw [ha]; simp)
theorem BS.u_off (h : BS l DM db mb wM w fv sv rv nv tv nd td uv SS MM R NX TG SV NV UA) {o : Option Nat} (ho : o ∈ [sv.ownBlock, rv.ownBlock, nv.ownBlock, tv.ownBlock]) : ∀ a, uv.ownBlock = some a → o ≠ some a := fun a ha e => by
 subst e; exact h.sep.mi a ho (by rw [ha]; simp)
theorem BS.sv_off (h : BS l DM db mb wM w fv sv rv nv tv nd td uv SS MM R NX TG SV NV UA) {o : Option Nat} (ho : o ∈ [sv.ownBlock, rv.ownBlock, nv.ownBlock, tv.ownBlock]) {i : Nat} {v : Value} (hv : SV[i]? = some v) : ∀ a, v.ownBlock = some a → o ≠ some a := fun a ha e => by
 subst e; exact h.sep.mi a ho (by rw [← ha]; simp only [List.mem_cons, List.mem_append]; exact .inr (.inr (.inl (List.mem_map.2 ⟨v, List.mem_of_getElem? hv, rfl⟩))))
theorem BS.nv_off (h : BS l DM db mb wM w fv sv rv nv tv nd td uv SS MM R NX TG SV NV UA) {o : Option Nat} (ho : o ∈ [sv.ownBlock, rv.ownBlock, nv.ownBlock, tv.ownBlock]) {i : Nat} {v : Value} (hv : NV[i]? = some v) : ∀ a, v.ownBlock = some a → o ≠ some a := fun a ha e => by
 subst e; exact h.sep.mi a ho (by rw [← ha]; simp only [List.mem_cons, List.mem_append]; exact .inr (.inr (.inr (List.mem_map.2 ⟨v, List.mem_of_getElem? hv, rfl⟩))))
theorem BS.mut_off (h : BS l DM db mb wM w fv sv rv nv tv nd td uv SS MM R NX TG SV NV UA) (i j : Nat) {o x : Option Nat} (hi : [sv.ownBlock, rv.ownBlock, nv.ownBlock, tv.ownBlock][i]? = some x) (hj : [sv.ownBlock, rv.ownBlock, nv.ownBlock, tv.ownBlock][j]? = some o) (hij : i ≠ j) : ∀ a, x = some a → o ≠ some a := fun a ha e => by
 subst e; subst ha; exact hij (h.sep.mm i j a hi hj)
theorem BS.b_off (h : BS l DM db mb wM w fv sv rv nv tv nd td uv SS MM R NX TG SV NV UA) {o : Option Nat} (ho : o ∈ [sv.ownBlock, rv.ownBlock, nv.ownBlock, tv.ownBlock]) : some db ≠ o ∧ some mb ≠ o :=
 ⟨fun e => by subst e; exact (h.sep.mb db (by simp)).1 ho, fun e => by subst e; exact (h.sep.mb mb (by simp)).1 ho⟩
theorem own_dm {w : World} {B size n : Nat} {e : TypeId} {v : Value} {xs : List Value} (h : w.ownsRow B e size v n xs) : ∀ a, v.ownBlock = some a → B ≤ a := fun a ha => (owns_lt h a ha).1
theorem BS.row_push (h : BS l DM db mb wM w fv sv rv nv tv nd td uv SS MM R NX TG SV NV UA) {z : Int} {w' : World} {v' : Value} (hown : w'.ownsRow DM 3 1 v' (R.length + 1) (zs R ++ [.int .i64 z])) (hg : w.grownBy w' rv.ownBlock) (hat : v'.ownBlock = rv.ownBlock ∨ v'.ownBlock = some w.heap.size) : BS l DM db mb wM w' fv sv v' nv tv nd td uv SS MM (R ++ [z]) NX TG SV NV UA where
 base := below_grown h.base h.hdm hg (own_dm h.r)
 hdm := Nat.le_trans h.hdm hg.size
 dm := h.dm
 ne := h.ne
 d := (hg.block _ (Array.getElem?_eq_some_iff.1 h.d).1 (h.b_off (by simp)).1).trans h.d
 f := grown_row h.f hg (h.f_off (by simp))
 s := grown_row h.s hg (h.mut_off 0 1 rfl rfl (by decide))
 r := by rw [List.length_append]; unfold zs; rw [List.map_append]; exact hown
 n := grown_row h.n hg (h.mut_off 2 1 rfl rfl (by decide))
 t := grown_row h.t hg (h.mut_off 3 1 rfl rfl (by decide))
 u := grown_row h.u hg (h.u_off (by simp))
 sl := h.sl
 each := fun i v A hv hA => grown_row (h.each i v A hv hA) hg (h.sv_off (by simp) hv)
 nl := h.nl
 neach := fun i v x hv hx => grown_row (h.neach i v x hv hx) hg (h.nv_off (by simp) hv)
 map := h.map.kept (hg.block _ h.map.lt (h.b_off (by simp)).2)
 sep := h.sep.upd (N := w.heap.size) 1 v'.ownBlock (by
  rcases hat with e | e
  ·exact .inl (by rw [e]; rfl)
  ·exact .inr ⟨e, Nat.le_refl _, (owns_lt hown _ e).2⟩) hg.size
theorem BS.set_push (h : BS l DM db mb wM w fv sv rv nv tv nd td uv SS MM R NX TG SV NV UA) {w' : World} {v' : Value} (hown : w'.ownsRow DM 87 1 v' (SV.length + 1) (SV ++ [uv])) (hg : w.grownBy w' sv.ownBlock) (hat : v'.ownBlock = sv.ownBlock ∨ v'.ownBlock = some w.heap.size) : BS l DM db mb wM w' fv v' rv nv tv nd td uv (SS ++ [UA]) MM R NX TG (SV ++ [uv]) NV UA where
 base := below_grown h.base h.hdm hg (own_dm h.s)
 hdm := Nat.le_trans h.hdm hg.size
 dm := h.dm
 ne := h.ne
 d := (hg.block _ (Array.getElem?_eq_some_iff.1 h.d).1 (h.b_off (by simp)).1).trans h.d
 f := grown_row h.f hg (h.f_off (by simp))
 s := by rw [List.length_append]; exact hown
 r := grown_row h.r hg (h.mut_off 1 0 rfl rfl (by decide))
 n := grown_row h.n hg (h.mut_off 2 0 rfl rfl (by decide))
 t := grown_row h.t hg (h.mut_off 3 0 rfl rfl (by decide))
 u := grown_row h.u hg (h.u_off (by simp))
 sl := by rw [List.length_append, List.length_append, h.sl]; rfl
 each := fun i v A hv hA => by
  rw [List.getElem?_append] at hv hA
  by_cases hi : i < SV.length
  ·rw [if_pos hi] at hv
   rw [if_pos (by rw [← h.sl]; exact hi)] at hA
   exact grown_row (h.each i v A hv hA) hg (h.sv_off (by simp) hv)
  ·rw [if_neg hi] at hv
   rw [if_neg (by rw [← h.sl]; exact hi), ← h.sl] at hA
   have h0 : i - SV.length = 0 := by
    have := (List.getElem?_eq_some_iff.1 hv).1
    simp at this; omega
   rw [h0] at hv hA
   simp at hv hA
   subst hv hA
   exact grown_row h.u hg (h.u_off (by simp))
 nl := h.nl
 neach := fun i v x hv hx => grown_row (h.neach i v x hv hx) hg (h.nv_off (by simp) hv)
 map := h.map.kept (hg.block _ h.map.lt (h.b_off (by simp)).2)
 sep := (h.sep.upd (N := w.heap.size) 0 v'.ownBlock (by
  rcases hat with e | e
  ·exact .inl (by rw [e]; rfl)
  ·exact .inr ⟨e, Nat.le_refl _, (owns_lt hown _ e).2⟩) hg.size).imm none (fun a ha => by cases ha) (fun a ha => by
  left
  simp only [List.map_append, List.mem_cons, List.mem_append, List.map_cons, List.map_nil, List.not_mem_nil, or_false] at ha ⊢
  rcases ha with h1 | h1 | (h1 | h1) | h1
  ·exact .inl h1
  ·exact .inr (.inl h1)
  ·exact .inr (.inr (.inl h1))
  ·exact .inr (.inl h1)
  ·exact .inr (.inr (.inr h1))) (Nat.le_refl _)
theorem BS.map_put (h : BS l DM db mb wM w fv sv rv nv tv nd td uv SS MM R NX TG SV NV UA) {w' : World} {M2 : List (List Nat)} (hm : MapIs Tryz.prog 9 w' mb (tmap M2)) (hg : w.grownBy w' (some mb)) : BS l DM db mb wM w' fv sv rv nv tv nd td uv SS M2 R NX TG SV NV UA where
 base := below_grown h.base h.hdm hg (fun a ha => by injection ha with ha; subst ha; exact h.dm.2)
 hdm := Nat.le_trans h.hdm hg.size
 dm := h.dm
 ne := h.ne
 d := (hg.block _ (Array.getElem?_eq_some_iff.1 h.d).1 (fun e => h.ne (by injection e))).trans h.d
 f := grown_row h.f hg (fun a ha e => (h.sep.mb mb (by simp)).2 (by rw [e, ← ha]; simp))
 s := grown_row h.s hg (fun a ha e => (h.sep.mb mb (by simp)).1 (by rw [e, ← ha]; simp))
 r := grown_row h.r hg (fun a ha e => (h.sep.mb mb (by simp)).1 (by rw [e, ← ha]; simp))
 n := grown_row h.n hg (fun a ha e => (h.sep.mb mb (by simp)).1 (by rw [e, ← ha]; simp))
 t := grown_row h.t hg (fun a ha e => (h.sep.mb mb (by simp)).1 (by rw [e, ← ha]; simp))
 u := grown_row h.u hg (fun a ha e => (h.sep.mb mb (by simp)).2 (by rw [e, ← ha]; simp))
 sl := h.sl
 each := fun i v A hv hA => grown_row (h.each i v A hv hA) hg (fun a ha e => (h.sep.mb mb (by simp)).2 (by rw [e, ← ha]; simp only [List.mem_cons, List.mem_append]; exact .inr (.inr (.inl (List.mem_map.2 ⟨v, List.mem_of_getElem? hv, rfl⟩)))))
 nl := h.nl
 neach := fun i v x hv hx => grown_row (h.neach i v x hv hx) hg (fun a ha e => (h.sep.mb mb (by simp)).2 (by rw [e, ← ha]; simp only [List.mem_cons, List.mem_append]; exact .inr (.inr (.inr (List.mem_map.2 ⟨v, List.mem_of_getElem? hv, rfl⟩)))))
 map := hm
 sep := h.sep.mono hg.size
theorem BS.next_push (h : BS l DM db mb wM w fv sv rv nv tv nd td uv SS MM R NX TG SV NV UA) {w' : World} {v' : Value} (hown : w'.ownsRow DM 87 1 v' (NV.length + 1) (NV ++ [rv])) (hg : w.grownBy w' nv.ownBlock) (hat : v'.ownBlock = nv.ownBlock ∨ v'.ownBlock = some w.heap.size) : BS l DM db mb wM w' fv sv nil1 v' tv nd td uv SS MM [] (NX ++ [R]) TG SV (NV ++ [rv]) UA where
 base := below_grown h.base h.hdm hg (own_dm h.n)
 hdm := Nat.le_trans h.hdm hg.size
 dm := h.dm
 ne := h.ne
 d := (hg.block _ (Array.getElem?_eq_some_iff.1 h.d).1 (h.b_off (by simp)).1).trans h.d
 f := grown_row h.f hg (h.f_off (by simp))
 s := grown_row h.s hg (h.mut_off 0 2 rfl rfl (by decide))
 r := World.ownsRow_nil _ _ _ _
 n := by rw [List.length_append]; exact hown
 t := grown_row h.t hg (h.mut_off 3 2 rfl rfl (by decide))
 u := grown_row h.u hg (h.u_off (by simp))
 sl := h.sl
 each := fun i v A hv hA => grown_row (h.each i v A hv hA) hg (h.sv_off (by simp) hv)
 nl := by rw [List.length_append, List.length_append, h.nl]; rfl
 neach := fun i v x hv hx => by
  rw [List.getElem?_append] at hv hx
  by_cases hi : i < NV.length
  ·rw [if_pos hi] at hv
   rw [if_pos (by rw [← h.nl]; exact hi)] at hx
   exact grown_row (h.neach i v x hv hx) hg (h.nv_off (by simp) hv)
  ·rw [if_neg hi] at hv
   rw [if_neg (by rw [← h.nl]; exact hi), ← h.nl] at hx
   have h0 : i - NV.length = 0 := by
    have := (List.getElem?_eq_some_iff.1 hv).1
    simp at this; omega
   rw [h0] at hv hx
   simp at hv hx
   subst hv hx
   exact grown_row h.r hg (h.mut_off 1 2 rfl rfl (by decide))
 map := h.map.kept (hg.block _ h.map.lt (h.b_off (by simp)).2)
 sep := (h.sep.upd (N := w.heap.size) 2 v'.ownBlock (by
  rcases hat with e | e
  ·exact .inl (by rw [e]; rfl)
  ·exact .inr ⟨e, Nat.le_refl _, (owns_lt hown _ e).2⟩) hg.size).freeze 1 rv.ownBlock rfl (fun a ha => by
  simp only [List.map_append, List.mem_cons, List.mem_append, List.map_cons, List.map_nil, List.not_mem_nil, or_false] at ha ⊢
  rcases ha with h1 | h1 | h1 | h1 | h1
  ·exact .inl (.inl h1)
  ·exact .inl (.inr (.inl h1))
  ·exact .inl (.inr (.inr (.inl h1)))
  ·exact .inl (.inr (.inr (.inr h1)))
  ·exact .inr h1.symm)
theorem BS.tag_push (h : BS l DM db mb wM w fv sv rv nv tv nd td uv SS MM R NX TG SV NV UA) {q : Nat} {w' : World} {v' : Value} (hown : w'.ownsRow DM 54 1 v' (TG.length + 1) (u64s TG ++ [.int .u64 (q : Int)])) (hg : w.grownBy w' tv.ownBlock) (hat : v'.ownBlock = tv.ownBlock ∨ v'.ownBlock = some w.heap.size) : BS l DM db mb wM w' fv sv rv nv v' nd td uv SS MM R NX (TG ++ [q]) SV NV UA where
 base := below_grown h.base h.hdm hg (own_dm h.t)
 hdm := Nat.le_trans h.hdm hg.size
 dm := h.dm
 ne := h.ne
 d := (hg.block _ (Array.getElem?_eq_some_iff.1 h.d).1 (h.b_off (by simp)).1).trans h.d
 f := grown_row h.f hg (h.f_off (by simp))
 s := grown_row h.s hg (h.mut_off 0 3 rfl rfl (by decide))
 r := grown_row h.r hg (h.mut_off 1 3 rfl rfl (by decide))
 n := grown_row h.n hg (h.mut_off 2 3 rfl rfl (by decide))
 t := by rw [List.length_append]; unfold u64s; rw [List.map_append]; exact hown
 u := grown_row h.u hg (h.u_off (by simp))
 sl := h.sl
 each := fun i v A hv hA => grown_row (h.each i v A hv hA) hg (h.sv_off (by simp) hv)
 nl := h.nl
 neach := fun i v x hv hx => grown_row (h.neach i v x hv hx) hg (h.nv_off (by simp) hv)
 map := h.map.kept (hg.block _ h.map.lt (h.b_off (by simp)).2)
 sep := h.sep.upd (N := w.heap.size) 3 v'.ownBlock (by
  rcases hat with e | e
  ·exact .inl (by rw [e]; rfl)
  ·exact .inr ⟨e, Nat.le_refl _, (owns_lt hown _ e).2⟩) hg.size
theorem set_row {w : World} {B size n db off : Nat} {e : TypeId} {v u : Value} {xs : List Value} (h : w.ownsRow B e size v n xs) (hne : v.ownBlock ≠ some db) : (w.setCell ⟨db, off, none⟩ u).ownsRow B e size v n xs :=
 owns_kept h fun g hg => Below.heap_setCell w ⟨db, off, none⟩ u g (fun e => hne (by rw [hg, e]))
theorem dvc_set256 {cs : List Nat} {a b c : Value} (hl : cs.length = 256) : (dvc cs a b).setIfInBounds 256 c = dvc cs c b := by
 have hs : (nvs cs).size = 256 := by rw [nvs_size, hl]
 unfold dvc
 generalize nvs cs = N at *
 refine Array.ext_getElem? fun i => ?_
 rw [Array.getElem?_setIfInBounds]
 by_cases h : i < 256
 ·rw [if_neg (by omega), Array.getElem?_append_left (by omega), Array.getElem?_append_left (by omega)]
 ·rw [Array.getElem?_append_right (by omega), Array.getElem?_append_right (by omega), hs]
  by_cases h1 : i = 256
  ·subst h1; simp [hs]
  ·rw [if_neg (by omega)]
   obtain ⟨k, hk⟩ : ∃ k, i - 256 = k + 1 := ⟨i - 257, by omega⟩
   rw [hk]; rfl
theorem dvc_set257 {cs : List Nat} {a b c : Value} (hl : cs.length = 256) : (dvc cs a b).setIfInBounds 257 c = dvc cs a c := by
 have hs : (nvs cs).size = 256 := by rw [nvs_size, hl]
 unfold dvc
 generalize nvs cs = N at *
 refine Array.ext_getElem? fun i => ?_
 rw [Array.getElem?_setIfInBounds]
 by_cases h : i < 256
 ·rw [if_neg (by omega), Array.getElem?_append_left (by omega), Array.getElem?_append_left (by omega)]
 ·rw [Array.getElem?_append_right (by omega), Array.getElem?_append_right (by omega), hs]
  by_cases h1 : i = 257
  ·subst h1; simp [hs]
  ·rw [if_neg (by omega)]
   by_cases h2 : i = 256
   ·subst h2; rfl
   ·obtain ⟨k, hk⟩ : ∃ k, i - 256 = k + 2 := ⟨i - 258, by omega⟩
    rw [hk]; rfl
theorem BS.store_next (h : BS l DM db mb wM w fv sv rv nv tv nd td uv SS MM R NX TG SV NV UA) : BS l DM db mb wM (w.setCell ⟨db, 256, none⟩ nv) fv sv rv nv tv nv td uv SS MM R NX TG SV NV UA where
 base := h.base.setCell (p := ⟨db, 256, none⟩) h.dm.1 _
 hdm := by rw [World.size_setCell]; exact h.hdm
 dm := h.dm
 ne := h.ne
 d := by rw [heap_setCell_same w db 256 _ 26 _ h.d, dvc_set256]; exact (cls_good l).1
 f := set_row h.f (fun e => (h.sep.mb db (by simp)).2 (by rw [← e]; simp))
 s := set_row h.s (fun e => (h.sep.mb db (by simp)).1 (by rw [← e]; simp))
 r := set_row h.r (fun e => (h.sep.mb db (by simp)).1 (by rw [← e]; simp))
 n := set_row h.n (fun e => (h.sep.mb db (by simp)).1 (by rw [← e]; simp))
 t := set_row h.t (fun e => (h.sep.mb db (by simp)).1 (by rw [← e]; simp))
 u := set_row h.u (fun e => (h.sep.mb db (by simp)).2 (by rw [← e]; simp))
 sl := h.sl
 each := fun i v A hv hA => set_row (h.each i v A hv hA) (fun e => (h.sep.mb db (by simp)).2 (by rw [← e]; simp only [List.mem_cons, List.mem_append]; exact .inr (.inr (.inl (List.mem_map.2 ⟨v, List.mem_of_getElem? hv, rfl⟩)))))
 nl := h.nl
 neach := fun i v x hv hx => set_row (h.neach i v x hv hx) (fun e => (h.sep.mb db (by simp)).2 (by rw [← e]; simp only [List.mem_cons, List.mem_append]; exact .inr (.inr (.inr (List.mem_map.2 ⟨v, List.mem_of_getElem? hv, rfl⟩)))))
 map := h.map.kept (Below.heap_setCell w _ _ mb (fun e => h.ne e.symm))
 sep := by rw [World.size_setCell]; exact h.sep
theorem BS.store_tags (h : BS l DM db mb wM w fv sv rv nv tv nd td uv SS MM R NX TG SV NV UA) : BS l DM db mb wM (w.setCell ⟨db, 257, none⟩ tv) fv sv rv nv tv nd tv uv SS MM R NX TG SV NV UA where
 base := h.base.setCell (p := ⟨db, 257, none⟩) h.dm.1 _
 hdm := by rw [World.size_setCell]; exact h.hdm
 dm := h.dm
 ne := h.ne
 d := by rw [heap_setCell_same w db 257 _ 26 _ h.d, dvc_set257]; exact (cls_good l).1
 f := set_row h.f (fun e => (h.sep.mb db (by simp)).2 (by rw [← e]; simp))
 s := set_row h.s (fun e => (h.sep.mb db (by simp)).1 (by rw [← e]; simp))
 r := set_row h.r (fun e => (h.sep.mb db (by simp)).1 (by rw [← e]; simp))
 n := set_row h.n (fun e => (h.sep.mb db (by simp)).1 (by rw [← e]; simp))
 t := set_row h.t (fun e => (h.sep.mb db (by simp)).1 (by rw [← e]; simp))
 u := set_row h.u (fun e => (h.sep.mb db (by simp)).2 (by rw [← e]; simp))
 sl := h.sl
 each := fun i v A hv hA => set_row (h.each i v A hv hA) (fun e => (h.sep.mb db (by simp)).2 (by rw [← e]; simp only [List.mem_cons, List.mem_append]; exact .inr (.inr (.inl (List.mem_map.2 ⟨v, List.mem_of_getElem? hv, rfl⟩)))))
 nl := h.nl
 neach := fun i v x hv hx => set_row (h.neach i v x hv hx) (fun e => (h.sep.mb db (by simp)).2 (by rw [← e]; simp only [List.mem_cons, List.mem_append]; exact .inr (.inr (.inr (List.mem_map.2 ⟨v, List.mem_of_getElem? hv, rfl⟩)))))
 map := h.map.kept (Below.heap_setCell w _ _ mb (fun e => h.ne e.symm))
 sep := by rw [World.size_setCell]; exact h.sep
end
end Go.Proofs.YtochckefnjobhaaGreatDoor
namespace Go.Proofs.YtochckefnjobhaaGreatDoor
open Go Go.RowKit Go.Lib
open X3 (RX Pl)
open X5 (Aut)
set_option linter.unusedVariables false
set_option linter.unusedSimpArgs false
def Okay (l : List RX) (A : List Nat) : Prop := A.Pairwise (· < ·) ∧ ∀ q ∈ A, q < (Pm l).length
theorem Okay.len {l : List RX} {A : List Nat} (h : Okay l A) : A.length ≤ (Pm l).length := by
 have hnd : A.Nodup := h.1.imp (fun {a b} hab => by omega)
 have hsub : A ⊆ List.range (Pm l).length := fun q hq => List.mem_range.2 (h.2 q hq)
 have := hnd.length_le_of_subset hsub
 simpa using this
theorem StepR.okay {l : List RX} {A B : List Nat} {x : Nat} (h : StepR l A x B) (hl : (Tm l).length = (Pm l).length) : Okay l B := ⟨h.up, fun q hq => by
 rcases ((h.is q).1 hq).2 with ⟨pl, hp, _⟩ | ⟨t, ht, _⟩
 ·exact (List.getElem?_eq_some_iff.1 hp).1
 ·rw [← hl]; exact (List.getElem?_eq_some_iff.1 ht).1⟩
abbrev Fx (l : List RX) : List Nat := X5.fsX (clsX l) 256
def RowTo (l : List RX) (SS : List (List Nat)) (x : List Int) (A : List Nat) (k : Nat) : Prop :=
 x.length = k ∧ ∀ c f, c < k → (Fx l)[c]? = some f → ∃ B, StepR l A f B ∧ ((B = [] ∧ x.getD c 0 = -1) ∨ (B ≠ [] ∧ ∃ n : Nat, x.getD c 0 = (n : Int) ∧ SS[n]? = some B))
theorem RowTo.more {l : List RX} {SS SS' : List (List Nat)} {x : List Int} {A : List Nat} {k : Nat} (h : RowTo l SS x A k) (hp : SS <+: SS') : RowTo l SS' x A k := by
 obtain ⟨r, rfl⟩ := hp
 refine ⟨h.1, fun c f hc hf => ?_⟩
 obtain ⟨B, hB, h1 | ⟨h1, n, h2, h3⟩⟩ := h.2 c f hc hf
 ·exact ⟨B, hB, .inl h1⟩
 ·exact ⟨B, hB, .inr ⟨h1, n, h2, by rw [List.getElem?_append_left (List.getElem?_eq_some_iff.1 h3).1]; exact h3⟩⟩
theorem RowTo.push {l : List RX} {SS : List (List Nat)} {x : List Int} {A B : List Nat} {k f : Nat} {z : Int} (h : RowTo l SS x A k) (hf : (Fx l)[k]? = some f) (hB : StepR l A f B) (hz : (B = [] ∧ z = -1) ∨ (B ≠ [] ∧ ∃ n : Nat, z = (n : Int) ∧ SS[n]? = some B)) : RowTo l SS (x ++ [z]) A (k + 1) := by
 refine ⟨by rw [List.length_append, h.1]; rfl, fun c f' hc hf' => ?_⟩
 by_cases hck : c < k
 ·obtain ⟨B', hB', h1⟩ := h.2 c f' hck hf'
  have e : (x ++ [z]).getD c 0 = x.getD c 0 := by
   rw [List.getD_eq_getElem?_getD, List.getElem?_append_left (by rw [h.1]; exact hck), List.getD_eq_getElem?_getD]
  rw [e]
  exact ⟨B', hB', h1⟩
 ·obtain rfl : c = k := by omega
  rw [hf] at hf'
  injection hf' with hf'
  subst hf'
  have e : (x ++ [z]).getD c 0 = z := by
   rw [List.getD_eq_getElem?_getD, List.getElem?_append_right (by rw [h.1]; exact Nat.le_refl _), h.1]; simp
  rw [e]
  exact ⟨B, hB, hz⟩
structure SetsOk (l : List RX) (A0 : List Nat) (SS : List (List Nat)) : Prop where
 begin_ : SS[0]? = some A0
 nodup : SS.Nodup
 okay : ∀ A ∈ SS, Okay l A
theorem SetsOk.push {l : List RX} {A0 B : List Nat} {SS : List (List Nat)} (h : SetsOk l A0 SS) (hB : Okay l B) (hn : B ∉ SS) : SetsOk l A0 (SS ++ [B]) := by
 refine ⟨by rw [List.getElem?_append_left (List.getElem?_eq_some_iff.1 h.begin_).1]; exact h.begin_, ?_, fun A hA => ?_⟩
 ·rw [List.nodup_append]
  refine ⟨h.nodup, by simp, fun a ha b hb => ?_⟩
  simp at hb
  subst hb
  exact fun e => hn (by rw [← e]; exact ha)
 ·rcases List.mem_append.1 hA with h1 | h1
  ·exact h.okay A h1
  ·simp at h1; subst h1; exact hB
structure StOk (l : List RX) (SS : List (List Nat)) (NX : List (List Int)) (TG : List Nat) (i : Nat) : Prop where
 nl : NX.length = i
 tl : TG.length = i
 rows : ∀ (j : Nat) (A : List Nat) (x : List Int), SS[j]? = some A → NX[j]? = some x → RowTo l SS x A (Fx l).length
 tags : ∀ (j : Nat) (A : List Nat), j < i → SS[j]? = some A → TG[j]? = some (X4.tagsX (Tm l) A)
theorem StOk.more {l : List RX} {SS SS' : List (List Nat)} {NX : List (List Int)} {TG : List Nat} {i : Nat} (h : StOk l SS NX TG i) (hi : i ≤ SS.length) (hp : SS <+: SS') : StOk l SS' NX TG i := by
 have hpp := hp
 obtain ⟨r, rfl⟩ := hp
 have hback : ∀ j A, j < i → (SS ++ r)[j]? = some A → SS[j]? = some A := fun j A hj hA => by
  rwa [List.getElem?_append_left (by omega)] at hA
 refine ⟨h.nl, h.tl, fun j A x hA hx => ?_, fun j A hj hA => h.tags j A hj (hback j A hj hA)⟩
 have hj : j < i := by have := (List.getElem?_eq_some_iff.1 hx).1; rw [h.nl] at this; exact this
 exact (h.rows j A x (hback j A hj hA) hx).more hpp
theorem StOk.push {l : List RX} {SS : List (List Nat)} {NX : List (List Int)} {TG : List Nat} {i : Nat} {A : List Nat} {x : List Int} (h : StOk l SS NX TG i) (hA : SS[i]? = some A) (hx : RowTo l SS x A (Fx l).length) : StOk l SS (NX ++ [x]) (TG ++ [X4.tagsX (Tm l) A]) (i + 1) := by
 refine ⟨by rw [List.length_append, h.nl]; rfl, by rw [List.length_append, h.tl]; rfl, fun j A' x' hA' hx' => ?_, fun j A' hj hA' => ?_⟩
 ·rw [List.getElem?_append] at hx'
  split at hx'
  ·exact h.rows j A' x' hA' hx'
  ·rename_i hj
   have h0 : j - NX.length = 0 := by
    have := (List.getElem?_eq_some_iff.1 hx').1
    simp at this; omega
   have hji : j = i := by have := h.nl; omega
   rw [h0] at hx'
   simp at hx'
   subst hx' hji
   rw [hA] at hA'
   injection hA' with hA'
   subst hA'
   exact hx
 ·by_cases hji : j < i
  ·rw [List.getElem?_append_left (by rw [h.tl]; exact hji)]
   exact h.tags j A' hji hA'
  ·obtain rfl : j = i := by omega
   rw [hA] at hA'
   injection hA' with hA'
   subst hA'
   rw [List.getElem?_append_right (by rw [h.tl]; exact Nat.le_refl _), h.tl]
   simp
def Big (l : List RX) : Prop := ∃ SS : List (List Nat), 2000 < SS.length ∧ SS.Nodup ∧ ∀ A ∈ SS, Okay l A
theorem step_new {l : List RX} {B m : Nat} {w : World} {T : Nat → Nat} {pv : Value} {AS : List Value} {bv : Value} {A0 : List Nat} (h : Nfa l B m w T pv AS bv A0) {A : List Nat} (hA : Okay l A) {Bv : Nat} {v : Value} (hr : w.ownsRow Bv 3 1 v A.length (ints A)) (x : Nat) (hx : x < 256) :
  Calls Tryz.prog 78 #[.pointer (some ⟨m, 0, none⟩), v, .int .u8 (x : Int)] w fun e w' => ∃ rv A', e = .returned rv ∧ StepR l A x A' ∧ w'.ownsRow w.heap.size 3 1 rv A'.length (ints A') ∧ (A' = [] → rv = .slice none 0 0) ∧ Below w.heap.size w w' := by
 have hln := hA.len
 have hmu : X3.muL (Pm l) ≤ 100000 := h.mu
 have hlm : (Pm l).length ≤ X3.muL (Pm l) := len_mu _
 have hlA : A.length ≤ 100000 := by omega
 refine (step_any h.mach h.mw (Bv := Bv) (v := v) (l := A.map fun (q : Nat) => (q : Int)) (by rw [List.length_map, ← ints_zs]; exact hr) (by rw [List.length_map]; exact Nat.le_trans (Nat.add_le_add hlA hmu) (by decide)) x hx).mono ?_
 rintro e w' ⟨rv, A', rfl, hC, hr', hn, hb⟩
 refine ⟨rv, A', rfl, Closed.congr hC fun n => ?_, hr', hn, hb⟩
 constructor
 ·rintro ⟨p, pl, hp, h1⟩
  rw [List.mem_map] at hp
  obtain ⟨q, hq, e⟩ := hp
  obtain rfl : q = p := by omega
  exact ⟨q, pl, hq, h1⟩
 ·rintro ⟨p, pl, hp, h1⟩
  exact ⟨p, pl, List.mem_map.2 ⟨p, hp, rfl⟩, h1⟩
theorem tags_new {l : List RX} {B m : Nat} {w : World} {T : Nat → Nat} {pv : Value} {AS : List Value} {bv : Value} {A0 : List Nat} (h : Nfa l B m w T pv AS bv A0) {A : List Nat} (hA : Okay l A) {Bv : Nat} {v : Value} (hr : w.ownsRow Bv 3 1 v A.length (ints A)) :
  (Calls Tryz.prog 79 #[.pointer (some ⟨m, 0, none⟩), v] w fun e w' => e = .returned (.int .u64 ((X4.tagsX (Tm l) A : Nat) : Int)) ∧ w' = w) ∧ X4.tagsX (Tm l) A < 18446744073709551616 := by
 have hln := hA.len
 have hmu : X3.muL (Pm l) ≤ 100000 := h.mu
 have hlm : (Pm l).length ≤ X3.muL (Pm l) := len_mu _
 have hlA : A.length ≤ 100000 := by omega
 have e := tags_eq h.mw hA.2
 refine ⟨?_, by rw [← e]; exact tagsZ_lt h.mw.tb _ _⟩
 rw [← e]
 exact tags_any h.mach h.mw.tb (Bv := Bv) (v := v) (l := A.map fun (q : Nat) => (q : Int)) (by rw [List.length_map, ← ints_zs]; exact hr) (by rw [List.length_map]; exact Nat.lt_of_le_of_lt hlA (by decide))
theorem begin_new {l : List RX} {B m : Nat} {w : World} {T : Nat → Nat} {pv : Value} {AS : List Value} {bv : Value} {A0 : List Nat} (h : Nfa l B m w T pv AS bv A0) :
  Calls Tryz.prog 76 #[.pointer (some ⟨m, 0, none⟩)] w fun e w' => ∃ rv, e = .returned rv ∧ w'.ownsRow w.heap.size 3 1 rv A0.length (ints A0) ∧ Below w.heap.size w w' := by
 have hml := (Array.getElem?_eq_some_iff.1 h.mach.box).1
 have hmB := h.mach.mB
 have cm : w.cell? ⟨m, 1, none⟩ = some bv := by rw [Lib.cell_of_heap h.mach.box]; rfl
 have hrow := h.row
 rcases hrow.2 with ⟨rfl, h0⟩ | ⟨g, cap, cur, rfl, hBg, hg, hc, hcm, hs, ht⟩
 ·have hA : A0 = [] := List.eq_nil_of_length_eq_zero h0
  subst hA
  have kc := hid (clone_nil 0 0 w)
  clear h hrow h0
  go_enter Tryz.func76, Tryz.ntmps76
  go_wp2_with fail
  refine kc.out.mono ?_
  rintro e w1 ⟨rfl, rfl⟩
  go_wp2_with fail
  go_ret
  exact ⟨_, rfl, ⟨rfl, .inl ⟨rfl, rfl⟩⟩, Below.refl _ _⟩
 ·have hAP := At.len h.at_ h.mw.tl
  have hlm := len_mu (X4.mk l 0 [] []).2.1
  have hmu := h.mu
  have kc := hid (clone_ints g 0 A0.length cap (A0.map fun (q : Nat) => (q : Int)) w (by simp) (by omega) (fun j hj => by
   have hj' : j < A0.length := by simpa using hj
   rw [Nat.zero_add, hrow.cellAt j (by omega)]
   simp [ints, List.getD_eq_getElem?_getD, hj']))
  clear h hrow hg ht hs
  go_enter Tryz.func76, Tryz.ntmps76
  go_wp2_with fail
  refine kc.out.mono ?_
  rintro e w1 ⟨v', rfl, ho, hn, hb⟩
  have HO := hid ho
  have HB := hid hb
  clear ho hb
  go_wp2_with fail
  go_ret
  refine ⟨v', rfl, ?_, HB.out⟩
  have e1 : ((A0.map fun (q : Nat) => (q : Int)).take A0.length).map (Value.int .i64) = ints A0 := by
   rw [List.take_of_length_le (by simp)]; simp [ints]
  have ho := HO.out
  rw [e1] at ho
  exact ho
def BuiltP (l : List RX) (w : World) (e : Ending) (w' : World) : Prop :=
 Below w.heap.size w w' ∧ (((many l ∨ Big l) ∧ e = .returned (.tuple #[.agg dvz, .int .i64 4])) ∨
  (∃ D SS A0 nv tv, ¬ many l ∧ e = .returned (.tuple #[.agg (dval D nv tv), .int .i64 0]) ∧ AtN l [] A0 ∧ Sets l A0 D SS ∧ DAt w' nv tv D))
theorem built_end {l : List RX} {DM db mb : Nat} {wM w : World} {fv sv rv nv tv nd td uv : Value} {SS MM : List (List Nat)} {R : List Int} {NX : List (List Int)} {TG : List Nat} {SV NV : List Value} {UA : List Nat} {A0 : List Nat}
  (h : BS l DM db mb wM w fv sv rv nv tv nd td uv SS MM R NX TG SV NV UA) (hs : SetsOk l A0 SS) (ho : StOk l SS NX TG SS.length) (hT : ∀ q ∈ TG, q < 18446744073709551616) (hn : SS.length ≤ 100000) :
  Sets l A0 ⟨(clsX l).map fun (n : Nat) => (n : Int), NX, TG⟩ SS ∧ DAt w nv tv ⟨(clsX l).map fun (n : Nat) => (n : Int), NX, TG⟩ := by
 have hfl := X5.fs_len (clsX l) 256
 constructor
 ·refine ⟨rfl, hs.begin_, ho.nl, ho.tl, fun i A hA => ?_, fun i A hA => ?_⟩
  ·have hi := (List.getElem?_eq_some_iff.1 hA).1
   obtain ⟨x, hx⟩ : ∃ x, NX[i]? = some x := ⟨_, List.getElem?_eq_getElem (by rw [ho.nl]; exact hi)⟩
   have hr := ho.rows i A x hA hx
   have e : X5.rowOf ⟨(clsX l).map fun (n : Nat) => (n : Int), NX, TG⟩ i = x := by
    unfold X5.rowOf; rw [List.getD_eq_getElem?_getD, hx]; rfl
   rw [e]
   exact ⟨hr.1, fun c f hf => hr.2 c f (List.getElem?_eq_some_iff.1 hf).1 hf⟩
  ·have hi := (List.getElem?_eq_some_iff.1 hA).1
   rw [List.getD_eq_getElem?_getD, ho.tags i A hi hA]; rfl
 ·have hNV : NV.length = NX.length := h.nl
  have row : ∀ (v : Value) (x : List Int), w.ownsRow DM 3 1 v x.length (zs x) → RowAtI w v x := by
   intro v x hr
   rcases hr.2 with ⟨rfl, h0⟩ | ⟨g, cap, cur, rfl, _, hg, _⟩
   ·exact ⟨none, 0, by rw [h0], fun j hj => by omega⟩
   ·exact ⟨_, cap, rfl, fun j hj => ⟨g, 0, rfl, (Array.getElem?_eq_some_iff.1 hg).1, by rw [Nat.zero_add, hr.cellAt j (by omega)]; simp [zs, hj]⟩⟩
  refine ⟨by rw [List.length_map]; exact (cls_good l).1, ?_, ?_, ⟨by rw [ho.nl]; unfold maxLen; omega, by rw [ho.tl]; unfold maxLen; omega⟩, fun x hx => ?_⟩
  ·rcases h.n.2 with ⟨rfl, h0⟩ | ⟨g, cap, cur, rfl, _, hg, _⟩
   ·exact ⟨none, 0, by show nil1 = _; rw [← hNV, h0], fun i hi => by have : i < NX.length := hi; omega⟩
   ·refine ⟨_, cap, by show Value.slice _ NV.length cap = _; rw [hNV], fun i hi => ?_⟩
    have hi' : i < NX.length := hi
    obtain ⟨v, hv⟩ : ∃ v, NV[i]? = some v := ⟨_, List.getElem?_eq_getElem (by omega)⟩
    refine ⟨g, 0, v, rfl, (Array.getElem?_eq_some_iff.1 hg).1, by rw [Nat.zero_add, h.n.cellAt i (by omega), hv], row v _ (h.neach i v NX[i] hv (List.getElem?_eq_getElem hi'))⟩
  ·rcases h.t.2 with ⟨rfl, h0⟩ | ⟨g, cap, cur, rfl, _, hg, _⟩
   ·exact ⟨none, 0, by show nil1 = _; rw [h0], fun i hi => by have : i < TG.length := hi; omega⟩
   ·refine ⟨_, cap, rfl, fun i hi => ?_⟩
    have hi' : i < TG.length := hi
    exact ⟨g, 0, rfl, (Array.getElem?_eq_some_iff.1 hg).1, by rw [Nat.zero_add, h.t.cellAt i (by omega)]; simp [u64s, hi'], hT _ (List.getElem_mem hi')⟩
  ·obtain ⟨i, hi, rfl⟩ := List.mem_iff_getElem.1 hx
   have hi' : i < NX.length := hi
   obtain ⟨A, hA⟩ : ∃ A, SS[i]? = some A := ⟨_, List.getElem?_eq_getElem (by rw [← ho.nl]; exact hi')⟩
   have := (ho.rows i A NX[i] hA (List.getElem?_eq_getElem hi')).1
   have e : (NX[i]).length ≤ 256 := by rw [this]; exact hfl
   show (NX[i]).length ≤ maxLen
   unfold maxLen; omega
end Go.Proofs.YtochckefnjobhaaGreatDoor
namespace Go.Proofs.YtochckefnjobhaaGreatDoor
open Go Go.RowKit Go.Lib
open X3 (RX Pl)
open X5 (Aut)
set_option linter.unusedVariables false
set_option linter.unusedSimpArgs false
theorem results30 {fn : Func} (h : fn.results = #[.cell 2 26, .tmp 3]) (tmps : Array Value) (w : World) (g : Nat) (cs : Array Value) (n : Int)
  (hp : tmps.getD 2 undef = .pointer (some ⟨g, 0, none⟩)) (hn : tmps.getD 3 undef = .int .i64 n) (hg : w.heap[g]? = some (.cells cs 26 (0, 0))) (hl : cs.size = 258) :
  (results fn tmps).run Tryz.prog w = .ok (.tuple #[.agg cs, .int .i64 n]) w := by
 rw [results_cell_tmp h, hp, hn]
 simp [asAddr, Result.andThen, run_loadVar_row w g 26 26 cs (0, 0) _ hg Tryz.underlying26 rfl (by rw [size30, hl])]
theorem dvz_one : dvz.all (·.oneCell') = true := dvc_one zs0 (nv := nil1) (tv := nil1) rfl rfl
theorem dval_dvc (l : List RX) (NX : List (List Int)) (TG : List Nat) (nv tv : Value) : dval ⟨(clsX l).map fun (n : Nat) => (n : Int), NX, TG⟩ nv tv = dvc (clsX l) nv tv := by
 unfold dval ivs dvc nvs
 rw [List.map_map]; rfl
theorem key9 (A : List Nat) (h : ∀ q ∈ A, q < 1000000000) (hl : A.length ≤ 1000000) : keyOf Tryz.prog 9 (keyV A) = some (.string (keyX A)) := by
 have := keyX_len A h
 exact WideMaps.keyOf_string_mk Tryz.underlying9 (s := ⟨(keyX A).toArray⟩) (by show (keyX A).toArray.size ≤ maxLen; rw [List.size_toArray]; unfold maxLen; omega)
theorem ans_below {w w0 w' : World} {r : Nat} {cs : Array Value} (h : Below r w w') (hr : w.heap.size ≤ r) : Below w.heap.size w (w'.setRow r cs) :=
 ⟨h.os, h.tape, h.output, by rw [setRow_size]; exact h.size, fun g hg => by rw [setRow_other _ _ _ _ (by omega)]; exact h.block g (by omega)⟩
theorem info56 : (Tryz.prog.info? 87).map (fun i => (i.zero, i.size, i.bytes)) = some (some nil1, 1, 24) := by kernel_rfl
theorem info43 : (Tryz.prog.info? 54).map (fun i => (i.zero, i.size, i.bytes)) = some (some (.int .u64 0), 1, 8) := by kernel_rfl
theorem wpList_push1 {ops : Array Oper} {rest : List Oper} {o : Oper} {a : Act} {w : World} {Q : Exit → Act → World → Prop} (hgd : o.guard = none) (s x : Operand) (t e : TypeId) (ho : o.op = .call { callee := .builtin .append, args := #[s, x], argTypes := #[t, t] })
  (z : Value) (bytes : Nat) (ht : Tryz.prog.underlying t = some (.slice e)) (hinfo : (Tryz.prog.info? e).map (fun i => (i.zero, i.size, i.bytes)) = some (some z, 1, bytes)) (hz1 : z.cells.size = 1) (hby : bytes ≤ 24)
  (base : Nat) (v : Value) (n : Nat) (xs : List Value) (hs : a.eval s = v) (hown : w.ownsRow base e 1 v n xs) (g : Nat) (hx : a.eval x = .slice (some ⟨g, 0, none⟩) 1 1) (q : Value) (hb : w.heap[g]? = some (.cells #[q] e (0, 0))) (hq : q.oneCell' = true) (hn : n ≤ 1000000) (hbase : base ≤ w.heap.size)
  (h : ∀ v' w', w'.ownsRow base e 1 v' (n + 1) (xs ++ [q]) → w.grownBy w' v.ownBlock → (v'.ownBlock = v.ownBlock ∨ v'.ownBlock = some w.heap.size) → wpList Tryz.prog ops Q rest (a.put o.dst v') w') : wpList Tryz.prog ops Q (o :: rest) a w := by
 obtain ⟨i, hi, h0, h1, h2⟩ := info_parts hinfo
 refine wpList_append_own_at w hgd s x t ho base e i z 1 bytes ht hi h0 h1 h2 hz1 (by decide) v n xs hs hown ⟨g, 0, none⟩ 1 1 [q] hx rfl (fun j u hj => ?_) (fun u hu => ?_) (by unfold maxLen; omega) ?_ hbase (fun v' w' a1 a2 _ a4 => h v' w' a1 a2 a4)
 ·have hj0 : j = 0 := by have := (List.getElem?_eq_some_iff.1 hj).1; simpa using this
  subst hj0
  simp at hj
  subst hj
  have c0 := Lib.cell_of_heap hb 0
  rw [show (⟨g, 0, none⟩ : Addr).add 0 = ⟨g, 0, none⟩ by simp [Addr.add], c0]; rfl
 ·simp at hu; subst hu; exact hq
 ·exact Nat.le_trans (Nat.mul_le_mul (show n + 1 ≤ 1000001 by omega) hby) (by decide)
theorem own_shape {w : World} {B n : Nat} {e : TypeId} {v : Value} {xs : List Value} (h : w.ownsRow B e 1 v n xs) : ∃ o c, v = .slice o n c := by
 rcases h.2 with ⟨rfl, h0⟩ | ⟨g, cap, cur, rfl, _⟩
 ·exact ⟨none, 0, by rw [h0]⟩
 ·exact ⟨_, _, rfl⟩
theorem own_at {w : World} {B n c k : Nat} {o : Option Addr} {e : TypeId} {xs : List Value} {x : Value} (h : w.ownsRow B e 1 (.slice o n c) n xs) (hk : k < n) (hx : xs[k]? = some x) : ∃ g, o = some ⟨g, 0, none⟩ ∧ w.cell? ⟨g, k, none⟩ = some x ∧ g < w.heap.size := by
 rcases h.2 with ⟨h1, h0⟩ | ⟨g, cap, cur, h1, _, hg, _⟩
 ·omega
 ·injection h1 with h1 h2 h3
  subst h1 h3
  refine ⟨g, rfl, ?_, (Array.getElem?_eq_some_iff.1 hg).1⟩
  rw [h.cellAt k (by omega), hx]
theorem BS.init {l : List RX} {DM db sb mb F0 F1 G0 G1 : Nat} {wM w : World} {fv u : Value} {A : List Nat} (hb : Below DM wM w) (hdm : DM ≤ db) (h1 : db < F0) (h2 : F1 ≤ G0) (h3 : G1 ≤ sb) (h4 : sb < mb) (h01 : F0 ≤ F1) (h34 : G0 ≤ G1)
  (d : w.heap[db]? = some (.cells (dvc (clsX l) nil1 nil1) 26 (0, 0))) (f : w.ownsRow F0 5 1 fv (X5.fsX (clsX l) 256).length (bys (X5.fsX (clsX l) 256))) (hf : ∀ a, fv.ownBlock = some a → a < F1)
  (hu : w.ownsRow G0 3 1 u A.length (ints A)) (hu1 : ∀ a, u.ownBlock = some a → a < G1) (s : w.heap[sb]? = some (.cells #[u] 87 (0, 0))) (m : MapIs Tryz.prog 9 w mb (tmap [A])) :
  BS l DM db mb wM w fv (.slice (some ⟨sb, 0, none⟩) 1 1) nil1 nil1 nil1 nil1 nil1 u [A] [A] [] [] [] [u] [] A := by
 have low : ∀ {B B' n : Nat} {e : TypeId} {x : Value} {xs : List Value}, w.ownsRow B e 1 x n xs → B' ≤ B → w.ownsRow B' e 1 x n xs := fun h hB => ⟨h.1, h.2.imp id fun ⟨g, cap, cur, e1, e2, e3⟩ => ⟨g, cap, cur, e1, Nat.le_trans hB e2, e3⟩⟩
 have hmb := m.lt
 have hff : ∀ a, fv.ownBlock = some a → F0 ≤ a ∧ a < F1 := fun a ha => ⟨(owns_lt f a ha).1, hf a ha⟩
 have huu : ∀ a, u.ownBlock = some a → G0 ≤ a ∧ a < G1 := fun a ha => ⟨(owns_lt hu a ha).1, hu1 a ha⟩
 refine { base := hb, hdm := by omega, dm := ⟨hdm, by omega⟩, ne := by omega, d := d, f := low f (by omega), s := ⟨rfl, .inr ⟨sb, 1, #[u], rfl, by omega, s, Nat.le_refl _, by unfold maxLen; omega, rfl, rfl⟩⟩, r := World.ownsRow_nil _ _ _ _, n := World.ownsRow_nil _ _ _ _, t := World.ownsRow_nil _ _ _ _, u := low hu (by omega), sl := rfl, each := ?_, nl := rfl, neach := ?_, map := m, sep := ?_ }
 ·intro i v B hv hB
  cases i with
  | zero => simp at hv hB; subst hv hB; exact low hu (by omega)
  | succ i => simp at hv
 ·intro i v x hv; simp at hv
 ·have hmo : ∀ (i a : Nat), [some sb, none, none, none][i]? = some (some a) → i = 0 ∧ a = sb := by
   intro i a h
   rcases i with _ | _ | _ | _ | i <;> simp at h
   exact ⟨rfl, h.symm⟩
  have hmem : ∀ a, some a ∈ [some sb, none, none, none] → a = sb := by
   intro a ha; simpa using ha
  have hio : ∀ a, some a ∈ (fv.ownBlock :: u.ownBlock :: ([u].map Value.ownBlock ++ ([] : List Value).map Value.ownBlock)) → (F0 ≤ a ∧ a < F1) ∨ (G0 ≤ a ∧ a < G1) := by
   intro a ha
   simp only [List.map_cons, List.map_nil, List.append_nil, List.mem_cons, List.not_mem_nil, or_false] at ha
   rcases ha with h | h | h
   ·exact .inl (hff a h.symm)
   ·exact .inr (huu a h.symm)
   ·exact .inr (huu a h.symm)
  refine ⟨fun i j a hi hj => ?_, fun a ha hi => ?_, fun a ha => ⟨fun hm => ?_, fun hi => ?_⟩, fun a ha => ?_⟩
  ·rw [(hmo i a hi).1, (hmo j a hj).1]
  ·have := hmem a ha; have := hio a hi; omega
  ·have := hmem a hm; simp at ha; omega
  ·have := hio a hi; simp at ha; omega
  ·rcases ha with h | h | h
   ·have := hmem a h; omega
   ·have := hio a h; omega
   ·simp at h; omega
section
variable {ops : Array Oper} {rest : List Oper} {o : Oper} {a : Act} {w : World} {Q : Exit → Act → World → Prop}
theorem wpList_build30c (hg : o.guard = none) (x : Operand) (hop : o.op = .build 26 #[(0, x)]) (cs : List Nat) (hl : cs.length = 256) (hx : a.eval x = .agg (nvs cs)) (dc : Array Value) (hd : dvc cs nil1 nil1 = dc)
  (hK : wpList Tryz.prog ops Q rest (a.put o.dst (.agg dc)) w) : wpList Tryz.prog ops Q (o :: rest) a w := by
 subst hd; exact wpList_build30 hg x hop cs hl hx hK
theorem wpList_load26c (hg : o.guard = none) (p : Operand) (hop : o.op = .load 22 p) (g : Nat) (hp : a.eval p = .pointer (some ⟨g, 0, none⟩)) (cs : List Nat) (nv tv : Value) (dc : Array Value) (hd : dvc cs nv tv = dc) (hb : w.heap[g]? = some (.cells dc 26 (0, 0))) (h1 : cs.length = 256)
  (hK : wpList Tryz.prog ops Q rest (a.put o.dst (.agg (nvs cs))) w) : wpList Tryz.prog ops Q (o :: rest) a w := by
 subst hd; exact wpList_load26d hg p hop g hp cs nv tv hb h1 hK
end
theorem BS.c256 {l : List RX} {DM db mb : Nat} {wM w : World} {fv sv rv nv tv nd td uv : Value} {SS MM : List (List Nat)} {R : List Int} {NX : List (List Int)} {TG : List Nat} {SV NV : List Value} {UA : List Nat} (h : BS l DM db mb wM w fv sv rv nv tv nd td uv SS MM R NX TG SV NV UA) : w.cell? ⟨db, 256, none⟩ = some nd := by
 have hl : (nvs (clsX l)).size = 256 := by rw [nvs_size]; exact (cls_good l).1
 rw [Lib.cell_of_heap h.d 256]
 unfold dvc
 rw [Array.getElem?_append_right (by omega), hl]; rfl
theorem BS.c257 {l : List RX} {DM db mb : Nat} {wM w : World} {fv sv rv nv tv nd td uv : Value} {SS MM : List (List Nat)} {R : List Int} {NX : List (List Int)} {TG : List Nat} {SV NV : List Value} {UA : List Nat} (h : BS l DM db mb wM w fv sv rv nv tv nd td uv SS MM R NX TG SV NV UA) : w.cell? ⟨db, 257, none⟩ = some td := by
 have hl : (nvs (clsX l)).size = 256 := by rw [nvs_size]; exact (cls_good l).1
 rw [Lib.cell_of_heap h.d 257]
 unfold dvc
 rw [Array.getElem?_append_right (by omega), hl]; rfl
theorem own_cell {w : World} {B n c k g : Nat} {e : TypeId} {xs : List Value} {x : Value} (h : w.ownsRow B e 1 (.slice (some ⟨g, 0, none⟩) n c) n xs) (hk : k < n) (hx : xs[k]? = some x) : w.cell? ⟨g, k, none⟩ = some x := by
 obtain ⟨g', e', h1, _⟩ := own_at h hk hx
 injection e' with e'
 injection e' with e'
 subst e'
 exact h1
theorem wp_push1 {w : World} {o : Oper} {a : Act} {K : Act → World → Prop} {Q : Exit → Act → World → Prop} (s x : Operand) (t e : TypeId) (ho : o.op = .call { callee := .builtin .append, args := #[s, x], argTypes := #[t, t] })
  (z : Value) (bytes : Nat) (ht : Tryz.prog.underlying t = some (.slice e)) (hinfo : (Tryz.prog.info? e).map (fun i => (i.zero, i.size, i.bytes)) = some (some z, 1, bytes)) (hz1 : z.cells.size = 1) (hby : bytes ≤ 24)
  (base : Nat) (v : Value) (n : Nat) (xs : List Value) (hs : a.eval s = v) (hown : w.ownsRow base e 1 v n xs) (g : Nat) (hx : a.eval x = .slice (some ⟨g, 0, none⟩) 1 1) (q : Value) (hb : w.heap[g]? = some (.cells #[q] e (0, 0))) (hq : q.oneCell' = true) (hn : n ≤ 1000000) (hbase : base ≤ w.heap.size)
  (h : ∀ v' w', w'.ownsRow base e 1 v' (n + 1) (xs ++ [q]) → w.grownBy w' v.ownBlock → (v'.ownBlock = v.ownBlock ∨ v'.ownBlock = some w.heap.size) → K (a.put o.dst v') w') : o.wp Tryz.prog a w K Q := by
 obtain ⟨i, hi, h0, h1, h2⟩ := info_parts hinfo
 refine wp_append_own_at s x t ho base e i z 1 bytes ht hi h0 h1 h2 hz1 (by decide) v n xs hs hown ⟨g, 0, none⟩ 1 1 [q] hx rfl (fun j u hj => ?_) (fun u hu => ?_) (by unfold maxLen; omega) ?_ hbase (fun v' w' a1 a2 _ a4 => h v' w' a1 a2 a4)
 ·have hj0 : j = 0 := by have := (List.getElem?_eq_some_iff.1 hj).1; simpa using this
  subst hj0
  simp at hj
  subst hj
  have c0 := Lib.cell_of_heap hb 0
  rw [show (⟨g, 0, none⟩ : Addr).add 0 = ⟨g, 0, none⟩ by simp [Addr.add], c0]; rfl
 ·simp at hu; subst hu; exact hq
 ·exact Nat.le_trans (Nat.mul_le_mul (show n + 1 ≤ 1000001 by omega) hby) (by decide)
theorem BS.other {l : List RX} {DM db mb : Nat} {wM w : World} {fv sv rv nv tv nd td uv : Value} {SS MM : List (List Nat)} {R : List Int} {NX : List (List Int)} {TG : List Nat} {SV NV : List Value} {UA : List Nat} (h : BS l DM db mb wM w fv sv rv nv tv nd td uv SS MM R NX TG SV NV UA) {w' : World} (hk : ∀ g, DM ≤ g → w'.heap[g]? = w.heap[g]?) (hs : w.heap.size ≤ w'.heap.size) : BS l DM db mb w' w' fv sv rv nv tv nd td uv SS MM R NX TG SV NV UA where
 base := Below.refl _ _
 hdm := Nat.le_trans h.hdm hs
 dm := h.dm
 ne := h.ne
 d := (hk _ h.dm.1).trans h.d
 f := owns_kept h.f fun g hg => hk g (owns_lt h.f g hg).1
 s := owns_kept h.s fun g hg => hk g (owns_lt h.s g hg).1
 r := owns_kept h.r fun g hg => hk g (owns_lt h.r g hg).1
 n := owns_kept h.n fun g hg => hk g (owns_lt h.n g hg).1
 t := owns_kept h.t fun g hg => hk g (owns_lt h.t g hg).1
 u := owns_kept h.u fun g hg => hk g (owns_lt h.u g hg).1
 sl := h.sl
 each := fun i v A hv hA => owns_kept (h.each i v A hv hA) fun g hg => hk g (owns_lt (h.each i v A hv hA) g hg).1
 nl := h.nl
 neach := fun i v x hv hx => owns_kept (h.neach i v x hv hx) fun g hg => hk g (owns_lt (h.neach i v x hv hx) g hg).1
 map := h.map.kept (hk _ h.dm.2)
 sep := h.sep.mono hs
end Go.Proofs.YtochckefnjobhaaGreatDoor
