/- The document's rows: All. -/
import Derived.Test.YticmnfmijdgmbaaGreatDoorGb
import Derived.Test.YticmnfmijdgmbaaGreatDoorYh
import Derived.Test.YticmnfmijdgmbaaGreatDoorUa
import Derived.Test.YticmnfmijdgmbaaGreatDoorUb
namespace Go.Proofs.YticmnfmijdgmbaaGreatDoor
open Go Go.RowKit Go.Lib
open X14 (It iterB BuiltOk BuiltMany rightX behX sortX closeV closeX)
open S13 (u64 bitN top Sub E0 F0)
open S13.X15 (Pl updA stC findX BaseA RX MetUp askX places cxB LeastA roomA)
set_option linter.unusedVariables false
set_option linter.unusedSimpArgs false
theorem results38 {fn : Func} (h : fn.results = #[.tmp 2, .cell 3 38, .tmp 4]) (tmps : Array Value) (w : World) (g : Nat) (a b v : Value) (n : Int)
  (hv : tmps.getD 2 undef = v) (hp : tmps.getD 3 undef = .pointer (some ⟨g, 0, none⟩)) (hn : tmps.getD 4 undef = .int .i64 n) (hg : w.heap[g]? = some (.cells #[a, b] 38 (0, 0))) :
  (results fn tmps).run Tryz.prog w = .ok (.tuple #[v, .agg #[a, b], .int .i64 n]) w := by
 have e : (results fn tmps).run Tryz.prog w = ((asAddr (tmps.getD 3 undef)).run Tryz.prog w).andThen fun a w₁ => ((loadVar 38 a).run Tryz.prog w₁).andThen fun u w₂ => .ok (.tuple #[tmps.getD 2 undef, u, tmps.getD 4 undef]) w₂ := by
  simp only [results, h]
  simp [Sem.run_bind, Result.andThen]
 rw [e, hv, hp, hn]
 simp [asAddr, Result.andThen, run_loadVar_row w g 38 38 #[a, b] (0, 0) _ hg Tryz.underlying38 rfl (by rw [size55]; rfl)]
theorem rcells_push (l : List (Value × Value)) (p : Value × Value) : rcells (l ++ [p]) = rcells l ++ [p.1, p.2] := by unfold rcells; rw [List.flatMap_append]; rfl
theorem info52 : (Tryz.prog.info? 52).map (fun i => (i.zero, i.size, i.bytes)) = some (some (.agg #[.slice none 0 0, .slice none 0 0]), 2, 48) := by kernel_rfl
theorem stC_zero (C : Nat → List It) (i : Nat) : stC C (fun _ => 0) i = List.replicate (C i).length 0 := by
 unfold S13.X15.stC
 rw [List.map_const']
section
variable {B i : Nat} {W w w' : World} {l1 : List Item} {GB : List Nat} {C : Nat → List It} {A : Pl → Nat}
theorem foot_bnew (h : Foot B W w (l1 ++ (bI GB C A i ++ []))) (hl : GB.length = i) (hb : Below w.heap.size w w') (hn : w'.heap[w.heap.size]? = some (.cells (S13.sets (stC C A i)) 69 (0, 0))) : Foot B W w' (l1 ++ (bI (GB ++ [w.heap.size]) C A (i + 1) ++ [])) := by
 have h1 := h.add (blkI w.heap.size (.cells (S13.sets (stC C A i)) 69 (0, 0))) hb hn (fun b hb2 => by
  have : b ∈ [w.heap.size] := hb2
  obtain rfl : b = w.heap.size := by simpa using this
  exact ⟨Nat.le_refl _, (Array.getElem?_eq_some_iff.1 hn).1⟩)
 have e : bI (GB ++ [w.heap.size]) C A (i + 1) = bI GB C A i ++ [blkI w.heap.size (.cells (S13.sets (stC C A i)) 69 (0, 0))] := by
  unfold bI
  rw [List.range_succ, List.map_append]
  congr 1
  ·refine List.map_congr_left fun j hj => ?_
   have hj : j < GB.length := by rw [hl]; exact List.mem_range.1 hj
   rw [List.getD_eq_getElem?_getD, List.getElem?_append_left hj, ← List.getD_eq_getElem?_getD]
  ·rw [List.map_singleton, List.getD_eq_getElem?_getD, List.getElem?_append_right (by omega)]
   rw [hl]
   simp
 rw [e]
 simpa only [List.append_assoc, List.append_nil] using h1
end
theorem RefR.push {C : Nat → List It} {i : Nat} {F : List (Nat × List It)} {GB : List Nat} {LL : List (Value × Value)} (h : RefR C i F GB LL) (hl : GB.length = i) (g c gb : Nat) :
  RefR C (i + 1) (F ++ [(g, C i)]) (GB ++ [gb]) (LL ++ [(.slice (some ⟨g, 0, none⟩) (C i).length c, .slice (some ⟨gb, 0, none⟩) (C i).length (C i).length)]) where
 len := by rw [List.length_append, h.len]; rfl
 at_ j hj := by
  by_cases e : j < i
  ·obtain ⟨g', c', h1, h2⟩ := h.at_ j e
   refine ⟨g', c', ?_, List.mem_append_left _ h2⟩
   rw [List.getElem?_append_left (by rw [h.len]; exact e), h1, List.getD_eq_getElem?_getD, List.getD_eq_getElem?_getD, List.getElem?_append_left (by omega)]
  ·obtain rfl : j = i := by omega
   refine ⟨g, c, ?_, List.mem_append_right _ (by simp)⟩
   rw [List.getElem?_append_right (by rw [h.len]; exact Nat.le_refl _), h.len, List.getD_eq_getElem?_getD, List.getElem?_append_right (by omega), hl]
   simp
theorem c_ne {G : GD} {n : Nat} {E : List Bool} {F : List Nat} (hb : BuiltOk G n) {i : Nat} (hi : i < n) : (cxB G n E F).C i ≠ [] := by
 obtain ⟨hI, ha, hl⟩ := hb.inv
 rcases Nat.eq_zero_or_pos i with e | e
 ·subst e
  exact fun h => by
   have := S13.X15.first_in (E := E) (F := F) hb
   rw [h] at this
   cases this
 ·obtain ⟨j, k, R, a1, a2, a3, a4, a5⟩ := hI.come i e (by omega)
  obtain ⟨s, hs⟩ : ∃ s, (X14.symsX G)[k]? = some s := ⟨_, List.getElem?_eq_getElem a5⟩
  rcases hI.to_ a1 hs a3 a4 with ⟨e1, _⟩ | ⟨q, e1, _, _, e4⟩
  ·omega
  ·obtain rfl : i = q := by omega
   have hne := hI.kers.some_ _ (List.mem_of_getElem? e4)
   obtain ⟨y, hy⟩ := List.exists_mem_of_ne_nil _ hne
   obtain ⟨x, hx, hbx, rfl⟩ := X14.mem_step.1 hy
   have : (x.1, x.2 + 1) ∈ (cxB G n E F).C i := S13.X15.mem_C.2 (.base _ (by rw [X14.getD_get e4]; exact hy) (S13.X15.next_there hbx))
   exact fun h => by rw [h] at this; cases this
def RAllP (G : GD) (w : World) (e : Ending) (w' : World) : Prop :=
 Below w.heap.size w w' ∧ ((∃ er : Int, ((er = 1 ∧ validB G = false) ∨ (er = 4 ∧ ∃ n, BuiltMany G n ∧ validB G = true)) ∧ e = .returned (.tuple #[.slice none 0 0, .agg #[.slice none 0 0, .slice none 0 0], .int .i64 er])) ∨
  (validB G = true ∧ ∃ n, BuiltOk G n ∧ ∃ v ko kn kc no nn nc A, e = .returned (.tuple #[v, .agg #[.slice ko kn kc, .slice no nn nc], .int .i64 0]) ∧ LeastA (askX (cxB G n (E0 G) (F0 G))) (places (cxB G n (E0 G) (F0 G)) n) (0, (-1, 0)) (bitN 63) A ∧ LookAt w' v n (cxB G n (E0 G) (F0 G)).C A))
theorem look_of_ref {B n rb rf rc : Nat} {W w : World} {F : List (Nat × List It)} {GB : List Nat} {C : Nat → List It} {A : Pl → Nat} {LL : List (Value × Value)} (h : Foot B W w ([queI B 2 (.slice (some ⟨rb, rf, none⟩) n rc) n (rcells LL), frozI F] ++ (bI GB C A n ++ []))) (hR : RefR C n F GB LL) (hC : ∀ i, (C i).length ≤ 1573) (hn : n ≤ 2000)
  {w' : World} (hw : ∀ g, B ≤ g → g < w.heap.size → w'.heap[g]? = w.heap[g]?) : LookAt w' (.slice (some ⟨rb, rf, none⟩) n rc) n C A := by
 have hq : ownsT w B 2 (.slice (some ⟨rb, rf, none⟩) n rc) n (rcells LL) := h.ok 0 _ rfl
 have hz : (frozI F).ok w := h.ok 1 _ rfl
 have cell : ∀ (g k : Nat) (u : Value), B ≤ g → w.cell? ⟨g, k, none⟩ = some u → w'.cell? ⟨g, k, none⟩ = some u := fun g k u hg hc => by
  rw [World.cell?_of_block (a := ⟨g, k, none⟩) (hw g hg (World.block_lt_of_cell? w _ hc))]
  exact hc
 refine ⟨_, _, rfl, by omega, fun _ => ⟨rb, rf, rfl, fun i hi => ?_⟩⟩
 obtain ⟨g, c, h1, h2⟩ := hR.at_ i hi
 obtain ⟨g', c', k1, k2, k3⟩ := ref_cells (r0 := bI GB C A n ++ []) h hR hi
 have hrb : B ≤ rb := by
  obtain ⟨hl, ⟨e, _⟩ | ⟨g3, off, cap, e, hB, _⟩⟩ := hq
  ·cases e
  ·injection e with e1 e2 e3
   injection e1 with e1
   injection e1 with e1 e4
   subst e1
   exact hB
 obtain ⟨q0, q1⟩ := rcells_get h1
 have c0 : w.cell? ⟨rb, rf + i * 2, none⟩ = some (.slice (some ⟨g, 0, none⟩) (C i).length c) := by
  obtain ⟨hl, ⟨e, _⟩ | ⟨g3, off, cap, e, _, _, _, _, h3, _⟩⟩ := hq
  ·cases e
  ·injection e with e1 e2 e3
   injection e1 with e1
   injection e1 with e1 e4
   subst e1
   subst e4
   exact h3 _ _ q0
 have hgB : B ≤ g := (h.lt 1 _ rfl g (List.mem_map.2 ⟨(g, C i), h2, rfl⟩)).1
 have hbB : B ≤ GB.getD i 0 := (h.lt (2 + i) _ (by rw [List.getElem?_append_right (by simp)]; simp only [List.length_cons, List.length_nil]; rw [show 2 + i - (0 + 1 + 1) = i by omega, List.getElem?_append_left (by rw [bI_len]; exact hi)]; exact bI_get hi) (GB.getD i 0) (show GB.getD i 0 ∈ [GB.getD i 0] by simp)).1
 have hrow := hz _ h2
 refine ⟨_, _, cell _ _ _ hrb c0, cell _ _ _ hrb k2, ?_, ?_⟩
 ·have := hC i
  refine ⟨_, _, rfl, by omega, fun _ => ⟨g, 0, rfl, fun k hk => ?_⟩⟩
  have hr := hrow k hk
  have e : (C i).getD k (0, 0) = (C i)[k] := by rw [List.getD_eq_getElem?_getD, List.getElem?_eq_getElem hk]; rfl
  show w'.cell? ⟨g, 0 + k * 2, none⟩ = some (.int .i64 ((C i).getD k (0, 0)).1) ∧ w'.cell? ⟨g, 0 + k * 2 + 1, none⟩ = some (.int .i64 ((C i).getD k (0, 0)).2)
  rw [e, Nat.zero_add]
  exact ⟨cell _ _ _ hgB hr.1, cell _ _ _ hgB hr.2.1⟩
 ·have := hC i
  have hb := foot_bget h hi
  refine ⟨_, _, by rw [List.length_map], by rw [List.length_map]; omega, fun _ => ⟨GB.getD i 0, 0, rfl, fun k hk => ?_⟩⟩
  have hc := S13.cell_sets hb (i := k) hk
  show w'.cell? ⟨GB.getD i 0, 0 + k, none⟩ = _
  rw [Nat.zero_add]
  exact cell _ _ _ hbB hc
set_option maxRecDepth 100000 in
set_option maxHeartbeats 16000000 in
theorem RAll_any {G : GD} {gv : Value} {w : World} (h : Gram w gv G) : Calls Tryz.prog 18 #[gv] w (RAllP G w) := by
 have HGr := hid h
 obtain ⟨tv, ov, sv, pv, tf, rv, h⟩ := h
 have hgv := h.eq
 subst hgv
 obtain ⟨W1, e1⟩ : ∃ W1, w.alloc (.cells #[tv, ov, sv, pv, .int .i64 G.start] 27) = W1 := ⟨_, rfl⟩
 have n1 : W1.heap[w.heap.size]? = some (.cells #[tv, ov, sv, pv, .int .i64 G.start] 27 (0, 0)) := by rw [← e1]; exact new_block _ _
 have hb1 : Below w.heap.size w W1 := by rw [← e1]; exact (Below.refl _ _).alloc (Nat.le_refl _) _
 obtain ⟨W2, e2⟩ : ∃ W2, W1.alloc (.cells #[.slice none 0 0, .slice none 0 0] 38) = W2 := ⟨_, rfl⟩
 obtain ⟨bR, hbR⟩ : ∃ bR, W1.heap.size = bR := ⟨_, rfl⟩
 have n2 : W2.heap[bR]? = some (.cells #[.slice none 0 0, .slice none 0 0] 38 (0, 0)) := by rw [← e2, ← hbR]; exact new_block _ _
 have hb2 : Below W1.heap.size W1 W2 := by rw [← e2]; exact (Below.refl _ _).alloc (Nat.le_refl _) _
 have HB2 := hid (hb1.trans (hb2.mono hb1.size))
 have HN2 := hid ((hb2.block _ (Array.getElem?_eq_some_iff.1 n1).1).trans n1)
 have HR2 := hid n2
 have hRle : w.heap.size ≤ bR := by rw [← hbR]; exact hb1.size
 have c0 : W2.cell? ⟨w.heap.size, 0, none⟩ = some (tv) := Lib.cell_of_heap HN2.out 0
 have c1 : W2.cell? ⟨w.heap.size, 1, none⟩ = some (ov) := Lib.cell_of_heap HN2.out 1
 have c2 : W2.cell? ⟨w.heap.size, 2, none⟩ = some (sv) := Lib.cell_of_heap HN2.out 2
 have c3 : W2.cell? ⟨w.heap.size, 3, none⟩ = some (pv) := Lib.cell_of_heap HN2.out 3
 have c4 : W2.cell? ⟨w.heap.size, 4, none⟩ = some (.int .i64 G.start) := Lib.cell_of_heap HN2.out 4
 have KB := hid (RBuild_any (HGr.out.below HB2.out))
 clear h n1 n2 hb1 hb2
 go_enter Tryz.func18, Tryz.ntmps18
 go_wp2_with fail
 refine KB.out.mono ?_
 rintro e w3 ⟨hb3, hcase⟩
 have HB3 := hid (HB2.out.trans (hb3.mono HB2.out.size))
 have HN3 := hid ((hb3.block _ (Array.getElem?_eq_some_iff.1 HN2.out).1).trans HN2.out)
 have HR3 := hid ((hb3.block _ (Array.getElem?_eq_some_iff.1 HR2.out).1).trans HR2.out)
 try rw [hbR]
 clear hb3 KB c0 c1 c2 c3 c4 e1 e2 hbR HR2
 have hcase2 : (∃ er : Int, ((er = 1 ∧ validB G = false) ∨ (er = 4 ∧ ∃ n, BuiltMany G n ∧ validB G = true)) ∧ e = .returned (.tuple #[.agg #[.slice none 0 0, .slice none 0 0], .int .i64 er])) ∨ (validB G = true ∧ ∃ n, BuiltOk G n ∧ ∃ av, e = .returned (.tuple #[av, .int .i64 0]) ∧ AutAt w3 av (iterB G n).ker (iterB G n).nx) := by
  rcases hcase with ⟨h1, h2⟩ | ⟨hv, n, h2 | ⟨h2, h3⟩⟩
  ·exact .inl ⟨1, .inl ⟨rfl, h1⟩, h2⟩
  ·exact .inl ⟨4, .inr ⟨rfl, n, h2.1, hv⟩, h2.2⟩
  ·exact .inr ⟨hv, n, h2, h3⟩
 clear hcase
 rcases hcase2 with ⟨er, her, rfl⟩ | ⟨hval, n, hok, av, rfl, hav⟩
 ·obtain ⟨wA, eA⟩ : ∃ wA, w3.alloc (.cells #[.slice none 0 0, .slice none 0 0] 38) = wA := ⟨_, rfl⟩
  have nA : wA.heap[w3.heap.size]? = some (.cells #[.slice none 0 0, .slice none 0 0] 38 (0, 0)) := by rw [← eA]; exact new_block _ _
  have a0 : wA.cell? ⟨w3.heap.size, 0, none⟩ = some (.slice none 0 0) := Lib.cell_of_heap nA 0
  have g0 := Lib.frozen_of_heap nA 0
  obtain ⟨wb, eb⟩ : ∃ wb, wA.setCell ⟨w3.heap.size, 0, none⟩ (.slice none 0 0) = wb := ⟨_, rfl⟩
  have nb : wb.heap[w3.heap.size]? = some (.cells #[.slice none 0 0, .slice none 0 0] 38 (0, 0)) := by rw [← eb]; exact heap_setCell_same _ _ 0 _ 38 _ nA
  have a1 : wb.cell? ⟨w3.heap.size, 1, none⟩ = some (.slice none 0 0) := Lib.cell_of_heap nb 1
  have g1 := Lib.frozen_of_heap nb 1
  obtain ⟨wc, ec⟩ : ∃ wc, wb.setCell ⟨w3.heap.size, 1, none⟩ (.slice none 0 0) = wc := ⟨_, rfl⟩
  have nc : wc.heap[w3.heap.size]? = some (.cells #[.slice none 0 0, .slice none 0 0] 38 (0, 0)) := by rw [← ec]; exact heap_setCell_same _ _ 1 _ 38 _ nb
  have h3c : Below w3.heap.size w3 wc := by
   rw [← ec, ← eb, ← eA]
   exact (((Below.refl _ _).alloc (Nat.le_refl _) _).setCell (Nat.le_refl _) _).setCell (Nat.le_refl _) _
  have HBC := hid (HB3.out.trans (h3c.mono HB3.out.size))
  have HRC := hid ((h3c.block _ (Array.getElem?_eq_some_iff.1 HR3.out).1).trans HR3.out)
  have hlt := (Array.getElem?_eq_some_iff.1 HR3.out).1
  obtain ⟨wd, ewd⟩ : ∃ wd, wc.drew = wd := ⟨_, rfl⟩
  have hbd : Below wc.heap.size wc wd := by rw [← ewd]; exact (Below.refl _ _).drew
  have nd := (hbd.block _ (Array.getElem?_eq_some_iff.1 nc).1).trans nc
  have nr := (hbd.block _ (Array.getElem?_eq_some_iff.1 HRC.out).1).trans HRC.out
  have HH0 : wd.cell? ⟨w3.heap.size, 0, none⟩ = some (.slice none 0 0) ∧ wd.cell? ⟨w3.heap.size, 1, none⟩ = some (.slice none 0 0) := ⟨Lib.cell_of_heap nd 0, Lib.cell_of_heap nd 1⟩
  have r0 : wd.cell? ⟨bR, 0, none⟩ = some (.slice none 0 0) := Lib.cell_of_heap nr 0
  have f0 := Lib.frozen_of_heap nr 0
  obtain ⟨we, ee⟩ : ∃ we, wd.setCell ⟨bR, 0, none⟩ (.slice none 0 0) = we := ⟨_, rfl⟩
  have nr1 : we.heap[bR]? = some (.cells #[.slice none 0 0, .slice none 0 0] 38 (0, 0)) := by rw [← ee]; exact heap_setCell_same _ _ 0 _ 38 _ nr
  have r1 : we.cell? ⟨bR, 1, none⟩ = some (.slice none 0 0) := Lib.cell_of_heap nr1 1
  have f1 := Lib.frozen_of_heap nr1 1
  obtain ⟨wg, eg⟩ : ∃ wg, we.setCell ⟨bR, 1, none⟩ (.slice none 0 0) = wg := ⟨_, rfl⟩
  have HNB := hid (show wg.heap[bR]? = some (.cells #[.slice none 0 0, .slice none 0 0] 38 (0, 0)) from by rw [← eg]; exact heap_setCell_same _ _ 1 _ 38 _ nr1)
  have HFIN := hid (show Below w.heap.size w wg from by
   rw [← eg, ← ee]
   exact ((HBC.out.trans (hbd.mono HBC.out.size)).setCell hRle _).setCell hRle _)
  have nd1 : we.heap[w3.heap.size]? = wd.heap[w3.heap.size]? := by rw [← ee]; exact heap_setCell_other _ _ _ _ (by show _ ≠ bR; omega)
  have nd2 : wg.heap[w3.heap.size]? = we.heap[w3.heap.size]? := by rw [← eg]; exact heap_setCell_other _ _ _ _ (by show _ ≠ bR; omega)
  have HH1 : wg.cell? ⟨w3.heap.size, 0, none⟩ = some (.slice none 0 0) ∧ wg.cell? ⟨w3.heap.size, 1, none⟩ = some (.slice none 0 0) := ⟨Lib.cell_of_heap (nd2.trans (nd1.trans nd)) 0, Lib.cell_of_heap (nd2.trans (nd1.trans nd)) 1⟩
  have HER := hid her
  have her2 : er = 1 ∨ er = 4 := by rcases her with ⟨h, _⟩ | ⟨h, _⟩ <;> simp [h]
  clear nA nb nc h3c hlt hbd nd nr nr1 nd1 nd2 her
  have z0 : (er != 0) = true := by rw [bne_iff_ne]; omega
  have z1 : (er == 0) = false := by rw [beq_eq_false_iff_ne]; omega
  clear her2
  go_wp2_with fail
  clear a0 g0 a1 g1 eA eb ec
  refine region_T 4 (fun w' => w'.cell? ⟨w3.heap.size, 0, none⟩ = some (.slice none 0 0) ∧ w'.cell? ⟨w3.heap.size, 1, none⟩ = some (.slice none 0 0)) (by kernel_rfl) (by rw [ewd]; exact HH0) (fun inv hHeld => ?_)
  rw [ewd]
  clear hHeld ewd
  iterate 3
   refine anyT_auto (v := ?_) rfl (by kernel_rfl) (fun _ _ _ h => h) (Or.inl ⟨by rfl, ?_⟩) HH0 inv (fun inv => ?_)
   rotate_left
   ·intro w hSw
    try dsimp only at hSw
    go_simp
    try with_reducible rfl
   simp only [Act.put, sjA, sj0, sjS]
  refine anyT_next (i := 3) (o := { dst := none, op := Go.Op.store 38 (Go.Operand.tmp 3) (Go.Operand.tmp 19), type := 0, pos := "ref.go:65", after := #[{ on := 0, ground := Go.Ground.data }, { on := 2, ground := Go.Ground.chain }, { on := 0, ground := Go.Ground.phase }, { on := 1, ground := Go.Ground.textOnly Go.Departure.lateStores }, { on := 2, ground := Go.Ground.phase }], guard := none }) (by kernel_rfl) rfl (by decide) inv (fun inv K' hK => ?_)
  go_simp
  refine hK.out _ _ HH1 ?_
  clear hK K' HH0
  try simp only [Act.put, sjA, sj0, sjS]
  refine anyT_one (i := 4) (o := { dst := some 4, op := Go.Op.assign (Go.Operand.tmp 20), type := 31, pos := "ref.go:65", after := #[{ on := 1, ground := Go.Ground.data }, { on := 3, ground := Go.Ground.chain }, { on := 0, ground := Go.Ground.phase }, { on := 1, ground := Go.Ground.phase }, { on := 2, ground := Go.Ground.phase }, { on := 3, ground := Go.Ground.phase }], guard := none }) (by kernel_rfl) rfl (fun K' hK => ?_)
  go_simp
  refine hK.out _ _ (fun h => absurd h (by decide)) ?_
  clear hK K'
  try simp only [Act.put, sjA, sj0, sjS]
  refine anyT_done (by kernel_rfl) ?_ _
  go_wp2_with fail
  refine bodyPost_ret (v := .tuple #[.slice none 0 0, .agg #[.slice none 0 0, .slice none 0 0], .int .i64 er]) (results38 rfl _ _ bR _ _ _ er rfl rfl rfl HNB.out) rfl ?_
  exact ⟨HFIN.out, .inl ⟨er, HER.out, rfl⟩⟩
 have HVAL := hid hval
 have HOK := hid hok
 have HAV := hid hav
 have HCL := hid (cx_len hval n (E0 G) (F0 G))
 have HKLEN := hid (X14.iter_len hval n)
 have HND := hid (show ∀ i, ((cxB G n (E0 G) (F0 G)).C i).Nodup from fun i => X14.Rise.nodup (X14.closeX_is G _).1)
 have hn1 : n ≤ 2000 := built_le hok
 have hn0 : 0 < n := S13.X15.n_pos hok
 have hkl := hok.inv.2.2
 have hnl := (X14.iterB_at G n).2
 obtain ⟨kv, nv, rfl, hkv, hnv⟩ := hav
 obtain ⟨ko, kc, rfl, hk63⟩ := hkv.len
 obtain ⟨no, nc, rfl, _⟩ := hnv.len
 rw [hkl] at HAV hk63 ⊢
 rw [hnl] at HAV ⊢
 have HKL := hid hkl
 obtain ⟨W, eW⟩ : ∃ W, w3.alloc (.cells #[.slice ko n kc, .slice no n nc] 38) = W := ⟨_, rfl⟩
 have nA : W.heap[w3.heap.size]? = some (.cells #[.slice ko n kc, .slice no n nc] 38 (0, 0)) := by rw [← eW]; exact new_block _ _
 have h3c : Below w3.heap.size w3 W := by rw [← eW]; exact (Below.refl _ _).alloc (Nat.le_refl _) _
 have HBW := hid (HB3.out.trans (h3c.mono HB3.out.size))
 have HNW := hid ((h3c.block _ (Array.getElem?_eq_some_iff.1 HN3.out).1).trans HN3.out)
 have HRW := hid ((h3c.block _ (Array.getElem?_eq_some_iff.1 HR3.out).1).trans HR3.out)
 have HAW := hid nA
 have HAVW := hid (HAV.out.below h3c)
 have HKV := hid (show RowAt (.slice ko n kc) n (fun i b off => ∃ u, W.cell? ⟨b, off + i, none⟩ = some u ∧ ItemsAt W u ((iterB G n).ker.getD i [])) from by
  obtain ⟨a, cap, e, h1, h2⟩ := hkv
  rw [hkl] at e h1 h2
  exact ⟨a, cap, e, h1, fun h0 => by
   obtain ⟨b, off, e2, h3⟩ := h2 h0
   exact ⟨b, off, e2, fun i hi => by
    obtain ⟨u, u1, u2⟩ := h3 i hi
    exact ⟨u, cell_below h3c u1, u2.below h3c⟩⟩⟩)
 have hRB : bR < W.heap.size := (Array.getElem?_eq_some_iff.1 HRW.out).1
 have hAB : w3.heap.size < W.heap.size := (Array.getElem?_eq_some_iff.1 nA).1
 obtain ⟨bA, hbA⟩ : ∃ bA, w3.heap.size = bA := ⟨_, rfl⟩
 have HAR := hid (show bA ≠ bR from by
  have := (Array.getElem?_eq_some_iff.1 HR3.out).1
  omega)
 rw [hbA] at HAW hAB
 have HF0 : Hid (Foot W.heap.size W W ([queI W.heap.size 2 (.slice none 0 0) 0 (rcells []), frozI []] ++ (bI [] (cxB G n (E0 G) (F0 G)).C (fun _ => 0) 0 ++ []))) := hid (by
  have h0 := (Foot.empty W W.heap.size (Nat.le_refl _)).add (queI W.heap.size 2 (.slice none 0 0) 0 []) (Below.refl _ _) (ownsT.nil _ _ _) (fun b hb => by
   have : b ∈ (Value.slice none 0 0).ownBlock.toList := hb
   simp [Value.ownBlock] at this)
  exact h0.add (frozI []) (Below.refl _ _) (fun q hq => by cases hq) (fun c hc => by cases hc))
 have HR0 := hid (show RefR (cxB G n (E0 G) (F0 G)).C 0 [] [] [] from ⟨rfl, fun i hi => absurd hi (Nat.not_lt_zero i)⟩)
 clear hval hok hkv hnv hkl hnl nA h3c HAV HB3 HN3 HR3
 go_wp2_with fail
 try rw [hbA]
 clear eW hbA
 go_loopw [7, 8, 9] (fun t7 t8 t9 wr => ∃ (i : Nat) (v : Value) (F : List (Nat × List It)) (GB : List Nat) (LL : List (Value × Value)), i ≤ n ∧ t8 = .int .i64 (i : Int) ∧ v = t7 ∧ GB.length = i ∧ Hid (Foot W.heap.size W wr ([queI W.heap.size 2 v i (rcells LL), frozI F] ++ (bI GB (cxB G n (E0 G) (F0 G)).C (fun _ => 0) i ++ []))) ∧ Hid (RefR (cxB G n (E0 G) (F0 G)).C i F GB LL)) (fun _ t8 _ _ => n - (RowKit.intOf t8).toNat)
 case atStart => exact ⟨0, _, [], [], [], Nat.zero_le _, rfl, rfl, rfl, HF0, HR0⟩
 case round =>
  clear HF0 HR0
  obtain ⟨i, v, F, GB, LL, hin, rfl, rfl, hgl, HF, HRR⟩ := hrel
  have HGL := hid hgl
  clear hgl
  have k0 : wr.cell? ⟨bA, 0, none⟩ = some (.slice ko n kc) := Lib.cell_of_heap ((HF.out.bel.block _ hAB).trans HAW.out) 0
  by_cases hli : i < n
  ·have m1 : (i : Int) < (n : Int) := by omega
   have m0 : (0 : Int) ≤ (i : Int) := by omega
   obtain ⟨a, cap, e, _, hkx⟩ := HKV.out
   injection e with e3 _ e4
   subst e3
   subst e4
   obtain ⟨kb, kf, rfl, hkx2⟩ := hkx hn0
   obtain ⟨u, u1, u2⟩ := hkx2 i hli
   obtain ⟨X, hX⟩ : ∃ X, (iterB G n).ker.getD i [] = X := ⟨_, rfl⟩
   rw [hX] at u2
   have hXl : X.length ≤ 1573 := by
    refine HKLEN.out X ?_
    rw [← hX, List.getD_eq_getElem?_getD, List.getElem?_eq_getElem (by rw [HKL.out]; exact hli)]
    exact List.getElem_mem _
   have HU2 := hid u2
   have HU1 := hid u1
   have HCX := hid (show (cxB G n (E0 G) (F0 G)).C i = closeV G X from by rw [closeV_eq HVAL.out, ← hX]; rfl)
   obtain ⟨wd, ewd⟩ : ∃ wd, wr.drew = wd := ⟨_, rfl⟩
   have hbd : Below wr.heap.size wr wd := by rw [← ewd]; exact (Below.refl _ _).drew
   have HFd := hid (HF.out.below hbd)
   have HS := hid (show ∀ w', Below wd.heap.size wd w' → w'.cell? ⟨w.heap.size, 0, none⟩ = some (tv) ∧ w'.cell? ⟨w.heap.size, 1, none⟩ = some (ov) ∧ w'.cell? ⟨w.heap.size, 2, none⟩ = some (sv) ∧ w'.cell? ⟨w.heap.size, 3, none⟩ = some (pv) ∧ w'.cell? ⟨w.heap.size, 4, none⟩ = some (.int .i64 G.start) ∧ w'.cell? ⟨bA, 0, none⟩ = some (.slice (some ⟨kb, kf, none⟩) n kc) ∧ w'.cell? ⟨kb, kf + i, none⟩ = some u from fun w' hC => by
    have hb := (HFd.out.below hC).bel
    have nG := (hb.block _ (Array.getElem?_eq_some_iff.1 HNW.out).1).trans HNW.out
    have nK := (hb.block _ hAB).trans HAW.out
    exact ⟨Lib.cell_of_heap nG 0, Lib.cell_of_heap nG 1, Lib.cell_of_heap nG 2, Lib.cell_of_heap nG 3, Lib.cell_of_heap nG 4, Lib.cell_of_heap nK 0, cell_below hb HU1.out⟩)
   have HH0 := HS.out wd (Below.refl _ _)
   clear u1 u2 hX hkx hkx2 hbd
   go_wp2_with fail
   clear k0
   refine region_T 7 (fun w' => w'.cell? ⟨w.heap.size, 0, none⟩ = some (tv) ∧ w'.cell? ⟨w.heap.size, 1, none⟩ = some (ov) ∧ w'.cell? ⟨w.heap.size, 2, none⟩ = some (sv) ∧ w'.cell? ⟨w.heap.size, 3, none⟩ = some (pv) ∧ w'.cell? ⟨w.heap.size, 4, none⟩ = some (.int .i64 G.start) ∧ w'.cell? ⟨bA, 0, none⟩ = some (.slice (some ⟨kb, kf, none⟩) n kc) ∧ w'.cell? ⟨kb, kf + i, none⟩ = some u) (by kernel_rfl) (by rw [ewd]; exact HH0) (fun inv hHeld => ?_)
   rw [ewd]
   clear hHeld ewd
   iterate 6
    refine anyT_auto (v := ?_) rfl (by kernel_rfl) (fun _ _ _ h => h) (Or.inl ⟨by rfl, ?_⟩) HH0 inv (fun inv => ?_)
    rotate_left
    ·intro w hSw
     try dsimp only at hSw
     go_simp
     try with_reducible rfl
    simp only [Act.put, sjA, sj0, sjS]
   refine anyT_next (i := 6) (o := { dst := some 34, op := Go.Op.call { callee := Go.Callee.value (Go.Operand.func 47), args := #[Go.Operand.tmp 28, Go.Operand.tmp 33], argTypes := #[27, 50] }, type := 50, pos := "ref.go:69", after := #[{ on := 0, ground := Go.Ground.data }, { on := 5, ground := Go.Ground.data }], guard := none }) (by kernel_rfl) rfl (by decide) inv (fun inv K' hK => ?_)
   go_simp
   refine (RClose_any (HGr.out.below (HBW.out.trans (HFd.out.bel.mono HBW.out.size))) (HU2.out.below HFd.out.bel) (by omega)).mono ?_
   rintro e w5 ⟨cv, rfl, hcv, hb5⟩
   have HCV := hid hcv
   obtain ⟨co, cc, rfl⟩ := own_shape hcv
   have HB5 := hid hb5
   have HH1 := HS.out w5 hb5
   refine hK.out _ _ HH1 ?_
   clear hK K' HH0
   try simp only [Act.put, sjA, sj0, sjS]
   refine anyT_one (i := 7) (o := { dst := some 9, op := Go.Op.assign (Go.Operand.tmp 34), type := 50, pos := "ref.go:69", after := #[{ on := 6, ground := Go.Ground.data }, { on := 6, ground := Go.Ground.chain }, { on := 0, ground := Go.Ground.phase }, { on := 1, ground := Go.Ground.phase }, { on := 2, ground := Go.Ground.phase }, { on := 3, ground := Go.Ground.phase }, { on := 4, ground := Go.Ground.phase }, { on := 5, ground := Go.Ground.phase }, { on := 6, ground := Go.Ground.phase }], guard := none }) (by kernel_rfl) rfl (fun K' hK => ?_)
   go_simp
   refine hK.out _ _ (fun h => absurd h (by decide)) ?_
   clear hK K'
   try simp only [Act.put, sjA, sj0, sjS]
   refine anyT_done (by kernel_rfl) ?_ _
   clear HS HH1
   have HFe := hid (HFd.out.below HB5.out)
   obtain ⟨N, hN⟩ : ∃ N, (closeV G X).length = N := ⟨_, rfl⟩
   have hNle : N ≤ 1573 := by rw [← hN]; exact X14.closeV_len G X
   have hN0 : 0 < N := by
    have := c_ne (E := E0 G) (F := F0 G) HOK.out hli
    rw [HCX.out] at this
    rw [← hN]
    exact List.length_pos_iff.2 this
   obtain ⟨g, rfl⟩ : ∃ g, co = some ⟨g, 0, none⟩ := by
    obtain ⟨g, e, _⟩ := items_own HCV.out (i := 0) (by rw [hN]; exact hN0) rfl
    exact ⟨g, e⟩
   have hgl2 := owns_lt HCV.out g rfl
   have hrow : RowH w5 g ((cxB G n (E0 G) (F0 G)).C i) := by
    rw [HCX.out]
    exact RowH.of_own HCV.out rfl
   have HFf := hid (foot_froz (l := []) HFd.out (k := 1) rfl HB5.out hrow hgl2.1 hgl2.2)
   rw [hN]
   obtain ⟨wm, ewm⟩ : ∃ wm, w5.alloc (.cells (S13.sets (List.replicate N 0)) 69) = wm := ⟨_, rfl⟩
   have nm : wm.heap[w5.heap.size]? = some (.cells (S13.sets (stC (cxB G n (E0 G) (F0 G)).C (fun _ => 0) i)) 69 (0, 0)) := by
    rw [← ewm, stC_zero, HCX.out, hN]
    exact new_block _ _
   have hbm : Below w5.heap.size w5 wm := by rw [← ewm]; exact (Below.refl _ _).alloc (Nat.le_refl _) _
   have HFm := hid (foot_bnew (l1 := [queI W.heap.size 2 v i (rcells LL), frozI (F ++ [(g, (cxB G n (E0 G) (F0 G)).C i)])]) HFf.out HGL.out hbm nm)
   obtain ⟨vo, vc, rfl⟩ := (show ownsT wm W.heap.size 2 v i (rcells LL) from HFm.out.ok 0 _ rfl).shape
   obtain ⟨wq, eq⟩ : ∃ z, wm.alloc (.cells #[.slice (some ⟨g, 0, none⟩) N cc, .slice (some ⟨w5.heap.size, 0, none⟩) N N] 52) = z := ⟨_, rfl⟩
   have nq : wq.heap[wm.heap.size]? = some (.cells #[.slice (some ⟨g, 0, none⟩) N cc, .slice (some ⟨w5.heap.size, 0, none⟩) N N] 52 (0, 0)) := by rw [← eq]; exact new_block _ _
   have HFq := hid (HFm.out.below (show Below wm.heap.size wm wq by rw [← eq]; exact (Below.refl _ _).alloc (Nat.le_refl _) _))
   have HCQ := hid (show ∀ j u, [Value.slice (some ⟨g, 0, none⟩) N cc, Value.slice (some ⟨w5.heap.size, 0, none⟩) N N][j]? = some u → wq.cell? ⟨wm.heap.size, j, none⟩ = some u from fun j u hj => by
    rw [Lib.cell_of_heap nq, ← hj, ← List.getElem?_toArray])
   have HBq := hid (show W.heap.size ≤ wq.heap.size from Nat.le_trans HFq.out.le HFq.out.bel.size)
   have HOW := hid (show ownsT wq W.heap.size 2 (.slice vo i vc) i (rcells LL) from HFq.out.ok 0 _ rfl)
   have HRN := hid (by
    have := HRR.out.push HGL.out g cc w5.heap.size
    rw [HCX.out, hN] at this
    rw [← HCX.out] at this
    exact this)
   have KM := S13.made_sets N (by omega) w5
   rw [ewm] at KM
   have hi12 : i ≤ 1000000000 := by omega
   have HI12 := hid hi12
   clear nm hbm nq hrow hgl2 hN hi12
   go_wp2_with (refine wpList_push_W rfl (.tmp 35) (.tmp 41) 34 52 rfl (.agg #[.slice none 0 0, .slice none 0 0]) 2 48 Tryz.underlying34 info52 rfl (by decide) (.slice vo i vc) i (rcells LL) rfl HOW.out wm.heap.size rfl [.slice (some ⟨g, 0, none⟩) N cc, .slice (some ⟨w5.heap.size, 0, none⟩) N N] rfl HCQ.out (fun q hq => by simp at hq; rcases hq with rfl | rfl <;> rfl) HI12.out HBq.out ?_)
   intro ao2 c8 w8 hown hg8 hat
   have h8 := HFq.out.push_que 0 rfl hown hg8 hat
   have e9 : rcells LL ++ [Value.slice (some ⟨g, 0, none⟩) N cc, Value.slice (some ⟨w5.heap.size, 0, none⟩) N N] = rcells (LL ++ [(Value.slice (some ⟨g, 0, none⟩) N cc, Value.slice (some ⟨w5.heap.size, 0, none⟩) N N)]) := by rw [rcells_push]
   rw [e9] at h8
   have HF8 : Hid (Foot W.heap.size W w8 ([queI W.heap.size 2 (.slice ao2 (i + 1) c8) (i + 1) (rcells (LL ++ [(Value.slice (some ⟨g, 0, none⟩) N cc, Value.slice (some ⟨w5.heap.size, 0, none⟩) N N)])), frozI (F ++ [(g, (cxB G n (E0 G) (F0 G)).C i)])] ++ (bI (GB ++ [w5.heap.size]) (cxB G n (E0 G) (F0 G)).C (fun _ => 0) (i + 1) ++ []))) := hid h8
   have HGL8 : (GB ++ [w5.heap.size]).length = i + 1 := by rw [List.length_append, HGL.out]; rfl
   have HGL9 := hid HGL8
   clear h8 hown hg8 hat e9 eq ewm KM HGL8
   go_wp2_with fail
   refine ⟨⟨i + 1, _, _, _, _, by omega, by go_num, rfl, HGL9.out, HF8, HRN⟩, ?_⟩
   simp [RowKit.intOf]
   omega
  ·have m1 : ¬ (i : Int) < (n : Int) := by omega
   obtain rfl : i = n := by omega
   obtain ⟨rb, rf, rc, rfl⟩ : ∃ rb rf rc, v = .slice (some ⟨rb, rf, none⟩) i rc := by
    have hq : ownsT wr W.heap.size 2 v i (rcells LL) := HF.out.ok 0 _ rfl
    obtain ⟨hl, ⟨e, h0⟩ | ⟨g3, off, cap, e, _⟩⟩ := hq
    ·omega
    ·exact ⟨g3, off, cap, e⟩
   obtain ⟨m, hm⟩ := List.mem_iff_getElem?.1 (S13.X15.first_in (E := E0 G) (F := F0 G) HOK.out)
   obtain ⟨g, c, t0, t1, hrow⟩ := ref_cells (i := 0) (r0 := bI GB (cxB G i (E0 G) (F0 G)).C (fun _ => 0) i ++ []) HF.out HRR.out hn0
   obtain ⟨N, hN⟩ : ∃ N, ((cxB G i (E0 G) (F0 G)).C 0).length = N := ⟨_, rfl⟩
   have hNle : N ≤ 1573 := by rw [← hN]; exact HCL.out 0
   have hml : m < N := by rw [← hN]; exact (List.getElem?_eq_some_iff.1 hm).1
   obtain ⟨gz, hgz⟩ : ∃ gz, GB.getD 0 0 = gz := ⟨_, rfl⟩
   have HGZ := hid hgz
   rw [hN] at t0 t1
   rw [hgz] at t1
   have t0 : wr.cell? ⟨rb, rf, none⟩ = some (.slice (some ⟨g, 0, none⟩) N c) := by simpa using t0
   have t1 : wr.cell? ⟨rb, rf + 1, none⟩ = some (.slice (some ⟨gz, 0, none⟩) N N) := by simpa using t1
   have KF := Find_any (v := .slice (some ⟨g, 0, none⟩) N c) ((-1 : Int), (0 : Int)) (by rw [← hN]; exact rowH_items hrow (by rw [hN]; omega)) (by rw [hN]; omega)
   rw [S13.X15.findX_some (HND.out 0) hm] at KF
   unfold itV at KF
   have KF := hid KF
   have HM := hid hm
   have HT1 := hid t1
   clear hN hgz hrow hm t1
   go_wp2_with fail
   clear k0
   refine KF.out.mono ?_
   rintro e w6 ⟨rfl, hb6⟩
   have HF6 := hid (HF.out.below hb6)
   obtain ⟨wd, ewd⟩ : ∃ wd, w6.drew = wd := ⟨_, rfl⟩
   have hbd : Below w6.heap.size w6 wd := by rw [← ewd]; exact (Below.refl _ _).drew
   have HFd := hid (HF6.out.below hbd)
   have t1 := cell_below hbd (cell_below hb6 HT1.out)
   obtain ⟨wl, ewl⟩ : ∃ wl, wd.alloc (.cells #[.int .i64 63] 3) = wl := ⟨_, rfl⟩
   have hbl : Below wd.heap.size wd wl := by rw [← ewl]; exact (Below.refl _ _).alloc (Nat.le_refl _) _
   have HFl := hid (HFd.out.below hbl)
   have KO := hid (S13.ROf_one 63 wl wd.heap.size (Lib.cell_of_heap (show wl.heap[wd.heap.size]? = some (.cells #[.int .i64 63] 3 (0, 0)) by rw [← ewl]; exact new_block _ _) 0))
   have HH0 : wd.cell? ⟨rb, rf + 1, none⟩ = some (.slice (some ⟨gz, 0, none⟩) N N) := t1
   have HH1 : wl.cell? ⟨rb, rf + 1, none⟩ = some (.slice (some ⟨gz, 0, none⟩) N N) := cell_below hbl t1
   have w0' : (0 : Int) ≤ (m : Int) := by omega
   have w1' : (m : Int) < (N : Int) := by omega
   clear hb6 hbd hbl t0 t1 KF
   go_wp2_with fail
   refine region_T 8 (fun w' => w'.cell? ⟨rb, rf + 1, none⟩ = some (.slice (some ⟨gz, 0, none⟩) N N)) (by kernel_rfl) (by rw [ewd]; exact HH0) (fun inv hHeld => ?_)
   rw [ewd]
   clear hHeld ewd
   iterate 5
    refine anyT_auto (v := ?_) rfl (by kernel_rfl) (fun _ _ _ h => h) (Or.inl ⟨by rfl, ?_⟩) HH0 inv (fun inv => ?_)
    rotate_left
    ·intro w hSw
     try dsimp only at hSw
     go_simp
     try with_reducible rfl
    simp only [Act.put, sjA, sj0, sjS]
   refine anyT_next (i := 5) (o := { dst := some 54, op := Go.Op.buildSlice 43 1 #[(0, Go.Operand.const (Go.Value.int Go.IntKind.i64 63))], type := 43, pos := "ref.go:73", after := #[], guard := none }) (by kernel_rfl) rfl (by decide) inv (fun inv K' hK => ?_)
   go_simp
   refine hK.out _ _ HH1 ?_
   clear hK K' HH0
   try simp only [Act.put, sjA, sj0, sjS]
   refine anyT_next (i := 6) (o := { dst := some 55, op := Go.Op.call { callee := Go.Callee.value (Go.Operand.func 49), args := #[Go.Operand.tmp 54], argTypes := #[43] }, type := 69, pos := "ref.go:73", after := #[{ on := 5, ground := Go.Ground.data }], guard := none }) (by kernel_rfl) rfl (by decide) inv (fun inv K' hK => ?_)
   go_simp
   refine KO.out.mono ?_
   rintro e w7 ⟨rfl, hb7⟩
   have HF7 := hid (HFl.out.below hb7)
   have HH2 := cell_below hb7 HH1
   refine hK.out _ _ HH2 ?_
   clear hK K' HH1
   try simp only [Act.put, sjA, sj0, sjS]
   iterate 1
    refine anyT_auto (v := ?_) rfl (by kernel_rfl) (fun _ _ _ h => h) (Or.inl ⟨by rfl, ?_⟩) HH2 inv (fun inv => ?_)
    rotate_left
    ·intro w hSw
     try dsimp only at hSw
     go_simp
     try with_reducible rfl
    simp only [Act.put, sjA, sj0, sjS]
   have hcz := foot_bcell HF7.out hn0 HM.out
   rw [HGZ.out] at hcz
   obtain ⟨hcz0, hcz1⟩ := hcz
   have hcz0 : w7.cell? ⟨gz, m, none⟩ = some (.int .u64 0) := hcz0
   obtain ⟨wS, eS⟩ : ∃ wS, w7.setCell ⟨gz, m, none⟩ (u64 (bitN 63)) = wS := ⟨_, rfl⟩
   have HFS := hid (show Foot W.heap.size W wS ([queI W.heap.size 2 (.slice (some ⟨rb, rf, none⟩) i rc) i (rcells LL), frozI F] ++ (bI GB (cxB G i (E0 G) (F0 G)).C (updA (fun _ => 0) (0, ((-1 : Int), (0 : Int))) (bitN 63)) i ++ [])) from by
    have := foot_b HF7.out (bitN 63) hn0 (HND.out 0) HM.out
    rw [HGZ.out, Nat.zero_or, eS] at this
    exact this)
   clear hb7
   refine anyT_one (i := 8) (o := { dst := none, op := Go.Op.store 69 (Go.Operand.tmp 56) (Go.Operand.tmp 55), type := 0, pos := "ref.go:73", after := #[{ on := 7, ground := Go.Ground.data }, { on := 6, ground := Go.Ground.data }, { on := 6, ground := Go.Ground.chain }, { on := 0, ground := Go.Ground.phase }, { on := 1, ground := Go.Ground.phase }, { on := 2, ground := Go.Ground.phase }, { on := 3, ground := Go.Ground.phase }, { on := 4, ground := Go.Ground.phase }, { on := 5, ground := Go.Ground.phase }, { on := 6, ground := Go.Ground.phase }], guard := none }) (by kernel_rfl) rfl (fun K' hK => ?_)
   go_simp
   refine hK.out _ _ (fun h => absurd h (by decide)) ?_
   clear hK K'
   try simp only [Act.put, sjA, sj0, sjS]
   refine anyT_done (by kernel_rfl) ?_ _
   clear hcz0 hcz1 HH2 eS KO
   have HBA := hid (show BaseA (askX (cxB G i (E0 G) (F0 G))) (places (cxB G i (E0 G) (F0 G)) i) (0, ((-1 : Int), (0 : Int))) (bitN 63) (updA (fun _ => 0) (0, ((-1 : Int), (0 : Int))) (bitN 63)) [] from
    ((S13.X15.WQ.init (askX (cxB G i (E0 G) (F0 G))) (places (cxB G i (E0 G) (F0 G)) i) (0, ((-1 : Int), (0 : Int))) (bitN 63) (places (cxB G i (E0 G) (F0 G)) i) (fun q hq => hq) (fun q hq => hq)).begin_ (S13.X15.mem_places.2 ⟨hn0, S13.X15.first_in HOK.out⟩) (by decide)).base.emp)
   have HS0 := hid (show Sub (bitN 63) (updA (fun _ => 0) (0, ((-1 : Int), (0 : Int))) (bitN 63) (0, ((-1 : Int), (0 : Int)))) from by rw [S13.X15.updA_self]; exact S13.sub_or_right _ _)
   obtain ⟨A1, hA1⟩ : ∃ A1, updA (fun _ => 0) (0, ((-1 : Int), (0 : Int))) (bitN 63) = A1 := ⟨_, rfl⟩
   rw [hA1] at HBA HS0 HFS
   obtain ⟨R4, hR4⟩ : ∃ R4 : Nat → Value → World → Prop, R4 = fun k t wr => ∃ (A : Pl → Nat) (c : Bool), t = .bool c ∧ (Foot W.heap.size W wr ([queI W.heap.size 2 (.slice (some ⟨rb, rf, none⟩) i rc) i (rcells LL), frozI F] ++ (bI GB (cxB G i (E0 G) (F0 G)).C A i ++ []))) ∧ BaseA (askX (cxB G i (E0 G) (F0 G))) (places (cxB G i (E0 G) (F0 G)) i) (0, ((-1 : Int), (0 : Int))) (bitN 63) A [] ∧ Sub (bitN 63) (A (0, ((-1 : Int), (0 : Int)))) ∧ (c = false → LeastA (askX (cxB G i (E0 G) (F0 G))) (places (cxB G i (E0 G) (F0 G)) i) (0, ((-1 : Int), (0 : Int))) (bitN 63) A) ∧ roomA (places (cxB G i (E0 G) (F0 G)) i) A + (if c = true then 1 else 0) = k := ⟨_, rfl⟩
   have HR4 := hid hR4
   clear hR4 hA1 HF HF6 HFd HFl HF7
   go_wp2_with fail
   go_loopw [11] (fun t11 wr => ∃ k, R4 k t11 wr) (fun t11 wr => minOf fun k => R4 k t11 wr)
   case atStart => exact ⟨_, by rw [HR4.out]; exact ⟨A1, true, rfl, HFS.out, HBA.out, HS0.out, (fun h => by cases h), rfl⟩⟩
   case round =>
    have hmin := minOf_spec hrel
    obtain ⟨k, hk⟩ : ∃ k, (minOf fun k => R4 k u11 wr) = k := ⟨_, rfl⟩
    rw [hk] at hmin
    have HMK := hid hk
    clear hrel hk HFS HBA HS0
    rw [HR4.out] at hmin
    obtain ⟨A, c, rfl, hf, hbase, hs, hl, hkk⟩ := hmin
    have HF := hid hf
    have HBS := hid hbase
    have HSS := hid hs
    have HLL := hid hl
    have HKK := hid hkk
    have hbel := hf.bel
    have nG := (hbel.block _ (Array.getElem?_eq_some_iff.1 HNW.out).1).trans HNW.out
    have nK := (hbel.block _ hAB).trans HAW.out
    have nR := (hbel.block _ hRB).trans HRW.out
    have HNR := hid nR
    have HNK := hid nK
    have a0 : wr.cell? ⟨bA, 0, none⟩ = some (.slice ko i kc) := Lib.cell_of_heap nK 0
    have a1 : wr.cell? ⟨bA, 1, none⟩ = some (.slice no i nc) := Lib.cell_of_heap nK 1
    have c0 : wr.cell? ⟨w.heap.size, 0, none⟩ = some (tv) := Lib.cell_of_heap nG 0
    have c1 : wr.cell? ⟨w.heap.size, 1, none⟩ = some (ov) := Lib.cell_of_heap nG 1
    have c2 : wr.cell? ⟨w.heap.size, 2, none⟩ = some (sv) := Lib.cell_of_heap nG 2
    have c3 : wr.cell? ⟨w.heap.size, 3, none⟩ = some (pv) := Lib.cell_of_heap nG 3
    have c4 : wr.cell? ⟨w.heap.size, 4, none⟩ = some (.int .i64 G.start) := Lib.cell_of_heap nG 4
    clear hf hbase hs hl hkk nG nK nR
    cases c
    ·clear c0 c1 c2 c3 c4
     obtain ⟨wd, ewd⟩ : ∃ wd, wr.drew = wd := ⟨_, rfl⟩
     have hbd : Below wr.heap.size wr wd := by rw [← ewd]; exact (Below.refl _ _).drew
     have HH0 : wd.cell? ⟨bA, 0, none⟩ = some (.slice ko i kc) ∧ wd.cell? ⟨bA, 1, none⟩ = some (.slice no i nc) := ⟨cell_below hbd a0, cell_below hbd a1⟩
     have nr := (hbd.block _ (Array.getElem?_eq_some_iff.1 HNR.out).1).trans HNR.out
     have nk := (hbd.block _ (Array.getElem?_eq_some_iff.1 HNK.out).1).trans HNK.out
     have r0 : wd.cell? ⟨bR, 0, none⟩ = some (.slice none 0 0) := Lib.cell_of_heap nr 0
     have f0 := Lib.frozen_of_heap nr 0
     obtain ⟨we, ee⟩ : ∃ we, wd.setCell ⟨bR, 0, none⟩ (.slice ko i kc) = we := ⟨_, rfl⟩
     have nr1 : we.heap[bR]? = some (.cells #[.slice ko i kc, .slice none 0 0] 38 (0, 0)) := by rw [← ee]; exact heap_setCell_same _ _ 0 _ 38 _ nr
     have r1 : we.cell? ⟨bR, 1, none⟩ = some (.slice none 0 0) := Lib.cell_of_heap nr1 1
     have f1 := Lib.frozen_of_heap nr1 1
     obtain ⟨wg, eg⟩ : ∃ wg, we.setCell ⟨bR, 1, none⟩ (.slice no i nc) = wg := ⟨_, rfl⟩
     have HNB := hid (show wg.heap[bR]? = some (.cells #[.slice ko i kc, .slice no i nc] 38 (0, 0)) from by rw [← eg]; exact heap_setCell_same _ _ 1 _ 38 _ nr1)
     have HFIN := hid (show Below w.heap.size w wg from by
      rw [← eg, ← ee]
      exact ((HBW.out.trans ((hbel.trans (hbd.mono hbel.size)).mono HBW.out.size)).setCell hRle _).setCell hRle _)
     have hoth : ∀ b, b ≠ bR → wg.heap[b]? = wd.heap[b]? := fun b hb => by
      rw [← eg, heap_setCell_other _ _ _ _ (by show b ≠ bR; exact hb), ← ee, heap_setCell_other _ _ _ _ (by show b ≠ bR; exact hb)]
     have nk2 : wg.heap[bA]? = some (.cells #[.slice ko i kc, .slice no i nc] 38 (0, 0)) := (hoth bA HAR.out).trans nk
     have HH1 : wg.cell? ⟨bA, 0, none⟩ = some (.slice ko i kc) ∧ wg.cell? ⟨bA, 1, none⟩ = some (.slice no i nc) := ⟨Lib.cell_of_heap nk2 0, Lib.cell_of_heap nk2 1⟩
     have HLK := hid (look_of_ref HF.out HRR.out HCL.out hn1 (w' := wg) (fun b hb1 hb2 => by
      rw [hoth b (by omega)]
      exact hbd.block b hb2))
     clear hbd nr nk nr1 nk2 hoth hbel
     go_wp2_with fail
     clear a0 a1
     refine region_T 4 (fun w' => w'.cell? ⟨bA, 0, none⟩ = some (.slice ko i kc) ∧ w'.cell? ⟨bA, 1, none⟩ = some (.slice no i nc)) (by kernel_rfl) (by rw [ewd]; exact HH0) (fun inv hHeld => ?_)
     rw [ewd]
     clear hHeld ewd
     iterate 3
      refine anyT_auto (v := ?_) rfl (by kernel_rfl) (fun _ _ _ h => h) (Or.inl ⟨by rfl, ?_⟩) HH0 inv (fun inv => ?_)
      rotate_left
      ·intro w hSw
       try dsimp only at hSw
       go_simp
       try with_reducible rfl
      simp only [Act.put, sjA, sj0, sjS]
     refine anyT_next (i := 3) (o := { dst := none, op := Go.Op.store 38 (Go.Operand.tmp 3) (Go.Operand.tmp 63), type := 0, pos := "ref.go:78", after := #[{ on := 1, ground := Go.Ground.data }, { on := 2, ground := Go.Ground.chain }, { on := 0, ground := Go.Ground.phase }, { on := 1, ground := Go.Ground.phase }, { on := 2, ground := Go.Ground.phase }], guard := none }) (by kernel_rfl) rfl (by decide) inv (fun inv K' hK => ?_)
     go_simp
     refine hK.out _ _ HH1 ?_
     clear hK K' HH0
     try simp only [Act.put, sjA, sj0, sjS]
     refine anyT_one (i := 4) (o := { dst := some 4, op := Go.Op.assign (Go.Operand.const (Go.Value.int Go.IntKind.i64 0)), type := 31, pos := "ref.go:78", after := #[{ on := 3, ground := Go.Ground.chain }, { on := 0, ground := Go.Ground.phase }, { on := 1, ground := Go.Ground.phase }, { on := 2, ground := Go.Ground.phase }, { on := 3, ground := Go.Ground.phase }], guard := none }) (by kernel_rfl) rfl (fun K' hK => ?_)
     go_simp
     refine hK.out _ _ (fun h => absurd h (by decide)) ?_
     clear hK K'
     try simp only [Act.put, sjA, sj0, sjS]
     refine anyT_done (by kernel_rfl) ?_ _
     go_wp2_with fail
     refine bodyPost_ret (v := .tuple #[.slice (some ⟨rb, rf, none⟩) i rc, .agg #[.slice ko i kc, .slice no i nc], .int .i64 0]) (results38 rfl _ _ bR _ _ _ 0 rfl rfl rfl HNB.out) rfl ?_
     exact ⟨HFIN.out, .inr ⟨HVAL.out, i, HOK.out, _, _, _, _, _, _, _, A, rfl, HLL.out trivial, HLK.out⟩⟩
    ·have KR := hid (round_any (HGr.out.below HBW.out) HAVW.out HVAL.out HOK.out (r0 := []) (l2 := []) HF.out HRR.out HBS.out)
     clear hbel
     go_wp2_with fail
     refine KR.out.mono ?_
     rintro e w8 ⟨A', c', rfl, hx, hm, hf⟩
     have HX := hid hx
     have HMM := hid hm
     have HF8 := hid hf
     clear hx hm hf KR a0 a1 c0 c1 c2 c3 c4
     have HRN := hid (show R4 (roomA (places (cxB G i (E0 G) (F0 G)) i) A' + (if c' = true then 1 else 0)) (.bool c') w8 from by
      rw [HR4.out]
      refine ⟨A', c', rfl, HF8.out, HX.out.base, S13.sub_trans HSS.out (HX.out.up _), fun h => ?_, rfl⟩
      subst h
      exact S13.X15.least_of HX.out (HMM.out rfl) (S13.sub_trans HSS.out (HX.out.up _)))
     have HLT := hid (show roomA (places (cxB G i (E0 G) (F0 G)) i) A' + (if c' = true then 1 else 0) < k from by
      have h1 : roomA (places (cxB G i (E0 G) (F0 G)) i) A + 1 = k := by simpa using HKK.out
      cases c'
      ·have := HX.out.stay rfl
       rw [this]
       simp
       omega
      ·have := HX.out.less rfl
       simp
       omega)
     go_wp2_with fail
     refine ⟨⟨_, HRN.out⟩, ?_⟩
     show (minOf fun k => R4 k (.bool c') w8) < minOf fun k => R4 k (.bool true) wr
     rw [HMK.out]
     exact Nat.lt_of_le_of_lt (minOf_le HRN.out) HLT.out
end Go.Proofs.YticmnfmijdgmbaaGreatDoor
