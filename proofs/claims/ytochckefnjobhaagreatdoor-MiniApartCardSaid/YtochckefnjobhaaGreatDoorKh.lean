/- mini.joined: the walk. -/
import Derived.Test.YtochckefnjobhaaGreatDoorKg
namespace Go.Proofs.YtochckefnjobhaaGreatDoor
open Go Go.RowKit Go.Lib
open X5 (Aut)
set_option linter.unusedVariables false
set_option linter.unusedSimpArgs false
theorem Touch.setRow (w : World) (b : Nat) (cs : Array Value) : Touch [b] w (w.setRow b cs) :=
 ⟨rfl, rfl, rfl, by rw [setRow_size]; exact Nat.le_refl _, fun g _ hn => setRow_other w b g cs (fun e => hn (by simp [e]))⟩
theorem dvi_size' {cv : Array Value} (hs : cv.size = 256) {a b : Value} : (cv ++ #[a, b]).size = 258 := by rw [Array.size_append, hs]; rfl
theorem dvi_one' {cv : Array Value} (hs : cv.all (·.oneCell') = true) {a b : Value} (ha : a.oneCell' = true) (hb : b.oneCell' = true) : (cv ++ #[a, b]).all (·.oneCell') = true := by
 rw [Array.all_append, hs]
 simp [ha, hb]
theorem cell_grow {w w' : World} (h : Below w.heap.size w w') {b k : Nat} {v : Value} (hb : w.cell? ⟨b, k, none⟩ = some v) : w'.cell? ⟨b, k, none⟩ = some v :=
 cell_bel h (by
  rcases Nat.lt_or_ge b w.heap.size with h1 | h1
  ·exact h1
  ·simp [World.cell?, Array.getElem?_eq_none h1] at hb) hb
theorem cellsKept {w w' : World} (hb : Below w.heap.size w w') {a b c d e f g h : Nat} {x y z u : Value} {m n : Nat} (h0 : w.cell? ⟨a, b, none⟩ = some x ∧ w.cell? ⟨c, d, none⟩ = some y ∧ w.cell? ⟨e, f, none⟩ = some z ∧ w.cell? ⟨g, h, none⟩ = some u ∧ m < w.heap.size ∧ n < w.heap.size) :
  w'.cell? ⟨a, b, none⟩ = some x ∧ w'.cell? ⟨c, d, none⟩ = some y ∧ w'.cell? ⟨e, f, none⟩ = some z ∧ w'.cell? ⟨g, h, none⟩ = some u ∧ m < w'.heap.size ∧ n < w'.heap.size :=
 ⟨cell_grow hb h0.1, cell_grow hb h0.2.1, cell_grow hb h0.2.2.1, cell_grow hb h0.2.2.2.1, Nat.lt_of_lt_of_le h0.2.2.2.2.1 hb.size, Nat.lt_of_lt_of_le h0.2.2.2.2.2 hb.size⟩
theorem GJ.c256 {B lb nb mb sb : Nat} {cv : Array Value} {Bk : List Int} {W w : World} {st : List Nat} {L : List (Value × Value)} {v rv : Value} {R : List Int} {nd : Value} {CV : List Value} {NX : List (List Int)} {td : Value} {TG : List Nat} (h : GJ B lb nb mb sb cv Bk W st L v rv R nd CV NX td TG w) (hs : cv.size = 256) : w.cell? ⟨lb, 256, none⟩ = some nd ∧ w.cell? ⟨lb, 257, none⟩ = some td ∧ lb < w.heap.size := by
 refine ⟨?_, ?_, (Array.getElem?_eq_some_iff.1 h.blk).1⟩
 ·rw [Lib.cell_of_heap h.blk, Array.getElem?_append_right (by omega), hs]; rfl
 ·rw [Lib.cell_of_heap h.blk, Array.getElem?_append_right (by omega), hs]; rfl
theorem rowJ_snoc (Bk : List Int) {l : List Int} {c : Nat} {z : Int} (h : l[c]? = some z) (s : List Int × List Nat) : X6.rowJ Bk (l.take (c + 1)) s = ((X6.rowJ Bk (l.take c) s).1 ++ [(X6.numJ Bk z (X6.rowJ Bk (l.take c) s).2).1], (X6.numJ Bk z (X6.rowJ Bk (l.take c) s).2).2) := by
 rw [List.take_add_one, h, show (some z).toList = [z] from rfl, X6.rowJ_app]
 rfl
theorem cells5 {w w' : World} (hb : Below w.heap.size w w') {a b c d e f g h i j : Nat} {x y z u t : Value} {m n : Nat} (h0 : w.cell? ⟨a, b, none⟩ = some x ∧ w.cell? ⟨c, d, none⟩ = some y ∧ w.cell? ⟨e, f, none⟩ = some z ∧ w.cell? ⟨g, h, none⟩ = some u ∧ w.cell? ⟨i, j, none⟩ = some t ∧ m < w.heap.size ∧ n < w.heap.size) :
  w'.cell? ⟨a, b, none⟩ = some x ∧ w'.cell? ⟨c, d, none⟩ = some y ∧ w'.cell? ⟨e, f, none⟩ = some z ∧ w'.cell? ⟨g, h, none⟩ = some u ∧ w'.cell? ⟨i, j, none⟩ = some t ∧ m < w'.heap.size ∧ n < w'.heap.size :=
 ⟨cell_grow hb h0.1, cell_grow hb h0.2.1, cell_grow hb h0.2.2.1, cell_grow hb h0.2.2.2.1, cell_grow hb h0.2.2.2.2.1, Nat.lt_of_lt_of_le h0.2.2.2.2.2.1 hb.size, Nat.lt_of_lt_of_le h0.2.2.2.2.2.2 hb.size⟩
theorem results30s {fn : Func} (h : fn.results = #[.cell 4 26]) (tmps : Array Value) (w : World) (g : Nat) (cs : Array Value)
  (hp : tmps.getD 4 undef = .pointer (some ⟨g, 0, none⟩)) (hg : w.heap[g]? = some (.cells cs 26 (0, 0))) (hl : cs.size = 258) :
  (results fn tmps).run Tryz.prog w = .ok (.agg cs) w := by
 have e := run_loadVar_row w g 26 26 cs (0, 0) _ hg Tryz.underlying26 rfl (by rw [size30, hl])
 have hp2 : tmps[4]?.getD undef = .pointer (some ⟨g, 0, none⟩) := by rw [← Array.getD_eq_getD_getElem?]; exact hp
 simp only [results, h]
 simp [Sem.run_bind, Result.andThen, hp2, asAddr, e]
theorem own_rowAtI {w : World} {B : Nat} {v : Value} {l : List Int} (h : w.ownsRow B 3 1 v l.length (zs l)) : RowAtI w v l := by
 obtain ⟨o, c, rfl⟩ := own_shape h
 refine ⟨o, c, rfl, fun j hj => ?_⟩
 obtain ⟨g, rfl, hc, hg⟩ := own_at h hj (x := .int .i64 l[j]) (by rw [List.getElem?_map, List.getElem?_eq_getElem hj]; rfl)
 exact ⟨g, 0, rfl, hg, by rw [Nat.zero_add]; exact hc⟩
theorem nx_rows {B : Nat} {v : Value} {CV : List Value} {NX : List (List Int)} {w : World} (h : NxOk B v CV NX w) (hl : CV.length = NX.length) : RowsAt w v NX := by
 obtain ⟨o, c, rfl⟩ := own_shape h.row
 refine ⟨o, c, by rw [hl], fun i hi => ?_⟩
 obtain ⟨u, hu⟩ : ∃ u, CV[i]? = some u := ⟨_, List.getElem?_eq_getElem (by omega)⟩
 obtain ⟨g, rfl, hc, hg⟩ := own_at h.row (by omega) hu
 exact ⟨g, 0, u, rfl, hg, by rw [Nat.zero_add]; exact hc, own_rowAtI (h.each i u NX[i] hu (List.getElem?_eq_getElem hi))⟩
theorem tg_tags {B : Nat} {v : Value} {TG : List Nat} {w : World} (h : w.ownsRow B 54 1 v TG.length (u64s TG)) (hb : ∀ t ∈ TG, t < 18446744073709551616) : TagsAt w v TG := by
 obtain ⟨o, c, rfl⟩ := own_shape h
 refine ⟨o, c, rfl, fun i hi => ?_⟩
 obtain ⟨g, rfl, hc, hg⟩ := own_at h hi (x := .int .u64 (TG[i] : Int)) (by rw [List.getElem?_map, List.getElem?_eq_getElem hi]; rfl)
 exact ⟨g, 0, rfl, hg, by rw [Nat.zero_add]; exact hc, hb _ (List.getElem_mem hi)⟩
def DNew (B : Nat) (w : World) (nv tv : Value) (D : Aut) : Prop := ∀ w' : World, (∀ g : Nat, B ≤ g → w'.heap[g]? = w.heap[g]?) → DAt w' nv tv D
theorem DNew.at_ {B : Nat} {w : World} {nv tv : Value} {D : Aut} (h : DNew B w nv tv D) : DAt w nv tv D := h w fun _ _ => rfl
theorem DNew.mono {B B' : Nat} {w : World} {nv tv : Value} {D : Aut} (h : DNew B w nv tv D) (hB : B' ≤ B) : DNew B' w nv tv D := fun w' hk => h w' fun g hg => hk g (Nat.le_trans hB hg)
theorem StI.force {B nb mb sb : Nat} {Bk : List Int} {st : List Nat} {L : List (Value × Value)} {v v' : Value} {w w' : World} {k : Nat} (h : StI B nb mb sb Bk st L v w) (hj : JM Bk (st ++ [k]) L) (hown : w'.ownsRow B 3 1 v' (st.length + 1) (ints st ++ [.int .i64 (k : Int)])) (hg : w.grownBy w' v.ownBlock) (hat : v'.ownBlock = v.ownBlock ∨ v'.ownBlock = some w.heap.size) :
  w'.heap[sb]? = some (.cells #[v] 87 (0, 0)) ∧ StI B nb mb sb Bk (st ++ [k]) L v' (w'.setCell ⟨sb, 0, none⟩ v') ∧ Touch ([nb, mb, sb] ++ v.ownBlock.toList) w (w'.setCell ⟨sb, 0, none⟩ v') ∧ ∀ a, v'.ownBlock = some a → v.ownBlock = some a ∨ w.heap.size ≤ a := by
 have hv : ∀ a, v'.ownBlock = some a → v.ownBlock = some a ∨ w.heap.size ≤ a := fun a ha => by
  rcases hat with h1 | h1
  ·exact .inl (by rw [← h1]; exact ha)
  ·rw [h1] at ha; injection ha with ha; exact .inr (by omega)
 have hnl := (Array.getElem?_eq_some_iff.1 h.n).1
 have hsl := (Array.getElem?_eq_some_iff.1 h.s).1
 have hml := h.m.lt
 have hsb : w'.heap[sb]? = some (.cells #[v] 87 (0, 0)) := by
  rw [hg.block sb hsl (fun e => (h.off sb e.symm).2.2 rfl)]; exact h.s
 have key : ∀ g : Nat, g < w.heap.size → g ≠ sb → (v.ownBlock ≠ some g) → (w'.setCell ⟨sb, 0, none⟩ v').heap[g]? = w.heap[g]? := fun g h1 h2 h3 => by
  rw [Below.heap_setCell w' ⟨sb, 0, none⟩ _ g h2]; exact hg.block g h1 (fun e => h3 e.symm)
 refine ⟨hsb, ⟨(key nb hnl h.ne.2.1 (fun e => (h.off nb e).1 rfl)).trans h.n, h.m.kept (key mb hml h.ne.2.2.1 (fun e => (h.off mb e).2.1 rfl)), ?_, ?_, hj, h.ne, fun a ha => ?_⟩, ⟨hg.os, hg.tape, hg.output, by rw [World.size_setCell]; exact hg.size, fun g h1 hn => ?_⟩, hv⟩
 ·rw [heap_setCell_same w' sb 0 _ 87 _ hsb]; rfl
 ·have e9 : ints (st ++ [k]) = ints st ++ [.int .i64 (k : Int)] := by simp [ints]
  rw [e9, List.length_append, List.length_singleton]
  refine owns_kept hown fun g hgv => Below.heap_setCell w' ⟨sb, 0, none⟩ _ g (fun e => ?_)
  have e2 : g = sb := e
  rcases hv g hgv with h1 | h1
  ·exact (h.off g h1).2.2 e2
  ·omega
 ·rcases hv a ha with h1 | h1
  ·exact h.off a h1
  ·omega
 ·simp only [List.mem_append, List.mem_cons, List.not_mem_nil, or_false, Option.mem_toList, not_or] at hn
  exact key g h1 hn.1.2.2 hn.2
theorem wp_make_own {P : Program} {w : World} {o : Oper} {a : Act} {K : Act → World → Prop} {Q : Exit → Act → World → Prop}
  (l c : Operand) (t : TypeId) (hop : o.op = Op.makeSlice t l c)
  (base : Nat) (e : TypeId) (i : TypeInfo) (z : Value) (size : Nat) (h1 : P.underlying t = some (.slice e)) (h2 : P.info? e = some i) (h3 : i.zero = some z) (h4 : i.size = size)
  (kl kc : IntKind) (n : Nat) (hl : a.eval l = .int kl 0) (hc : a.eval c = .int kc (n : Int)) (b2 : i.bytes * n ≤ 281474976710656) (b3 : n ≤ maxLen) (b4 : base ≤ w.heap.size)
  (hK : ∀ w', w'.ownsRow base e size (.slice (some ⟨w.heap.size, 0, none⟩) 0 n) 0 [] → w.grownBy w' none → K (a.put o.dst (.slice (some ⟨w.heap.size, 0, none⟩) 0 n)) w') :
  o.wp P a w K Q := by
 obtain ⟨w', hrun, r1, r2⟩ := run_make_own (P := P) w base t e i z size h1 h2 h3 h4 kl kc n b2 b3 b4
 unfold Oper.wp
 simp [execOp, hop, hl, hc, hrun, Result.andThen]
 exact hK w' r1 r2
def OJ (D : Aut) (B lb nb mb sb : Nat) (cv : Array Value) (Bk : List Int) (W : World) (a : Nat) (w : World) : Prop :=
 ∃ (L : List (Value × Value)) (v nd : Value) (CV : List Value) (td : Value), (X6.iterJ D Bk a).at_ = a ∧ CV.length = (X6.iterJ D Bk a).nx.length ∧ GJ B lb nb mb sb cv Bk W (X6.iterJ D Bk a).st L v nil1 [] nd CV (X6.iterJ D Bk a).nx td (X6.iterJ D Bk a).tg w
set_option maxRecDepth 100000 in
set_option maxHeartbeats 16000000 in
theorem joined_any {w : World} {nv tv : Value} {D : Aut} {K N : Nat} {bo : Option Addr} {bc : Nat} {Bk : List Int} (h : DAt w nv tv D) (hD : X6.Ok D K) (hNN : D.next.length = N) (hN : N ≤ 1000000) (hK : K ≤ 1000000) (hb : RowAtI w (.slice bo N bc) Bk) (hB : X6.Blk K D Bk) (hbr : ∀ x ∈ Bk, -1 ≤ x ∧ x < 2147483648) :
  Calls Tryz.prog 43 #[.agg (dval D nv tv), .slice bo N bc] w fun e w' => ∃ (M : Aut) (st : List Nat) (nv' tv' : Value), e = .returned (.agg (dval M nv' tv')) ∧ X6.IsJ D Bk M st ∧ DNew w.heap.size w' nv' tv' M ∧ Below w.heap.size w w' := by
 obtain ⟨cv, hcv⟩ : ∃ cv, ivs D.cls = cv := ⟨_, rfl⟩
 have hcs : cv.size = 256 := by rw [← hcv, ivs_size]; exact h.len
 have hco : cv.all (·.oneCell') = true := by rw [← hcv]; exact ivs_one _
 obtain ⟨dc, hdc⟩ : ∃ dc, dval D nv tv = dc := ⟨_, rfl⟩
 have HD256 := hid (dcell_next h.len nv tv)
 have HD257 := hid (dcell_tags h.len nv tv)
 have hdv : cv ++ #[nv, tv] = dc := by rw [← hcv, ← hdc]
 rw [hdc] at HD256 HD257 ⊢
 have hs258 : dc.size = 258 := by rw [← hdv, Array.size_append, hcs]; rfl
 obtain ⟨no, nc, hno⟩ : ∃ no nc, nv = .slice no D.next.length nc := by
  obtain ⟨ro, rc, e, _⟩ := h.rows
  exact ⟨ro, rc, e⟩
 obtain ⟨to, tc, hto⟩ : ∃ to tc, tv = .slice to D.tags.length tc := by
  obtain ⟨ro, rc, e, _⟩ := h.tags
  exact ⟨ro, rc, e⟩
 subst hno hto
 have htl : D.tags.length = N := by rw [hD.tags]; exact hNN
 obtain ⟨wa, ea⟩ : ∃ wa, w.alloc (.cells dc 26) = wa := ⟨_, rfl⟩
 obtain ⟨wb, eb⟩ : ∃ wb, wa.alloc (.cells #[.slice bo N bc] 87) = wb := ⟨_, rfl⟩
 obtain ⟨wr0, er0⟩ : ∃ wr0, wb.alloc (.cells dvz 26) = wr0 := ⟨_, rfl⟩
 obtain ⟨wl, el⟩ : ∃ wl, wr0.alloc (.cells dvz 26) = wl := ⟨_, rfl⟩
 obtain ⟨ld, hld⟩ : ∃ ld, cv ++ #[nil1, nil1] = ld := ⟨_, rfl⟩
 have HLD := hid (And.intro hld (And.intro (show ld.size = 258 from by rw [← hld]; exact dvi_size' hcs) (show ld.all (·.oneCell') = true from by rw [← hld]; exact dvi_one' hco rfl rfl)))
 obtain ⟨w4, e4⟩ : ∃ w4, wl.setRow wr0.heap.size ld = w4 := ⟨_, rfl⟩
 obtain ⟨w5, e5⟩ : ∃ w5, w4.alloc (.map #[] 0) = w5 := ⟨_, rfl⟩
 obtain ⟨w6, e6⟩ : ∃ w6, w5.alloc (.cells #[.map (some w4.heap.size)] 121) = w6 := ⟨_, rfl⟩
 obtain ⟨w7, e7⟩ : ∃ w7, w6.alloc (.cells #[nil1] 87) = w7 := ⟨_, rfl⟩
 have sa : wa.heap.size = w.heap.size + 1 := by rw [← ea]; simp
 have sb' : wb.heap.size = wa.heap.size + 1 := by rw [← eb]; simp
 have sr : wr0.heap.size = wb.heap.size + 1 := by rw [← er0]; simp
 have sl : wl.heap.size = wr0.heap.size + 1 := by rw [← el]; simp
 have s4 : w4.heap.size = wl.heap.size := by rw [← e4, setRow_size]
 have s5 : w5.heap.size = w4.heap.size + 1 := by rw [← e5]; simp
 have s6 : w6.heap.size = w5.heap.size + 1 := by rw [← e6]; simp
 have s7 : w7.heap.size = w6.heap.size + 1 := by rw [← e7]; simp
 have ba : Below w.heap.size w wa := by rw [← ea]; exact (Below.refl _ _).alloc (Nat.le_refl _) _
 have bb : Below wa.heap.size wa wb := by rw [← eb]; exact (Below.refl _ _).alloc (Nat.le_refl _) _
 have br : Below wb.heap.size wb wr0 := by rw [← er0]; exact (Below.refl _ _).alloc (Nat.le_refl _) _
 have bl : Below wr0.heap.size wr0 wl := by rw [← el]; exact (Below.refl _ _).alloc (Nat.le_refl _) _
 have b5 : Below w4.heap.size w4 w5 := by rw [← e5]; exact (Below.refl _ _).alloc (Nat.le_refl _) _
 have b6 : Below w5.heap.size w5 w6 := by rw [← e6]; exact (Below.refl _ _).alloc (Nat.le_refl _) _
 have b7 : Below w6.heap.size w6 w7 := by rw [← e7]; exact (Below.refl _ _).alloc (Nat.le_refl _) _
 have b47 : Below w4.heap.size w4 w7 := b5.trans ((b6.trans (b7.mono b6.size)).mono b5.size)
 have bw0 : Below w.heap.size w wr0 := ba.trans ((bb.trans (br.mono bb.size)).mono ba.size)
 have nl : wl.heap[wr0.heap.size]? = some (.cells dvz 26 (0, 0)) := by rw [← el]; exact new_block _ _
 have na0 : wa.heap[w.heap.size]? = some (.cells dc 26 (0, 0)) := by rw [← ea]; exact new_block _ _
 have nd0 : wr0.heap[w.heap.size]? = some (.cells dc 26 (0, 0)) := (br.block _ (by omega)).trans ((bb.block _ (by omega)).trans na0)
 have nb0 : wr0.heap[wa.heap.size]? = some (.cells #[.slice bo N bc] 87 (0, 0)) := (br.block _ (by omega)).trans (by rw [← eb]; exact new_block _ _)
 have nr0 : wr0.heap[wb.heap.size]? = some (.cells dvz 26 (0, 0)) := by rw [← er0]; exact new_block _ _
 have hsti : StI wr0.heap.size w5.heap.size w4.heap.size w6.heap.size Bk [] [] nil1 w7 :=
  ⟨(b7.block _ (by omega)).trans (by rw [← e6]; exact new_block _ _), (show MapIs Tryz.prog 3 w5 w4.heap.size [] from by rw [← e5]; exact MapIs.made w4).below (b6.trans (b7.mono b6.size)), by rw [← e7]; exact new_block _ _, World.ownsRow_nil w7 _ 3 1, ⟨fun i s hi => by simp at hi, fun p hp => by simp at hp⟩, ⟨by omega, by omega, by omega, by omega, by omega, by omega⟩, fun a ha => by simp [Value.ownBlock, nil1] at ha⟩
 have hf4 := ((Foot.empty wr0 wr0.heap.size (Nat.le_refl _)).add (blkI wr0.heap.size (.cells dvz 26 (0, 0))) bl nl (fun b hb => by
  have : b = wr0.heap.size := by simpa [blkI] using hb
  omega)).upd 0 rfl (blkI wr0.heap.size (.cells (cv ++ #[nil1, nil1]) 26 (0, 0))) (Touch.setRow wl wr0.heap.size (cv ++ #[nil1, nil1])) (setRow_heap wl wr0.heap.size dvz _ 26 (0, 0) nl) (fun b hb => ⟨.inl hb, by
  have : b = wr0.heap.size := by simpa [blkI] using hb
  rw [setRow_size]; omega⟩)
 rw [hld, e4] at hf4
 have hg7 : GJ wr0.heap.size wr0.heap.size w5.heap.size w4.heap.size w6.heap.size cv Bk wr0 [] [] nil1 nil1 [] nil1 [] [] nil1 [] w7 := by
  unfold GJ
  rw [hld]
  exact (((hf4.add (stI wr0.heap.size w5.heap.size w4.heap.size w6.heap.size Bk [] [] nil1) b47 hsti (fun b hb => by
   have : b = w5.heap.size ∨ b = w4.heap.size ∨ b = w6.heap.size := by simpa [stI, Value.ownBlock, nil1] using hb
   omega)).add (rowI wr0.heap.size 3 nil1 (zs [])) (Below.refl _ _) (World.ownsRow_nil w7 _ 3 1) (fun b hb => by simp [rowI, Value.ownBlock, nil1] at hb)).add (nxI wr0.heap.size nil1 [] []) (Below.refl _ _) ⟨World.ownsRow_nil w7 _ 87 1, Nat.le_refl _, fun i u x hu => by simp at hu, fun b hb => by simp [inBl] at hb⟩ (fun b hb => by simp [nxI, inBl, Value.ownBlock, nil1] at hb)).add (rowI wr0.heap.size 54 nil1 (u64s [])) (Below.refl _ _) (World.ownsRow_nil w7 _ 54 1) (fun b hb => by simp [rowI, Value.ownBlock, nil1] at hb)
 have hbel7 : Below wr0.heap.size wr0 w7 := Foot.bel hg7
 have hN0 : 0 < N := by rw [← hNN]; exact List.length_pos_iff.2 hD.some_
 have hboB : ∀ a, bo = some a → a.block < wr0.heap.size := by
  intro a ha
  obtain ⟨ro, rc, e, h1⟩ := hb
  injection e with e1 e2 e3
  obtain ⟨b, off, e4, h2, _⟩ := h1 0 (by have := hB.len; omega)
  rw [← e1, ha] at e4
  injection e4 with e4
  subst e4
  show b < _
  omega
 have hblen : Bk.length = N := by rw [hB.len]; exact hNN
 have KN := hid (numberJ_any (w := w7) (bb := wa.heap.size) hN ((hbel7.block _ (by omega)).trans nb0) ⟨by omega, by omega, by omega, by omega⟩ (hb.below (bw0.trans (hbel7.mono bw0.size))) hblen hbr hboB hbel7.size (by simp) hg7.sti 0 (by omega) (by omega))
 have HDA := hid (h.below bw0)
 have HRB := hid (hb.below bw0)
 have HOK := hid hD
 have HBLK := hid hB
 have HBR := hid hbr
 have HNN := hid (And.intro hNN (And.intro htl (And.intro hblen hN0)))
 have HBO := hid hboB
 have HCV := hid (And.intro hcv (And.intro hcs (And.intro hco (And.intro hdv hs258))))
 have HND := hid nd0
 have HNB := hid nb0
 have HNR := hid nr0
 have HG7 := hid hg7
 have HNL := hid (new_block wr0 (.cells dvz 26))
 have e4' : (wr0.alloc (.cells dvz 26)).setRow wr0.heap.size ld = w4 := by rw [el]; exact e4
 have HBW0 := hid bw0
 have HSZ := hid (And.intro sa (And.intro sb' (And.intro sr (And.intro sl (And.intro s4 (And.intro s5 (And.intro s6 s7)))))))
 have HNDL := hid (show wl.heap[w.heap.size]? = some (.cells dc 26 (0, 0)) from (bl.block _ (by omega)).trans nd0)
 have hmm := @run_makeMap Tryz.prog
 clear el e4 hld h hD hNN hb hB hbr hcv hcs hco hdv hs258 hdc htl sa sb' sr sl s4 s5 s6 s7 ba bb br bl b5 b6 b7 b47 bw0 nl na0 nd0 nb0 nr0 hsti hf4 hg7 hbel7 hN0 hboB hblen
 go_enter Tryz.func43, Tryz.ntmps43
 go_wp2_with (first | (with_reducible refine wpList_made30 rfl rfl ?_) | (with_reducible refine wpList_load26i rfl (.tmp 13) rfl w.heap.size rfl cv _ _ dc HCV.out.2.2.2.1 HND.out HCV.out.2.1 ?_) | (with_reducible refine wpList_build30i rfl (.tmp 14) rfl cv HCV.out.2.1 rfl ld HLD.out.1 ?_) | (with_reducible refine wpList_store30 rfl (.tmp 5) (.tmp 15) rfl wr0.heap.size rfl dvz ld HNL.out rfl dvz_size HLD.out.2.1 HLD.out.2.2 ?_))
 refine KN.out.mono ?_
 rintro e w8 hnum
 obtain ⟨v8, L8, rfl, hg8⟩ := HG7.out.num hnum
 clear hnum KN e4' e5 e6 e7 ea eb er0 hmm
 by_cases hd : Bk.getD 0 (-1) = -1
 ·have hnj : X6.numJ Bk 0 [] = (-1, []) := by unfold X6.numJ; rw [if_pos (.inr hd)]
  rw [hnj] at hg8 ⊢
  obtain ⟨so8, sc8, rfl⟩ := own_shape hg8.sti.r
  have cs8 : w8.cell? ⟨w6.heap.size, 0, none⟩ = some (.slice so8 0 sc8) := by rw [Lib.cell_of_heap hg8.sti.s]; rfl
  have hsl8 := (Array.getElem?_eq_some_iff.1 hg8.sti.s).1
  obtain ⟨w9, e9⟩ : ∃ w9, w8.alloc (.cells #[.int .i64 0] 3) = w9 := ⟨_, rfl⟩
  have hb9 : Below w8.heap.size w8 w9 := by rw [← e9]; exact (Below.refl _ _).alloc (Nat.le_refl _) _
  have HN9 := hid (show w9.heap[w8.heap.size]? = some (.cells #[.int .i64 0] 3 (0, 0)) from by rw [← e9]; exact new_block _ _)
  have HG9 := hid (hg8.below hb9)
  have HO9 := hid HG9.out.sti.r
  have hB9 := HG9.out.leB
  have HDD := hid hd
  clear hg8 hb9 hnj hd
  go_wp2_with (at_builtin; refine wpList_push1 rfl (.tmp 21) (.tmp 22) 87 3 rfl (.int .i64 0) 8 Tryz.underlying87 info3 rfl (by decide) wr0.heap.size (.slice so8 0 sc8) 0 (ints []) rfl HO9.out w8.heap.size rfl (.int .i64 0) HN9.out rfl (by omega) hB9 ?_)
  intro v10 w10 hown10 hgr10 hat10
  obtain ⟨so10, sc10, rfl⟩ := own_shape hown10
  obtain ⟨hsb10, hst10, ht10, hv10⟩ := HG9.out.sti.force (k := 0) ⟨fun i s hi hn => by
   have hi0 := (List.getElem?_eq_some_iff.1 hi).1
   simp at hi0
   subst hi0
   simp at hi
   subst hi
   exact absurd HDD.out hn, fun p hp => by
   obtain ⟨s, hs, _⟩ := HG9.out.sti.jm.off p hp
   simp at hs⟩ hown10 hgr10 hat10
  have cs10 : w10.cell? ⟨w6.heap.size, 0, none⟩ = some (.slice so8 0 sc8) := by rw [Lib.cell_of_heap hsb10]; rfl
  have fs10 := Lib.frozen_of_heap hsb10 0
  have hsl10 := (Array.getElem?_eq_some_iff.1 hsb10).1
  obtain ⟨wz, ez⟩ : ∃ wz, w10.setCell ⟨w6.heap.size, 0, none⟩ (.slice so10 (0 + 1) sc10) = wz := ⟨_, rfl⟩
  rw [ez] at hst10 ht10
  have hgz := Foot.upd HG9.out 1 rfl (stI wr0.heap.size w5.heap.size w4.heap.size w6.heap.size Bk [0] L8 (.slice so10 (0 + 1) sc10)) ht10 hst10 (fun b hb => ⟨by
   rcases List.mem_append.1 (show b ∈ [w5.heap.size, w4.heap.size, w6.heap.size] ++ (Value.slice so10 (0 + 1) sc10).ownBlock.toList from hb) with h1 | h1
   ·exact .inl (List.mem_append.2 (.inl h1))
   ·rcases hv10 b (by simpa using h1) with h2 | h2
    ·exact .inl (List.mem_append.2 (.inr (by rw [h2]; simp)))
    ·exact .inr h2, (hst10.lt b hb).2⟩)
  have HOJ := hid (show OJ D wr0.heap.size wr0.heap.size w5.heap.size w4.heap.size w6.heap.size cv Bk wr0 0 wz from ⟨L8, _, nil1, [], nil1, rfl, rfl, hgz⟩)
  clear hsb10 hst10 ht10 hv10 hgz hown10 hgr10 hat10 e9
  go_wp2_with fail
  clear cs8 hsl8 cs10 fs10 hsl10 ez HG9 HO9 HN9 hB9 HDD
  clear HG7 HNL HNDL
  obtain ⟨j0, hj, hk0, hk1, hk2⟩ := info_parts info3
  have HJ0 := hid (And.intro hj (And.intro hk0 (And.intro hk1 hk2)))
  clear hj hk0 hk1 hk2
  go_loopw [9] (fun t9 wr => ∃ a : Nat, t9 = .int .i64 (a : Int) ∧ Hid (OJ D wr0.heap.size wr0.heap.size w5.heap.size w4.heap.size w6.heap.size cv Bk wr0 a wr)) (fun t9 _ => N + 1 - (RowKit.intOf t9).toNat)
  case atStart => exact ⟨0, rfl, HOJ⟩
  case round =>
   clear HOJ
   obtain ⟨a, rfl, HO⟩ := hrel
   obtain ⟨L, v, nd, CV, td, hat, hCV, hg⟩ := HO.out
   have hinv := X6.iter_ok HOK.out HBLK.out a
   obtain ⟨j, hj⟩ : ∃ j, X6.iterJ D Bk a = j := ⟨_, rfl⟩
   have HJ := hid hj
   rw [hj] at hat hCV hg hinv
   have hfew := hinv.st.few
   obtain ⟨so, sc, rfl⟩ := own_shape hg.sti.r
   obtain ⟨ndo, ndc, rfl⟩ := own_shape hg.nx.row
   obtain ⟨tdo, tdc, rfl⟩ := own_shape hg.tg
   have csb : wr.cell? ⟨w6.heap.size, 0, none⟩ = some (.slice so j.st.length sc) := by rw [Lib.cell_of_heap hg.sti.s]; rfl
   have hsbl := (Array.getElem?_eq_some_iff.1 hg.sti.s).1
   obtain ⟨n, hn⟩ : ∃ n, j.st.length = n := ⟨_, rfl⟩
   rw [hn] at csb hfew hg
   have HG := hid hg
   have HI := hid hinv
   have HN := hid (And.intro hn (And.intro hat hCV))
   have hnN : n ≤ N := by rw [← HNN.out.1]; exact hfew
   have han : a ≤ n := by have := hinv.at_; omega
   by_cases hlt : a < n
   ·have k1 : (a : Int) < (n : Int) := by omega
    have k2 : (0 : Int) ≤ (a : Int) := by omega
    obtain ⟨s, hs⟩ : ∃ s, j.st[a]? = some s := ⟨_, List.getElem?_eq_getElem (by omega)⟩
    have hsD := hinv.st.lt s (List.mem_of_getElem? hs)
    have hsN : s < N := by rw [← HNN.out.1]; exact hsD
    have k3 : (s : Int) < (D.next.length : Int) := by omega
    have k4 : (0 : Int) ≤ (s : Int) := by omega
    have hrr := hg.sti.r
    rw [hn] at hrr
    obtain ⟨sg, hsg, ccs, hsgl⟩ := own_at hrr hlt (x := .int .i64 (s : Int)) (by rw [List.getElem?_map, hs]; rfl)
    subst hsg
    obtain ⟨bn, offn, ro, rc, nc', hno, hbn, cn, hrow⟩ := rowsAt_get HDA.out.rows (rowOf_get hsD)
    injection hno with hno1 hno2 hno3
    subst hno1
    have hrl := HOK.out.rows s hsD
    rw [hrl] at cn hrow
    have hbel := Foot.bel hg
    obtain ⟨wd, ewd⟩ : ∃ wd, wr.drew = wd := ⟨_, rfl⟩
    have hbd : Below wr.heap.size wr wd := by rw [← ewd]; exact (Below.refl _ _).drew
    have HGD := hid (hg.below hbd)
    have hsr : w.heap.size < wr0.heap.size := by have := HSZ.out; omega
    have hbelD := hbel.trans (hbd.mono hbel.size)
    have HH : wd.cell? ⟨w.heap.size, 256, none⟩ = some (.slice (some ⟨bn, offn, none⟩) D.next.length nc) ∧ wd.cell? ⟨w6.heap.size, 0, none⟩ = some (.slice (some ⟨sg, 0, none⟩) n sc) ∧ wd.cell? ⟨sg, a, none⟩ = some (.int .i64 (s : Int)) ∧ wd.cell? ⟨bn, offn + s, none⟩ = some (.slice ro K rc) ∧ w6.heap.size < wd.heap.size ∧ sg < wd.heap.size :=
     ⟨cell_bel hbelD hsr (by rw [Lib.cell_of_heap HND.out]; exact HD256.out), cell_bel hbd hsbl csb, cell_bel hbd hsgl ccs, cell_bel hbelD hbn cn, by have := hbd.size; omega, by have := hbd.size; omega⟩
    have HRW := hid (And.intro hrow (And.intro hrl (And.intro hsD hs)))
    have HBN := hid (And.intro hbn (And.intro hsr cn))
    clear hrr hno2 hno3 hrow hrl hsD hs hbd hbel hbelD hinv hg hn hat hCV hfew hj HO cn hbn
    go_wp2_with fail
    clear csb ccs
    refine region_T 10 (fun w' => w'.cell? ⟨w.heap.size, 256, none⟩ = some (.slice (some ⟨bn, offn, none⟩) D.next.length nc) ∧ w'.cell? ⟨w6.heap.size, 0, none⟩ = some (.slice (some ⟨sg, 0, none⟩) n sc) ∧ w'.cell? ⟨sg, a, none⟩ = some (.int .i64 (s : Int)) ∧ w'.cell? ⟨bn, offn + s, none⟩ = some (.slice ro K rc) ∧ w6.heap.size < w'.heap.size ∧ sg < w'.heap.size) (by kernel_rfl) (by rw [ewd]; exact HH) (fun inv hHeld => ?_)
    rw [ewd]
    clear hHeld ewd
    refine anyT_take (i := 0) (oi := { dst := some 30, op := Go.Op.fieldAddr 26 (Go.Operand.tmp 2) 1, type := 0, pos := "mini.go:160", after := #[], guard := none }) (v := ?_) rfl (by kernel_rfl) (by kernel_rfl) (by kernel_rfl) (by decide) (by decide) (by kernel_rfl) (by kernel_rfl) (fun _ _ _ h => h) (Or.inl ⟨by rfl, ?_⟩) HH inv (fun inv => ?_)
    rotate_left
    ·intro w hSw
     try dsimp only at hSw
     go_simp
     try with_reducible rfl
    simp only [Act.put, List.setIfInBounds_toArray, List.set_cons_zero, List.set_cons_succ]
    refine anyT_take (i := 1) (oi := { dst := some 31, op := Go.Op.load 23 (Go.Operand.tmp 30), type := 23, pos := "mini.go:160", after := #[{ on := 0, ground := Go.Ground.data }], guard := none }) (v := ?_) rfl (by kernel_rfl) (by kernel_rfl) (by kernel_rfl) (by decide) (by decide) (by kernel_rfl) (by kernel_rfl) (fun _ _ _ h => h) (Or.inl ⟨by rfl, ?_⟩) HH inv (fun inv => ?_)
    rotate_left
    ·intro w hSw
     try dsimp only at hSw
     go_simp
     try with_reducible rfl
    simp only [Act.put, List.setIfInBounds_toArray, List.set_cons_zero, List.set_cons_succ]
    refine anyT_take (i := 2) (oi := { dst := some 32, op := Go.Op.load 87 (Go.Operand.tmp 7), type := 87, pos := "mini.go:160", after := #[], guard := none }) (v := ?_) rfl (by kernel_rfl) (by kernel_rfl) (by kernel_rfl) (by decide) (by decide) (by kernel_rfl) (by kernel_rfl) (fun _ _ _ h => h) (Or.inl ⟨by rfl, ?_⟩) HH inv (fun inv => ?_)
    rotate_left
    ·intro w hSw
     try dsimp only at hSw
     go_simp
     try with_reducible rfl
    simp only [Act.put, List.setIfInBounds_toArray, List.set_cons_zero, List.set_cons_succ]
    refine anyT_take (i := 3) (oi := { dst := some 33, op := Go.Op.move (Go.Operand.tmp 9), type := 3, pos := "mini.go:160", after := #[], guard := none }) (v := ?_) rfl (by kernel_rfl) (by kernel_rfl) (by kernel_rfl) (by decide) (by decide) (by kernel_rfl) (by kernel_rfl) (fun _ _ _ h => h) (Or.inl ⟨by rfl, ?_⟩) HH inv (fun inv => ?_)
    rotate_left
    ·intro w hSw
     try dsimp only at hSw
     go_simp
     try with_reducible rfl
    simp only [Act.put, List.setIfInBounds_toArray, List.set_cons_zero, List.set_cons_succ]
    refine anyT_take (i := 4) (oi := { dst := some 34, op := Go.Op.indexAddr 87 (Go.Operand.tmp 32) (Go.Operand.tmp 33), type := 0, pos := "mini.go:160", after := #[{ on := 2, ground := Go.Ground.data }, { on := 3, ground := Go.Ground.data }], guard := none }) (v := ?_) rfl (by kernel_rfl) (by kernel_rfl) (by kernel_rfl) (by decide) (by decide) (by kernel_rfl) (by kernel_rfl) (fun _ _ _ h => h) (Or.inl ⟨by rfl, ?_⟩) HH inv (fun inv => ?_)
    rotate_left
    ·intro w hSw
     try dsimp only at hSw
     go_simp
     try with_reducible rfl
    simp only [Act.put, List.setIfInBounds_toArray, List.set_cons_zero, List.set_cons_succ]
    refine anyT_take (i := 5) (oi := { dst := some 35, op := Go.Op.load 3 (Go.Operand.tmp 34), type := 3, pos := "mini.go:160", after := #[{ on := 4, ground := Go.Ground.data }], guard := none }) (v := ?_) rfl (by kernel_rfl) (by kernel_rfl) (by kernel_rfl) (by decide) (by decide) (by kernel_rfl) (by kernel_rfl) (fun _ _ _ h => h) (Or.inl ⟨by rfl, ?_⟩) HH inv (fun inv => ?_)
    rotate_left
    ·intro w hSw
     try dsimp only at hSw
     go_simp
     try with_reducible rfl
    simp only [Act.put, List.setIfInBounds_toArray, List.set_cons_zero, List.set_cons_succ]
    refine anyT_take (i := 6) (oi := { dst := some 36, op := Go.Op.indexAddr 23 (Go.Operand.tmp 31) (Go.Operand.tmp 35), type := 0, pos := "mini.go:160", after := #[{ on := 1, ground := Go.Ground.data }, { on := 5, ground := Go.Ground.data }], guard := none }) (v := ?_) rfl (by kernel_rfl) (by kernel_rfl) (by kernel_rfl) (by decide) (by decide) (by kernel_rfl) (by kernel_rfl) (fun _ _ _ h => h) (Or.inl ⟨by rfl, ?_⟩) HH inv (fun inv => ?_)
    rotate_left
    ·intro w hSw
     try dsimp only at hSw
     go_simp
     try with_reducible rfl
    simp only [Act.put, List.setIfInBounds_toArray, List.set_cons_zero, List.set_cons_succ]
    refine anyT_take (i := 7) (oi := { dst := some 37, op := Go.Op.load 87 (Go.Operand.tmp 36), type := 87, pos := "mini.go:160", after := #[{ on := 6, ground := Go.Ground.data }], guard := none }) (v := ?_) rfl (by kernel_rfl) (by kernel_rfl) (by kernel_rfl) (by decide) (by decide) (by kernel_rfl) (by kernel_rfl) (fun _ _ _ h => h) (Or.inl ⟨by rfl, ?_⟩) HH inv (fun inv => ?_)
    rotate_left
    ·intro w hSw
     try dsimp only at hSw
     go_simp
     try with_reducible rfl
    simp only [Act.put, List.setIfInBounds_toArray, List.set_cons_zero, List.set_cons_succ]
    refine anyT_take (i := 8) (oi := { dst := some 38, op := Go.Op.call { callee := Go.Callee.builtin Go.Builtin.len, args := #[Go.Operand.tmp 37], argTypes := #[87] }, type := 3, pos := "mini.go:160", after := #[{ on := 7, ground := Go.Ground.data }], guard := none }) (v := ?_) rfl (by kernel_rfl) (by kernel_rfl) (by kernel_rfl) (by decide) (by decide) (by kernel_rfl) (by kernel_rfl) (fun _ _ _ h => h) (Or.inl ⟨by rfl, ?_⟩) HH inv (fun inv => ?_)
    rotate_left
    ·intro w hSw
     try dsimp only at hSw
     go_simp
     try with_reducible rfl
    simp only [Act.put, List.setIfInBounds_toArray, List.set_cons_zero, List.set_cons_succ]
    refine anyT_next (i := 9) (o := { dst := some 39, op := Go.Op.makeSlice 87 (Go.Operand.const (Go.Value.int Go.IntKind.i64 0)) (Go.Operand.tmp 38), type := 87, pos := "mini.go:160", after := #[{ on := 8, ground := Go.Ground.data }], guard := none }) (by kernel_rfl) rfl (by decide) inv (fun inv K' hK => ?_)
    simp only [Region.wanted]
    rw [if_pos trivial]
    refine wp_make_own (.const (.int .i64 0)) (.tmp 38) 87 rfl wr0.heap.size 3 j0 (.int .i64 0) 1 Tryz.underlying87 HJ0.out.1 HJ0.out.2.1 HJ0.out.2.2.1 .i64 .i64 K rfl rfl (by rw [HJ0.out.2.2.2]; omega) (by unfold maxLen; omega) HGD.out.leB ?_
    intro wm hownm hgm
    have hbm : Below wd.heap.size wd wm := (Below.refl _ _).grown hgm (Nat.le_refl _) (by simp)
    have HGM := hid (HGD.out.fresh rfl hownm hbm (fun b hb => by simp [Value.ownBlock] at hb; omega))
    have HH2 := cellsKept hbm HH
    refine hK.out _ _ HH2 ?_
    clear hK K' HH hownm hgm
    try simp only [Act.put, List.setIfInBounds_toArray, List.set_cons_zero, List.set_cons_succ]
    refine anyT_one (i := 10) (o := { dst := some 10, op := Go.Op.assign (Go.Operand.tmp 39), type := 87, pos := "mini.go:160", after := #[{ on := 9, ground := Go.Ground.data }, { on := 0, ground := Go.Ground.phase }, { on := 1, ground := Go.Ground.phase }, { on := 2, ground := Go.Ground.phase }, { on := 3, ground := Go.Ground.phase }, { on := 4, ground := Go.Ground.phase }, { on := 5, ground := Go.Ground.phase }, { on := 6, ground := Go.Ground.phase }, { on := 7, ground := Go.Ground.phase }, { on := 8, ground := Go.Ground.phase }, { on := 9, ground := Go.Ground.phase }], guard := none }) (by kernel_rfl) rfl (fun K' hK => ?_)
    go_simp
    refine hK.out _ _ (fun h => absurd h (by decide)) ?_
    clear hK K'
    try simp only [Act.put, List.setIfInBounds_toArray, List.set_cons_zero, List.set_cons_succ]
    refine anyT_done (by kernel_rfl) ?_ _
    obtain ⟨x1, x2, x3, x4, x5, x6⟩ := HH2
    go_wp2_with fail
    go_quiet (fail)
    obtain ⟨wq, ewq⟩ : ∃ wq, wm.drewN nq = wq := ⟨_, rfl⟩
    have hbq : Below wm.heap.size wm wq := by rw [← ewq]; exact below_drewN (Below.refl _ _) nq
    have HGQ := hid (HGM.out.below hbq)
    have hsg := (owns_lt (show wr.ownsRow wr0.heap.size 3 1 (.slice (some ⟨sg, 0, none⟩) n sc) n (ints j.st) from by have := HG.out.sti.r; rw [HN.out.1] at this; exact this) sg rfl).1
    have HSG := hid hsg
    rw [ewq]
    clear x1 x2 x3 x4 x5 x6 hbq ewq hsg
    go_wp2_with fail
    have HIN := hid (show ∃ L' v', GJ wr0.heap.size wr0.heap.size w5.heap.size w4.heap.size w6.heap.size cv Bk wr0 (X6.rowJ Bk ((X5.rowOf D s).take 0) ([], j.st)).2 L' v' (.slice (some ⟨wd.heap.size, 0, none⟩) 0 K) (X6.rowJ Bk ((X5.rowOf D s).take 0) ([], j.st)).1 (.slice ndo CV.length ndc) CV j.nx (.slice tdo j.tg.length tdc) j.tg wq from ⟨L, _, HGQ.out⟩)
    have HRJ := hid (show ∀ c, c ≤ K → X6.StJ D Bk (X6.rowJ Bk ((X5.rowOf D s).take c) ([], j.st)).2 ∧ j.st <+: (X6.rowJ Bk ((X5.rowOf D s).take c) ([], j.st)).2 ∧ (X6.rowJ Bk ((X5.rowOf D s).take c) ([], j.st)).1.length = c from fun c hc => by
     have h := X6.row_ok HBLK.out ((X5.rowOf D s).take c) [] j.st [] HI.out.st (fun z hz => (HOK.out.ends s HRW.out.2.2.1 z (List.mem_of_mem_take hz)).2) rfl (fun c hc => by simp at hc)
     refine ⟨h.1, h.2.1, ?_⟩
     rw [h.2.2.1, List.nil_append, List.length_take, HRW.out.2.1]
     omega)
    go_loopw [10, 49] (fun t10 t49 wr => ∃ (c : Nat) (o : Option Addr) (cq : Nat), c ≤ K ∧ t49 = .int .i64 (c : Int) ∧ t10 = .slice o c cq ∧ Hid (∃ L' v', GJ wr0.heap.size wr0.heap.size w5.heap.size w4.heap.size w6.heap.size cv Bk wr0 (X6.rowJ Bk ((X5.rowOf D s).take c) ([], j.st)).2 L' v' (.slice o c cq) (X6.rowJ Bk ((X5.rowOf D s).take c) ([], j.st)).1 (.slice ndo CV.length ndc) CV j.nx (.slice tdo j.tg.length tdc) j.tg wr)) (fun _ t49 _ => K - (RowKit.intOf t49).toNat)
    case atStart => exact ⟨0, _, _, Nat.zero_le _, rfl, rfl, HIN⟩
    case round =>
     clear HIN
     obtain ⟨c, co, cq, hc, rfl, rfl, HC⟩ := hrel
     obtain ⟨L2, v2, hg2⟩ := HC.out
     by_cases hlc : c < K
     ·have g1 : (c : Int) < (K : Int) := by omega
      have g2 : (0 : Int) ≤ (c : Int) := by omega
      obtain ⟨z, hz⟩ : ∃ z, (X5.rowOf D s)[c]? = some z := ⟨_, List.getElem?_eq_getElem (by rw [HRW.out.2.1]; exact hlc)⟩
      obtain ⟨bz, offz, hro, hbz, cz⟩ := rowAt_get HRW.out.1 hz
      subst hro
      have hzb := HOK.out.ends s HRW.out.2.2.1 z (List.mem_of_getElem? hz)
      have hbel2 := Foot.bel hg2
      have cz' := cell_bel hbel2 hbz cz
      have hst2 := HRJ.out c hc
      have KN := hid (numberJ_any (w := wr) (bb := wa.heap.size) hN ((hbel2.block _ (by have := HSZ.out; omega)).trans HNB.out) (by have := HSZ.out; omega) (HRB.out.below hbel2) HNN.out.2.2.1 HBR.out HBO.out hg2.leB (by have := hst2.1.few; have := HNN.out.1; omega) hg2.sti z hzb.1 (by have := HNN.out.1; omega))
      have HG2 := hid hg2
      have HZ := hid (rowJ_snoc Bk hz ([], j.st))
      have HR2 := hid hst2
      clear hg2 hz cz hzb hbel2 hst2
      go_wp2_with fail
      refine KN.out.mono ?_
      rintro e w9 hnum
      obtain ⟨v3, L3, rfl, hg3⟩ := HG2.out.num hnum
      obtain ⟨y, hy⟩ : ∃ y, (X6.numJ Bk z (X6.rowJ Bk ((X5.rowOf D s).take c) ([], j.st)).2).1 = y := ⟨_, rfl⟩
      rw [hy]
      have HY := hid hy
      obtain ⟨w10, e10⟩ : ∃ w10, w9.alloc (.cells #[.int .i64 y] 3) = w10 := ⟨_, rfl⟩
      have hb10 : Below w9.heap.size w9 w10 := by rw [← e10]; exact (Below.refl _ _).alloc (Nat.le_refl _) _
      have HN10 := hid (show w10.heap[w9.heap.size]? = some (.cells #[.int .i64 y] 3 (0, 0)) from by rw [← e10]; exact new_block _ _)
      have HG4 := hid (hg3.below hb10)
      have hrow4 := HG4.out.rowAt
      rw [HR2.out.2.2] at hrow4
      have HO4 := hid hrow4
      have hB4 := HG4.out.leB
      clear hg3 hb10 hnum KN hrow4 hy
      go_wp2_with (at_builtin; refine wpList_push1 rfl (.tmp 53) (.tmp 57) 87 3 rfl (.int .i64 0) 8 Tryz.underlying87 info3 rfl (by decide) wr0.heap.size (.slice co c cq) c (zs (X6.rowJ Bk ((X5.rowOf D s).take c) ([], j.st)).1) rfl HO4.out w9.heap.size rfl (.int .i64 y) HN10.out rfl (by omega) hB4 ?_)
      intro v11 w11 hown11 hg11 hat11
      obtain ⟨so11, sc11, rfl⟩ := own_shape hown11
      have HG5 := hid (HG4.out.push (by rw [HR2.out.2.2]; exact hown11) hg11 hat11)
      clear hown11 hg11 hat11 e10
      go_wp2_with fail
      refine ⟨⟨c + 1, so11, sc11, by omega, rfl, rfl, hid ⟨L3, v3, ?_⟩⟩, ?_⟩
      ·rw [HZ.out, HY.out]
       exact HG5.out
      ·show K - ((c : Int) + 1).toNat < K - ((c : Int)).toNat
       omega
     ·obtain rfl : K = c := by omega
      have g1 : ¬ (K : Int) < (K : Int) := by omega
      have hfull : (X5.rowOf D s).take K = X5.rowOf D s := List.take_of_length_le (by rw [HRW.out.2.1]; omega)
      have hrj := HRJ.out K hc
      rw [hfull] at hg2 hrj
      obtain ⟨RJ, hRJ⟩ : ∃ RJ, X6.rowJ Bk (X5.rowOf D s) ([], j.st) = RJ := ⟨_, rfl⟩
      rw [hRJ] at hg2 hrj
      have HRJ2 := hid hRJ
      obtain ⟨so2, sc2, rfl⟩ := own_shape hg2.sti.r
      have hst2 : RJ.2[a]? = some s := by
       obtain ⟨t, ht⟩ := hrj.2.1
       rw [← ht, List.getElem?_append_left (by have := HN.out.1; omega)]
       exact HRW.out.2.2.2
      have hal : a < RJ.2.length := (List.getElem?_eq_some_iff.1 hst2).1
      obtain ⟨sg2, hsg2, ccs2, hsgl2⟩ := own_at hg2.sti.r hal (x := .int .i64 (s : Int)) (by rw [List.getElem?_map, hst2]; rfl)
      subst hsg2
      have h256 := hg2.c256 HCV.out.2.1
      have c256 := h256.1
      have l256 := h256.2.2
      have hCVl : CV.length ≤ 1000000 := by have := HN.out.2.2; have := HI.out.nl; have := HN.out.2.1; omega
      obtain ⟨w11, e11⟩ : ∃ w11, wr.alloc (.cells #[.slice co K cq] 87) = w11 := ⟨_, rfl⟩
      have hb11 : Below wr.heap.size wr w11 := by rw [← e11]; exact (Below.refl _ _).alloc (Nat.le_refl _) _
      have HN11 := hid (show w11.heap[wr.heap.size]? = some (.cells #[.slice co K cq] 87 (0, 0)) from by rw [← e11]; exact new_block _ _)
      have HG11 := hid (hg2.below hb11)
      have HNX := hid HG11.out.nx.row
      have hB11 := HG11.out.leB
      have HRJ3 := hid (And.intro hrj (And.intro hst2 hal))
      clear hg2 hrj hst2 hb11 h256 hfull hRJ ccs2
      go_wp2_with (at_builtin; refine wpList_push1 rfl (.tmp 61) (.tmp 63) 23 87 rfl nil1 24 Tryz.underlying23 info56 rfl (by decide) wr0.heap.size (.slice ndo CV.length ndc) CV.length CV rfl HNX.out wr.heap.size rfl (.slice co K cq) HN11.out rfl hCVl hB11 ?_)
      intro v12 w12 hown12 hg12 hat12
      obtain ⟨no12, nc12, rfl⟩ := own_shape hown12
      obtain ⟨hbk12, hG12⟩ := HG11.out.next HCV.out.2.1 HN.out.2.2 hown12 hg12 hat12
      have c256b : w12.cell? ⟨wr0.heap.size, 256, none⟩ = some (.slice ndo CV.length ndc) := by rw [Lib.cell_of_heap hbk12, Array.getElem?_append_right (by rw [HCV.out.2.1]; omega), HCV.out.2.1]; rfl
      have f256b := Lib.frozen_of_heap hbk12 256
      have l256b := (Array.getElem?_eq_some_iff.1 hbk12).1
      obtain ⟨w13, e13⟩ : ∃ w13, w12.setCell ⟨wr0.heap.size, 256, none⟩ (.slice no12 (CV.length + 1) nc12) = w13 := ⟨_, rfl⟩
      rw [e13] at hG12
      obtain ⟨we, ewe⟩ : ∃ we, w13.drew = we := ⟨_, rfl⟩
      have hbe : Below w13.heap.size w13 we := by rw [← ewe]; exact (Below.refl _ _).drew
      have HGE := hid (hG12.below hbe)
      have hbelE := Foot.bel HGE.out
      obtain ⟨tt, htt⟩ : ∃ tt, D.tags[s]? = some tt := ⟨_, List.getElem?_eq_getElem (by rw [HOK.out.tags]; exact HRW.out.2.2.1)⟩
      obtain ⟨bt, offt, tc', hto, hbt, ct, ht64⟩ := tagsAt_get HDA.out.tags htt
      injection hto with hto1 hto2 hto3
      subst hto1
      have h257 := HGE.out.c256 HCV.out.2.1
      obtain ⟨sg3, hsg3, ccs3, hsgl3⟩ := own_at HGE.out.sti.r HRJ3.out.2.2 (x := .int .i64 (s : Int)) (by rw [List.getElem?_map, HRJ3.out.2.1]; rfl)
      injection hsg3 with hsg3
      injection hsg3 with hsg3
      subst hsg3
      have csb3 : we.cell? ⟨w6.heap.size, 0, none⟩ = some (.slice (some ⟨sg2, 0, none⟩) RJ.2.length sc2) := by rw [Lib.cell_of_heap HGE.out.sti.s]; rfl
      have HH3 : we.cell? ⟨wr0.heap.size, 257, none⟩ = some (.slice tdo j.tg.length tdc) ∧ we.cell? ⟨w.heap.size, 257, none⟩ = some (.slice (some ⟨bt, offt, none⟩) D.tags.length tc) ∧ we.cell? ⟨w6.heap.size, 0, none⟩ = some (.slice (some ⟨sg2, 0, none⟩) RJ.2.length sc2) ∧ we.cell? ⟨sg2, a, none⟩ = some (.int .i64 (s : Int)) ∧ we.cell? ⟨bt, offt + s, none⟩ = some (.int .u64 (tt : Int)) ∧ wr0.heap.size < we.heap.size ∧ w6.heap.size < we.heap.size :=
       ⟨h257.2.1, cell_bel hbelE HBN.out.2.1 (by rw [Lib.cell_of_heap HND.out]; exact HD257.out), csb3, ccs3, cell_bel hbelE hbt ct, h257.2.2, (Array.getElem?_eq_some_iff.1 HGE.out.sti.s).1⟩
      have k5 : (s : Int) < (D.tags.length : Int) := by have := HNN.out.2.1; omega
      have k6 : (a : Int) < (RJ.2.length : Int) := by have := HRJ3.out.2.2; omega
      have HTL := hid (show j.tg.length ≤ 1000000 from by have := HI.out.tl; have := HN.out.2.1; omega)
      have HTT := hid (And.intro htt ht64)
      have HBT := hid hbt
      clear hown12 hg12 hat12 hbk12 hG12 hbe hbelE hto2 hto3 h257 ct ccs3 csb3 htt e11 c256 l256
      go_wp2_with fail
      refine region_T 13 (fun w' => w'.cell? ⟨wr0.heap.size, 257, none⟩ = some (.slice tdo j.tg.length tdc) ∧ w'.cell? ⟨w.heap.size, 257, none⟩ = some (.slice (some ⟨bt, offt, none⟩) D.tags.length tc) ∧ w'.cell? ⟨w6.heap.size, 0, none⟩ = some (.slice (some ⟨sg2, 0, none⟩) RJ.2.length sc2) ∧ w'.cell? ⟨sg2, a, none⟩ = some (.int .i64 (s : Int)) ∧ w'.cell? ⟨bt, offt + s, none⟩ = some (.int .u64 (tt : Int)) ∧ wr0.heap.size < w'.heap.size ∧ w6.heap.size < w'.heap.size) (by kernel_rfl) (by rw [ewe]; exact HH3) (fun inv hHeld => ?_)
      rw [ewe]
      clear hHeld ewe e13
      refine anyT_take (i := 0) (oi := { dst := some 66, op := Go.Op.fieldAddr 26 (Go.Operand.tmp 5) 2, type := 0, pos := "mini.go:165", after := #[], guard := none }) (v := ?_) rfl (by kernel_rfl) (by kernel_rfl) (by kernel_rfl) (by decide) (by decide) (by kernel_rfl) (by kernel_rfl) (fun _ _ _ h => h) (Or.inl ⟨by rfl, ?_⟩) HH3 inv (fun inv => ?_)
      rotate_left
      ·intro w hSw
       try dsimp only at hSw
       go_simp
       try with_reducible rfl
      simp only [Act.put, List.setIfInBounds_toArray, List.set_cons_zero, List.set_cons_succ]
      refine anyT_take (i := 1) (oi := { dst := some 67, op := Go.Op.load 24 (Go.Operand.tmp 66), type := 24, pos := "mini.go:165", after := #[{ on := 0, ground := Go.Ground.data }], guard := none }) (v := ?_) rfl (by kernel_rfl) (by kernel_rfl) (by kernel_rfl) (by decide) (by decide) (by kernel_rfl) (by kernel_rfl) (fun _ _ _ h => h) (Or.inl ⟨by rfl, ?_⟩) HH3 inv (fun inv => ?_)
      rotate_left
      ·intro w hSw
       try dsimp only at hSw
       go_simp
       try with_reducible rfl
      simp only [Act.put, List.setIfInBounds_toArray, List.set_cons_zero, List.set_cons_succ]
      refine anyT_take (i := 2) (oi := { dst := some 68, op := Go.Op.fieldAddr 26 (Go.Operand.tmp 2) 2, type := 0, pos := "mini.go:165", after := #[], guard := none }) (v := ?_) rfl (by kernel_rfl) (by kernel_rfl) (by kernel_rfl) (by decide) (by decide) (by kernel_rfl) (by kernel_rfl) (fun _ _ _ h => h) (Or.inl ⟨by rfl, ?_⟩) HH3 inv (fun inv => ?_)
      rotate_left
      ·intro w hSw
       try dsimp only at hSw
       go_simp
       try with_reducible rfl
      simp only [Act.put, List.setIfInBounds_toArray, List.set_cons_zero, List.set_cons_succ]
      refine anyT_take (i := 3) (oi := { dst := some 69, op := Go.Op.load 24 (Go.Operand.tmp 68), type := 24, pos := "mini.go:165", after := #[{ on := 2, ground := Go.Ground.data }], guard := none }) (v := ?_) rfl (by kernel_rfl) (by kernel_rfl) (by kernel_rfl) (by decide) (by decide) (by kernel_rfl) (by kernel_rfl) (fun _ _ _ h => h) (Or.inl ⟨by rfl, ?_⟩) HH3 inv (fun inv => ?_)
      rotate_left
      ·intro w hSw
       try dsimp only at hSw
       go_simp
       try with_reducible rfl
      simp only [Act.put, List.setIfInBounds_toArray, List.set_cons_zero, List.set_cons_succ]
      refine anyT_take (i := 4) (oi := { dst := some 70, op := Go.Op.load 87 (Go.Operand.tmp 7), type := 87, pos := "mini.go:165", after := #[], guard := none }) (v := ?_) rfl (by kernel_rfl) (by kernel_rfl) (by kernel_rfl) (by decide) (by decide) (by kernel_rfl) (by kernel_rfl) (fun _ _ _ h => h) (Or.inl ⟨by rfl, ?_⟩) HH3 inv (fun inv => ?_)
      rotate_left
      ·intro w hSw
       try dsimp only at hSw
       go_simp
       try with_reducible rfl
      simp only [Act.put, List.setIfInBounds_toArray, List.set_cons_zero, List.set_cons_succ]
      refine anyT_take (i := 5) (oi := { dst := some 71, op := Go.Op.move (Go.Operand.tmp 9), type := 3, pos := "mini.go:165", after := #[], guard := none }) (v := ?_) rfl (by kernel_rfl) (by kernel_rfl) (by kernel_rfl) (by decide) (by decide) (by kernel_rfl) (by kernel_rfl) (fun _ _ _ h => h) (Or.inl ⟨by rfl, ?_⟩) HH3 inv (fun inv => ?_)
      rotate_left
      ·intro w hSw
       try dsimp only at hSw
       go_simp
       try with_reducible rfl
      simp only [Act.put, List.setIfInBounds_toArray, List.set_cons_zero, List.set_cons_succ]
      refine anyT_take (i := 6) (oi := { dst := some 72, op := Go.Op.indexAddr 87 (Go.Operand.tmp 70) (Go.Operand.tmp 71), type := 0, pos := "mini.go:165", after := #[{ on := 4, ground := Go.Ground.data }, { on := 5, ground := Go.Ground.data }], guard := none }) (v := ?_) rfl (by kernel_rfl) (by kernel_rfl) (by kernel_rfl) (by decide) (by decide) (by kernel_rfl) (by kernel_rfl) (fun _ _ _ h => h) (Or.inl ⟨by rfl, ?_⟩) HH3 inv (fun inv => ?_)
      rotate_left
      ·intro w hSw
       try dsimp only at hSw
       go_simp
       try with_reducible rfl
      simp only [Act.put, List.setIfInBounds_toArray, List.set_cons_zero, List.set_cons_succ]
      refine anyT_take (i := 7) (oi := { dst := some 73, op := Go.Op.load 3 (Go.Operand.tmp 72), type := 3, pos := "mini.go:165", after := #[{ on := 6, ground := Go.Ground.data }], guard := none }) (v := ?_) rfl (by kernel_rfl) (by kernel_rfl) (by kernel_rfl) (by decide) (by decide) (by kernel_rfl) (by kernel_rfl) (fun _ _ _ h => h) (Or.inl ⟨by rfl, ?_⟩) HH3 inv (fun inv => ?_)
      rotate_left
      ·intro w hSw
       try dsimp only at hSw
       go_simp
       try with_reducible rfl
      simp only [Act.put, List.setIfInBounds_toArray, List.set_cons_zero, List.set_cons_succ]
      refine anyT_take (i := 8) (oi := { dst := some 74, op := Go.Op.indexAddr 24 (Go.Operand.tmp 69) (Go.Operand.tmp 73), type := 0, pos := "mini.go:165", after := #[{ on := 3, ground := Go.Ground.data }, { on := 7, ground := Go.Ground.data }], guard := none }) (v := ?_) rfl (by kernel_rfl) (by kernel_rfl) (by kernel_rfl) (by decide) (by decide) (by kernel_rfl) (by kernel_rfl) (fun _ _ _ h => h) (Or.inl ⟨by rfl, ?_⟩) HH3 inv (fun inv => ?_)
      rotate_left
      ·intro w hSw
       try dsimp only at hSw
       go_simp
       try with_reducible rfl
      simp only [Act.put, List.setIfInBounds_toArray, List.set_cons_zero, List.set_cons_succ]
      refine anyT_take (i := 9) (oi := { dst := some 75, op := Go.Op.load 54 (Go.Operand.tmp 74), type := 54, pos := "mini.go:165", after := #[{ on := 8, ground := Go.Ground.data }], guard := none }) (v := ?_) rfl (by kernel_rfl) (by kernel_rfl) (by kernel_rfl) (by decide) (by decide) (by kernel_rfl) (by kernel_rfl) (fun _ _ _ h => h) (Or.inl ⟨by rfl, ?_⟩) HH3 inv (fun inv => ?_)
      rotate_left
      ·intro w hSw
       try dsimp only at hSw
       go_simp
       try with_reducible rfl
      simp only [Act.put, List.setIfInBounds_toArray, List.set_cons_zero, List.set_cons_succ]
      obtain ⟨w16, e16⟩ : ∃ w16, we.alloc (.cells #[.int .u64 (tt : Int)] 54) = w16 := ⟨_, rfl⟩
      have hb16 : Below we.heap.size we w16 := by rw [← e16]; exact (Below.refl _ _).alloc (Nat.le_refl _) _
      have HN16 := hid (show w16.heap[we.heap.size]? = some (.cells #[.int .u64 (tt : Int)] 54 (0, 0)) from by rw [← e16]; exact new_block _ _)
      have HG16 := hid (HGE.out.below hb16)
      have HH4 := cells5 hb16 HH3
      clear hb16
      refine anyT_next (i := 10) (o := { dst := some 76, op := Go.Op.buildSlice 24 1 #[(0, Go.Operand.tmp 75)], type := 24, pos := "mini.go:165", after := #[{ on := 9, ground := Go.Ground.data }], guard := none }) (by kernel_rfl) rfl (by decide) inv (fun inv K' hK => ?_)
      go_simp
      refine hK.out _ _ HH4 ?_
      clear hK K' HH3
      try simp only [Act.put, List.setIfInBounds_toArray, List.set_cons_zero, List.set_cons_succ]
      refine anyT_next (i := 11) (o := { dst := some 77, op := Go.Op.call { callee := Go.Callee.builtin Go.Builtin.append, args := #[Go.Operand.tmp 67, Go.Operand.tmp 76], argTypes := #[24, 24] }, type := 24, pos := "mini.go:165", after := #[{ on := 1, ground := Go.Ground.data }, { on := 10, ground := Go.Ground.data }], guard := none }) (by kernel_rfl) rfl (by decide) inv (fun inv K' hK => ?_)
      simp only [Region.wanted]
      rw [if_pos trivial]
      refine wp_push1 (.tmp 67) (.tmp 76) 24 54 rfl (.int .u64 0) 8 Tryz.underlying24 info43 rfl (by decide) wr0.heap.size (.slice tdo j.tg.length tdc) j.tg.length (u64s j.tg) rfl HG16.out.tg we.heap.size rfl (.int .u64 (tt : Int)) HN16.out rfl HTL.out HG16.out.leB ?_
      intro v17 w17 hown17 hg17 hat17
      obtain ⟨tgo, tgc, rfl⟩ := own_shape hown17
      have HT17 := hid (HG16.out.tag HCV.out.2.1 hown17 hg17 hat17)
      have c257b : w17.cell? ⟨wr0.heap.size, 257, none⟩ = some (.slice tdo j.tg.length tdc) := by rw [Lib.cell_of_heap HT17.out.1, Array.getElem?_append_right (by rw [HCV.out.2.1]; omega), HCV.out.2.1]; rfl
      have f257b := Lib.frozen_of_heap HT17.out.1 257
      have l257b := (Array.getElem?_eq_some_iff.1 HT17.out.1).1
      have hot : ∀ g : Nat, g < wr0.heap.size → w17.heap[g]? = w16.heap[g]? := fun g hg => hg17.block g (by have := HG16.out.leB; omega) (fun e => by have := (owns_lt HG16.out.tg g e.symm).1; omega)
      obtain ⟨sg4, hsg4, ccs4, hsgl4⟩ := own_at HT17.out.2.1.r HRJ3.out.2.2 (x := .int .i64 (s : Int)) (by rw [List.getElem?_map, HRJ3.out.2.1]; rfl)
      injection hsg4 with hsg4
      injection hsg4 with hsg4
      subst hsg4
      have csb4 : w17.cell? ⟨w6.heap.size, 0, none⟩ = some (.slice (some ⟨sg2, 0, none⟩) RJ.2.length sc2) := by rw [Lib.cell_of_heap HT17.out.2.1.s]; rfl
      have HH5 : w17.cell? ⟨wr0.heap.size, 257, none⟩ = some (.slice tdo j.tg.length tdc) ∧ w17.cell? ⟨w.heap.size, 257, none⟩ = some (.slice (some ⟨bt, offt, none⟩) D.tags.length tc) ∧ w17.cell? ⟨w6.heap.size, 0, none⟩ = some (.slice (some ⟨sg2, 0, none⟩) RJ.2.length sc2) ∧ w17.cell? ⟨sg2, a, none⟩ = some (.int .i64 (s : Int)) ∧ w17.cell? ⟨bt, offt + s, none⟩ = some (.int .u64 (tt : Int)) ∧ wr0.heap.size < w17.heap.size ∧ w6.heap.size < w17.heap.size :=
       ⟨c257b, (World.cell?_of_block (a := ⟨w.heap.size, 257, none⟩) (hot _ HBN.out.2.1)).trans HH4.2.1, csb4, ccs4, (World.cell?_of_block (a := ⟨bt, offt + s, none⟩) (hot _ HBT.out)).trans HH4.2.2.2.2.1, l257b, (Array.getElem?_eq_some_iff.1 HT17.out.2.1.s).1⟩
      clear hown17 hg17 hat17 hot csb4 ccs4
      refine hK.out _ _ HH5 ?_
      clear hK K' HH4
      try simp only [Act.put, List.setIfInBounds_toArray, List.set_cons_zero, List.set_cons_succ]
      refine anyT_take (i := 12) (oi := { dst := some 78, op := Go.Op.fieldAddr 26 (Go.Operand.tmp 5) 2, type := 0, pos := "mini.go:165", after := #[{ on := 0, ground := Go.Ground.phase }, { on := 1, ground := Go.Ground.phase }, { on := 2, ground := Go.Ground.phase }, { on := 3, ground := Go.Ground.phase }, { on := 4, ground := Go.Ground.phase }, { on := 5, ground := Go.Ground.phase }, { on := 6, ground := Go.Ground.phase }, { on := 7, ground := Go.Ground.phase }, { on := 8, ground := Go.Ground.phase }, { on := 9, ground := Go.Ground.phase }, { on := 10, ground := Go.Ground.phase }, { on := 11, ground := Go.Ground.phase }], guard := none }) (v := ?_) rfl (by kernel_rfl) (by kernel_rfl) (by kernel_rfl) (by decide) (by decide) (by kernel_rfl) (by kernel_rfl) (fun _ _ _ h => h) (Or.inl ⟨by rfl, ?_⟩) HH5 inv (fun inv => ?_)
      rotate_left
      ·intro w hSw
       try dsimp only at hSw
       go_simp
       try with_reducible rfl
      simp only [Act.put, List.setIfInBounds_toArray, List.set_cons_zero, List.set_cons_succ]
      refine anyT_one (i := 13) (o := { dst := none, op := Go.Op.store 24 (Go.Operand.tmp 78) (Go.Operand.tmp 77), type := 0, pos := "mini.go:165", after := #[{ on := 12, ground := Go.Ground.data }, { on := 11, ground := Go.Ground.data }, { on := 11, ground := Go.Ground.chain }, { on := 0, ground := Go.Ground.phase }, { on := 1, ground := Go.Ground.phase }, { on := 2, ground := Go.Ground.phase }, { on := 3, ground := Go.Ground.phase }, { on := 4, ground := Go.Ground.phase }, { on := 5, ground := Go.Ground.phase }, { on := 6, ground := Go.Ground.phase }, { on := 7, ground := Go.Ground.phase }, { on := 8, ground := Go.Ground.phase }, { on := 9, ground := Go.Ground.phase }, { on := 10, ground := Go.Ground.phase }, { on := 11, ground := Go.Ground.phase }], guard := none }) (by kernel_rfl) rfl (fun K' hK => ?_)
      go_simp
      refine hK.out _ _ (fun h => absurd h (by decide)) ?_
      clear hK K'
      try simp only [Act.put, List.setIfInBounds_toArray, List.set_cons_zero, List.set_cons_succ]
      refine anyT_done (by kernel_rfl) ?_ _
      go_wp2_with fail
      refine ⟨⟨a + 1, rfl, hid ?_⟩, ?_⟩
      ·have hsj : j.st.getD j.at_ 0 = s := by rw [HN.out.2.1, List.getD_eq_getElem?_getD, HRW.out.2.2.2]; rfl
       have hit : X6.iterJ D Bk (a + 1) = { at_ := a + 1, st := RJ.2, nx := j.nx ++ [RJ.1], tg := j.tg ++ [tt] } := by
        rw [X6.iterJ, HJ.out]
        unfold X6.stepJ
        rw [if_pos (by rw [HN.out.1, HN.out.2.1]; exact hlt), hsj, HRJ2.out, HN.out.2.1, List.getD_eq_getElem?_getD, HTT.out.1]
        rfl
       have hgo := HT17.out.2.2
       unfold OJ
       rw [hit]
       exact ⟨L2, _, _, CV ++ [.slice co K cq], _, rfl, by rw [List.length_append, List.length_append, HN.out.2.2]; rfl, hgo⟩
      ·show N + 1 - ((a : Int) + 1).toNat < N + 1 - ((a : Int)).toNat
       omega
   ·have han2 : a = n := by omega
    have k1 : ¬ (a : Int) < (n : Int) := by omega
    have hrb : wr.heap[wb.heap.size]? = some (.cells dvz 26 (0, 0)) := ((Foot.bel hg).block _ (by have := HSZ.out; omega)).trans HNR.out
    obtain ⟨ld2, hld2⟩ : ∃ ld2, cv ++ #[.slice ndo CV.length ndc, .slice tdo j.tg.length tdc] = ld2 := ⟨_, rfl⟩
    have hlb := hg.blk
    rw [hld2] at hlb
    have hs2 : ld2.size = 258 := by rw [← hld2]; exact dvi_size' HCV.out.2.1
    have ho2 : ld2.all (·.oneCell') = true := by rw [← hld2]; exact dvi_one' HCV.out.2.2.1 rfl rfl
    have HE := hid (And.intro hrb (And.intro hlb (And.intro hs2 (And.intro ho2 hld2))))
    clear hrb hlb hs2 ho2 hld2 hj hn hat hCV hinv hg hfew HO
    go_wp2_with (first | (with_reducible refine wpList_load30 rfl (.tmp 5) rfl wr0.heap.size rfl ld2 HE.out.2.1 HE.out.2.2.1 ?_) | (with_reducible refine wpList_store30 rfl (.tmp 4) (.tmp 79) rfl wb.heap.size rfl dvz ld2 HE.out.1 rfl dvz_size HE.out.2.2.1 HE.out.2.2.2.1 ?_))
    refine bodyPost_ret (v := .agg ld2) (results30s rfl _ _ wb.heap.size ld2 rfl (setRow_heap wr wb.heap.size dvz ld2 26 (0, 0) HE.out.1) HE.out.2.2.1) rfl ?_
    have hbw := HBW0.out.trans ((Foot.bel HG.out).mono HBW0.out.size)
    refine ⟨⟨D.cls, j.nx, j.tg⟩, j.st, .slice ndo CV.length ndc, .slice tdo j.tg.length tdc, ?_, ⟨rfl, a, ?_⟩, fun w2 hk2 => ?_, ⟨hbw.os, hbw.tape, hbw.output, by rw [setRow_size]; exact hbw.size, fun g hg => by rw [setRow_other _ _ _ _ (by have := HSZ.out; omega)]; exact hbw.block g hg⟩⟩
    rotate_left 2
    ·have hk : ∀ g : Nat, wr0.heap.size ≤ g → w2.heap[g]? = wr.heap[g]? := fun g hg => (hk2 g (by have := HSZ.out; omega)).trans (setRow_other _ _ _ _ (by have := HSZ.out; omega))
     have hnxk : NxOk wr0.heap.size (.slice ndo CV.length ndc) CV j.nx w2 := (nxI wr0.heap.size (.slice ndo CV.length ndc) CV j.nx).kept (fun b hb => hk b (Foot.lt HG.out 3 _ rfl b hb).1) HG.out.nx
     have htgk := owns_kept (w' := w2) HG.out.tg fun g hg => hk g (owns_lt HG.out.tg g hg).1
     refine ⟨?_, nx_rows hnxk HN.out.2.2, tg_tags htgk ?_, ⟨?_, ?_⟩, ?_⟩
     ·have := HDA.out.len; exact this
     ·intro t ht
      obtain ⟨i, hi⟩ := List.mem_iff_getElem?.1 ht
      have hil : i < j.tg.length := (List.getElem?_eq_some_iff.1 hi).1
      change j.tg[i]? = some t at hi
      have h1 := HI.out.tg i (by have := HI.out.tl; omega)
      rw [List.getD_eq_getElem?_getD, hi, Option.getD_some] at h1
      have hsl : j.st.getD i 0 < D.tags.length := by
       rw [HOK.out.tags]
       exact HI.out.st.lt _ (X6.getD_mem (by have := HI.out.tl; have := HI.out.at_; omega))
      rw [h1, List.getD_eq_getElem?_getD, List.getElem?_eq_getElem hsl]
      obtain ⟨_, _, _, _, _, _, hb64⟩ := tagsAt_get HDA.out.tags (List.getElem?_eq_getElem hsl)
      exact hb64
     ·show j.nx.length ≤ maxLen
      have := HI.out.nl
      have := HN.out.2.1
      unfold maxLen
      omega
     ·show j.tg.length ≤ maxLen
      have := HI.out.tl
      have := HN.out.2.1
      unfold maxLen
      omega
     ·intro l hl
      obtain ⟨i, hi⟩ := List.mem_iff_getElem?.1 hl
      have hil : i < j.nx.length := (List.getElem?_eq_some_iff.1 hi).1
      change j.nx[i]? = some l at hi
      have h1 := HI.out.rl i (by have := HI.out.nl; omega)
      rw [List.getD_eq_getElem?_getD, hi, Option.getD_some] at h1
      unfold maxLen
      omega
    ·rw [← HE.out.2.2.2.2, ← HCV.out.1]
     simp [ivs]
    ·rw [HJ.out]
     have e1 := HN.out.1
     have e2 := HN.out.2.1
     have e3 : j.at_ = j.st.length := by omega
     cases j
     simp only at e3 ⊢
     rw [e3]
 ·have hnj : X6.numJ Bk 0 [] = (0, [0]) := by
   unfold X6.numJ
   rw [if_neg (fun h => h.elim (by omega) (fun h2 => hd h2))]
   rfl
  rw [hnj] at hg8 ⊢
  have HOJ := hid (show OJ D wr0.heap.size wr0.heap.size w5.heap.size w4.heap.size w6.heap.size cv Bk wr0 0 w8 from ⟨L8, v8, nil1, [], nil1, rfl, rfl, hg8⟩)
  clear hg8 hnj hd
  go_wp2_with fail
  clear HG7 HNL HNDL
  obtain ⟨j0, hj, hk0, hk1, hk2⟩ := info_parts info3
  have HJ0 := hid (And.intro hj (And.intro hk0 (And.intro hk1 hk2)))
  clear hj hk0 hk1 hk2
  go_loopw [9] (fun t9 wr => ∃ a : Nat, t9 = .int .i64 (a : Int) ∧ Hid (OJ D wr0.heap.size wr0.heap.size w5.heap.size w4.heap.size w6.heap.size cv Bk wr0 a wr)) (fun t9 _ => N + 1 - (RowKit.intOf t9).toNat)
  case atStart => exact ⟨0, rfl, HOJ⟩
  case round =>
   clear HOJ
   obtain ⟨a, rfl, HO⟩ := hrel
   obtain ⟨L, v, nd, CV, td, hat, hCV, hg⟩ := HO.out
   have hinv := X6.iter_ok HOK.out HBLK.out a
   obtain ⟨j, hj⟩ : ∃ j, X6.iterJ D Bk a = j := ⟨_, rfl⟩
   have HJ := hid hj
   rw [hj] at hat hCV hg hinv
   have hfew := hinv.st.few
   obtain ⟨so, sc, rfl⟩ := own_shape hg.sti.r
   obtain ⟨ndo, ndc, rfl⟩ := own_shape hg.nx.row
   obtain ⟨tdo, tdc, rfl⟩ := own_shape hg.tg
   have csb : wr.cell? ⟨w6.heap.size, 0, none⟩ = some (.slice so j.st.length sc) := by rw [Lib.cell_of_heap hg.sti.s]; rfl
   have hsbl := (Array.getElem?_eq_some_iff.1 hg.sti.s).1
   obtain ⟨n, hn⟩ : ∃ n, j.st.length = n := ⟨_, rfl⟩
   rw [hn] at csb hfew hg
   have HG := hid hg
   have HI := hid hinv
   have HN := hid (And.intro hn (And.intro hat hCV))
   have hnN : n ≤ N := by rw [← HNN.out.1]; exact hfew
   have han : a ≤ n := by have := hinv.at_; omega
   by_cases hlt : a < n
   ·have k1 : (a : Int) < (n : Int) := by omega
    have k2 : (0 : Int) ≤ (a : Int) := by omega
    obtain ⟨s, hs⟩ : ∃ s, j.st[a]? = some s := ⟨_, List.getElem?_eq_getElem (by omega)⟩
    have hsD := hinv.st.lt s (List.mem_of_getElem? hs)
    have hsN : s < N := by rw [← HNN.out.1]; exact hsD
    have k3 : (s : Int) < (D.next.length : Int) := by omega
    have k4 : (0 : Int) ≤ (s : Int) := by omega
    have hrr := hg.sti.r
    rw [hn] at hrr
    obtain ⟨sg, hsg, ccs, hsgl⟩ := own_at hrr hlt (x := .int .i64 (s : Int)) (by rw [List.getElem?_map, hs]; rfl)
    subst hsg
    obtain ⟨bn, offn, ro, rc, nc', hno, hbn, cn, hrow⟩ := rowsAt_get HDA.out.rows (rowOf_get hsD)
    injection hno with hno1 hno2 hno3
    subst hno1
    have hrl := HOK.out.rows s hsD
    rw [hrl] at cn hrow
    have hbel := Foot.bel hg
    obtain ⟨wd, ewd⟩ : ∃ wd, wr.drew = wd := ⟨_, rfl⟩
    have hbd : Below wr.heap.size wr wd := by rw [← ewd]; exact (Below.refl _ _).drew
    have HGD := hid (hg.below hbd)
    have hsr : w.heap.size < wr0.heap.size := by have := HSZ.out; omega
    have hbelD := hbel.trans (hbd.mono hbel.size)
    have HH : wd.cell? ⟨w.heap.size, 256, none⟩ = some (.slice (some ⟨bn, offn, none⟩) D.next.length nc) ∧ wd.cell? ⟨w6.heap.size, 0, none⟩ = some (.slice (some ⟨sg, 0, none⟩) n sc) ∧ wd.cell? ⟨sg, a, none⟩ = some (.int .i64 (s : Int)) ∧ wd.cell? ⟨bn, offn + s, none⟩ = some (.slice ro K rc) ∧ w6.heap.size < wd.heap.size ∧ sg < wd.heap.size :=
     ⟨cell_bel hbelD hsr (by rw [Lib.cell_of_heap HND.out]; exact HD256.out), cell_bel hbd hsbl csb, cell_bel hbd hsgl ccs, cell_bel hbelD hbn cn, by have := hbd.size; omega, by have := hbd.size; omega⟩
    have HRW := hid (And.intro hrow (And.intro hrl (And.intro hsD hs)))
    have HBN := hid (And.intro hbn (And.intro hsr cn))
    clear hrr hno2 hno3 hrow hrl hsD hs hbd hbel hbelD hinv hg hn hat hCV hfew hj HO cn hbn
    go_wp2_with fail
    clear csb ccs
    refine region_T 10 (fun w' => w'.cell? ⟨w.heap.size, 256, none⟩ = some (.slice (some ⟨bn, offn, none⟩) D.next.length nc) ∧ w'.cell? ⟨w6.heap.size, 0, none⟩ = some (.slice (some ⟨sg, 0, none⟩) n sc) ∧ w'.cell? ⟨sg, a, none⟩ = some (.int .i64 (s : Int)) ∧ w'.cell? ⟨bn, offn + s, none⟩ = some (.slice ro K rc) ∧ w6.heap.size < w'.heap.size ∧ sg < w'.heap.size) (by kernel_rfl) (by rw [ewd]; exact HH) (fun inv hHeld => ?_)
    rw [ewd]
    clear hHeld ewd
    refine anyT_take (i := 0) (oi := { dst := some 30, op := Go.Op.fieldAddr 26 (Go.Operand.tmp 2) 1, type := 0, pos := "mini.go:160", after := #[], guard := none }) (v := ?_) rfl (by kernel_rfl) (by kernel_rfl) (by kernel_rfl) (by decide) (by decide) (by kernel_rfl) (by kernel_rfl) (fun _ _ _ h => h) (Or.inl ⟨by rfl, ?_⟩) HH inv (fun inv => ?_)
    rotate_left
    ·intro w hSw
     try dsimp only at hSw
     go_simp
     try with_reducible rfl
    simp only [Act.put, List.setIfInBounds_toArray, List.set_cons_zero, List.set_cons_succ]
    refine anyT_take (i := 1) (oi := { dst := some 31, op := Go.Op.load 23 (Go.Operand.tmp 30), type := 23, pos := "mini.go:160", after := #[{ on := 0, ground := Go.Ground.data }], guard := none }) (v := ?_) rfl (by kernel_rfl) (by kernel_rfl) (by kernel_rfl) (by decide) (by decide) (by kernel_rfl) (by kernel_rfl) (fun _ _ _ h => h) (Or.inl ⟨by rfl, ?_⟩) HH inv (fun inv => ?_)
    rotate_left
    ·intro w hSw
     try dsimp only at hSw
     go_simp
     try with_reducible rfl
    simp only [Act.put, List.setIfInBounds_toArray, List.set_cons_zero, List.set_cons_succ]
    refine anyT_take (i := 2) (oi := { dst := some 32, op := Go.Op.load 87 (Go.Operand.tmp 7), type := 87, pos := "mini.go:160", after := #[], guard := none }) (v := ?_) rfl (by kernel_rfl) (by kernel_rfl) (by kernel_rfl) (by decide) (by decide) (by kernel_rfl) (by kernel_rfl) (fun _ _ _ h => h) (Or.inl ⟨by rfl, ?_⟩) HH inv (fun inv => ?_)
    rotate_left
    ·intro w hSw
     try dsimp only at hSw
     go_simp
     try with_reducible rfl
    simp only [Act.put, List.setIfInBounds_toArray, List.set_cons_zero, List.set_cons_succ]
    refine anyT_take (i := 3) (oi := { dst := some 33, op := Go.Op.move (Go.Operand.tmp 9), type := 3, pos := "mini.go:160", after := #[], guard := none }) (v := ?_) rfl (by kernel_rfl) (by kernel_rfl) (by kernel_rfl) (by decide) (by decide) (by kernel_rfl) (by kernel_rfl) (fun _ _ _ h => h) (Or.inl ⟨by rfl, ?_⟩) HH inv (fun inv => ?_)
    rotate_left
    ·intro w hSw
     try dsimp only at hSw
     go_simp
     try with_reducible rfl
    simp only [Act.put, List.setIfInBounds_toArray, List.set_cons_zero, List.set_cons_succ]
    refine anyT_take (i := 4) (oi := { dst := some 34, op := Go.Op.indexAddr 87 (Go.Operand.tmp 32) (Go.Operand.tmp 33), type := 0, pos := "mini.go:160", after := #[{ on := 2, ground := Go.Ground.data }, { on := 3, ground := Go.Ground.data }], guard := none }) (v := ?_) rfl (by kernel_rfl) (by kernel_rfl) (by kernel_rfl) (by decide) (by decide) (by kernel_rfl) (by kernel_rfl) (fun _ _ _ h => h) (Or.inl ⟨by rfl, ?_⟩) HH inv (fun inv => ?_)
    rotate_left
    ·intro w hSw
     try dsimp only at hSw
     go_simp
     try with_reducible rfl
    simp only [Act.put, List.setIfInBounds_toArray, List.set_cons_zero, List.set_cons_succ]
    refine anyT_take (i := 5) (oi := { dst := some 35, op := Go.Op.load 3 (Go.Operand.tmp 34), type := 3, pos := "mini.go:160", after := #[{ on := 4, ground := Go.Ground.data }], guard := none }) (v := ?_) rfl (by kernel_rfl) (by kernel_rfl) (by kernel_rfl) (by decide) (by decide) (by kernel_rfl) (by kernel_rfl) (fun _ _ _ h => h) (Or.inl ⟨by rfl, ?_⟩) HH inv (fun inv => ?_)
    rotate_left
    ·intro w hSw
     try dsimp only at hSw
     go_simp
     try with_reducible rfl
    simp only [Act.put, List.setIfInBounds_toArray, List.set_cons_zero, List.set_cons_succ]
    refine anyT_take (i := 6) (oi := { dst := some 36, op := Go.Op.indexAddr 23 (Go.Operand.tmp 31) (Go.Operand.tmp 35), type := 0, pos := "mini.go:160", after := #[{ on := 1, ground := Go.Ground.data }, { on := 5, ground := Go.Ground.data }], guard := none }) (v := ?_) rfl (by kernel_rfl) (by kernel_rfl) (by kernel_rfl) (by decide) (by decide) (by kernel_rfl) (by kernel_rfl) (fun _ _ _ h => h) (Or.inl ⟨by rfl, ?_⟩) HH inv (fun inv => ?_)
    rotate_left
    ·intro w hSw
     try dsimp only at hSw
     go_simp
     try with_reducible rfl
    simp only [Act.put, List.setIfInBounds_toArray, List.set_cons_zero, List.set_cons_succ]
    refine anyT_take (i := 7) (oi := { dst := some 37, op := Go.Op.load 87 (Go.Operand.tmp 36), type := 87, pos := "mini.go:160", after := #[{ on := 6, ground := Go.Ground.data }], guard := none }) (v := ?_) rfl (by kernel_rfl) (by kernel_rfl) (by kernel_rfl) (by decide) (by decide) (by kernel_rfl) (by kernel_rfl) (fun _ _ _ h => h) (Or.inl ⟨by rfl, ?_⟩) HH inv (fun inv => ?_)
    rotate_left
    ·intro w hSw
     try dsimp only at hSw
     go_simp
     try with_reducible rfl
    simp only [Act.put, List.setIfInBounds_toArray, List.set_cons_zero, List.set_cons_succ]
    refine anyT_take (i := 8) (oi := { dst := some 38, op := Go.Op.call { callee := Go.Callee.builtin Go.Builtin.len, args := #[Go.Operand.tmp 37], argTypes := #[87] }, type := 3, pos := "mini.go:160", after := #[{ on := 7, ground := Go.Ground.data }], guard := none }) (v := ?_) rfl (by kernel_rfl) (by kernel_rfl) (by kernel_rfl) (by decide) (by decide) (by kernel_rfl) (by kernel_rfl) (fun _ _ _ h => h) (Or.inl ⟨by rfl, ?_⟩) HH inv (fun inv => ?_)
    rotate_left
    ·intro w hSw
     try dsimp only at hSw
     go_simp
     try with_reducible rfl
    simp only [Act.put, List.setIfInBounds_toArray, List.set_cons_zero, List.set_cons_succ]
    refine anyT_next (i := 9) (o := { dst := some 39, op := Go.Op.makeSlice 87 (Go.Operand.const (Go.Value.int Go.IntKind.i64 0)) (Go.Operand.tmp 38), type := 87, pos := "mini.go:160", after := #[{ on := 8, ground := Go.Ground.data }], guard := none }) (by kernel_rfl) rfl (by decide) inv (fun inv K' hK => ?_)
    simp only [Region.wanted]
    rw [if_pos trivial]
    refine wp_make_own (.const (.int .i64 0)) (.tmp 38) 87 rfl wr0.heap.size 3 j0 (.int .i64 0) 1 Tryz.underlying87 HJ0.out.1 HJ0.out.2.1 HJ0.out.2.2.1 .i64 .i64 K rfl rfl (by rw [HJ0.out.2.2.2]; omega) (by unfold maxLen; omega) HGD.out.leB ?_
    intro wm hownm hgm
    have hbm : Below wd.heap.size wd wm := (Below.refl _ _).grown hgm (Nat.le_refl _) (by simp)
    have HGM := hid (HGD.out.fresh rfl hownm hbm (fun b hb => by simp [Value.ownBlock] at hb; omega))
    have HH2 := cellsKept hbm HH
    refine hK.out _ _ HH2 ?_
    clear hK K' HH hownm hgm
    try simp only [Act.put, List.setIfInBounds_toArray, List.set_cons_zero, List.set_cons_succ]
    refine anyT_one (i := 10) (o := { dst := some 10, op := Go.Op.assign (Go.Operand.tmp 39), type := 87, pos := "mini.go:160", after := #[{ on := 9, ground := Go.Ground.data }, { on := 0, ground := Go.Ground.phase }, { on := 1, ground := Go.Ground.phase }, { on := 2, ground := Go.Ground.phase }, { on := 3, ground := Go.Ground.phase }, { on := 4, ground := Go.Ground.phase }, { on := 5, ground := Go.Ground.phase }, { on := 6, ground := Go.Ground.phase }, { on := 7, ground := Go.Ground.phase }, { on := 8, ground := Go.Ground.phase }, { on := 9, ground := Go.Ground.phase }], guard := none }) (by kernel_rfl) rfl (fun K' hK => ?_)
    go_simp
    refine hK.out _ _ (fun h => absurd h (by decide)) ?_
    clear hK K'
    try simp only [Act.put, List.setIfInBounds_toArray, List.set_cons_zero, List.set_cons_succ]
    refine anyT_done (by kernel_rfl) ?_ _
    obtain ⟨x1, x2, x3, x4, x5, x6⟩ := HH2
    go_wp2_with fail
    go_quiet (fail)
    obtain ⟨wq, ewq⟩ : ∃ wq, wm.drewN nq = wq := ⟨_, rfl⟩
    have hbq : Below wm.heap.size wm wq := by rw [← ewq]; exact below_drewN (Below.refl _ _) nq
    have HGQ := hid (HGM.out.below hbq)
    have hsg := (owns_lt (show wr.ownsRow wr0.heap.size 3 1 (.slice (some ⟨sg, 0, none⟩) n sc) n (ints j.st) from by have := HG.out.sti.r; rw [HN.out.1] at this; exact this) sg rfl).1
    have HSG := hid hsg
    rw [ewq]
    clear x1 x2 x3 x4 x5 x6 hbq ewq hsg
    go_wp2_with fail
    have HIN := hid (show ∃ L' v', GJ wr0.heap.size wr0.heap.size w5.heap.size w4.heap.size w6.heap.size cv Bk wr0 (X6.rowJ Bk ((X5.rowOf D s).take 0) ([], j.st)).2 L' v' (.slice (some ⟨wd.heap.size, 0, none⟩) 0 K) (X6.rowJ Bk ((X5.rowOf D s).take 0) ([], j.st)).1 (.slice ndo CV.length ndc) CV j.nx (.slice tdo j.tg.length tdc) j.tg wq from ⟨L, _, HGQ.out⟩)
    have HRJ := hid (show ∀ c, c ≤ K → X6.StJ D Bk (X6.rowJ Bk ((X5.rowOf D s).take c) ([], j.st)).2 ∧ j.st <+: (X6.rowJ Bk ((X5.rowOf D s).take c) ([], j.st)).2 ∧ (X6.rowJ Bk ((X5.rowOf D s).take c) ([], j.st)).1.length = c from fun c hc => by
     have h := X6.row_ok HBLK.out ((X5.rowOf D s).take c) [] j.st [] HI.out.st (fun z hz => (HOK.out.ends s HRW.out.2.2.1 z (List.mem_of_mem_take hz)).2) rfl (fun c hc => by simp at hc)
     refine ⟨h.1, h.2.1, ?_⟩
     rw [h.2.2.1, List.nil_append, List.length_take, HRW.out.2.1]
     omega)
    go_loopw [10, 49] (fun t10 t49 wr => ∃ (c : Nat) (o : Option Addr) (cq : Nat), c ≤ K ∧ t49 = .int .i64 (c : Int) ∧ t10 = .slice o c cq ∧ Hid (∃ L' v', GJ wr0.heap.size wr0.heap.size w5.heap.size w4.heap.size w6.heap.size cv Bk wr0 (X6.rowJ Bk ((X5.rowOf D s).take c) ([], j.st)).2 L' v' (.slice o c cq) (X6.rowJ Bk ((X5.rowOf D s).take c) ([], j.st)).1 (.slice ndo CV.length ndc) CV j.nx (.slice tdo j.tg.length tdc) j.tg wr)) (fun _ t49 _ => K - (RowKit.intOf t49).toNat)
    case atStart => exact ⟨0, _, _, Nat.zero_le _, rfl, rfl, HIN⟩
    case round =>
     clear HIN
     obtain ⟨c, co, cq, hc, rfl, rfl, HC⟩ := hrel
     obtain ⟨L2, v2, hg2⟩ := HC.out
     by_cases hlc : c < K
     ·have g1 : (c : Int) < (K : Int) := by omega
      have g2 : (0 : Int) ≤ (c : Int) := by omega
      obtain ⟨z, hz⟩ : ∃ z, (X5.rowOf D s)[c]? = some z := ⟨_, List.getElem?_eq_getElem (by rw [HRW.out.2.1]; exact hlc)⟩
      obtain ⟨bz, offz, hro, hbz, cz⟩ := rowAt_get HRW.out.1 hz
      subst hro
      have hzb := HOK.out.ends s HRW.out.2.2.1 z (List.mem_of_getElem? hz)
      have hbel2 := Foot.bel hg2
      have cz' := cell_bel hbel2 hbz cz
      have hst2 := HRJ.out c hc
      have KN := hid (numberJ_any (w := wr) (bb := wa.heap.size) hN ((hbel2.block _ (by have := HSZ.out; omega)).trans HNB.out) (by have := HSZ.out; omega) (HRB.out.below hbel2) HNN.out.2.2.1 HBR.out HBO.out hg2.leB (by have := hst2.1.few; have := HNN.out.1; omega) hg2.sti z hzb.1 (by have := HNN.out.1; omega))
      have HG2 := hid hg2
      have HZ := hid (rowJ_snoc Bk hz ([], j.st))
      have HR2 := hid hst2
      clear hg2 hz cz hzb hbel2 hst2
      go_wp2_with fail
      refine KN.out.mono ?_
      rintro e w9 hnum
      obtain ⟨v3, L3, rfl, hg3⟩ := HG2.out.num hnum
      obtain ⟨y, hy⟩ : ∃ y, (X6.numJ Bk z (X6.rowJ Bk ((X5.rowOf D s).take c) ([], j.st)).2).1 = y := ⟨_, rfl⟩
      rw [hy]
      have HY := hid hy
      obtain ⟨w10, e10⟩ : ∃ w10, w9.alloc (.cells #[.int .i64 y] 3) = w10 := ⟨_, rfl⟩
      have hb10 : Below w9.heap.size w9 w10 := by rw [← e10]; exact (Below.refl _ _).alloc (Nat.le_refl _) _
      have HN10 := hid (show w10.heap[w9.heap.size]? = some (.cells #[.int .i64 y] 3 (0, 0)) from by rw [← e10]; exact new_block _ _)
      have HG4 := hid (hg3.below hb10)
      have hrow4 := HG4.out.rowAt
      rw [HR2.out.2.2] at hrow4
      have HO4 := hid hrow4
      have hB4 := HG4.out.leB
      clear hg3 hb10 hnum KN hrow4 hy
      go_wp2_with (at_builtin; refine wpList_push1 rfl (.tmp 53) (.tmp 57) 87 3 rfl (.int .i64 0) 8 Tryz.underlying87 info3 rfl (by decide) wr0.heap.size (.slice co c cq) c (zs (X6.rowJ Bk ((X5.rowOf D s).take c) ([], j.st)).1) rfl HO4.out w9.heap.size rfl (.int .i64 y) HN10.out rfl (by omega) hB4 ?_)
      intro v11 w11 hown11 hg11 hat11
      obtain ⟨so11, sc11, rfl⟩ := own_shape hown11
      have HG5 := hid (HG4.out.push (by rw [HR2.out.2.2]; exact hown11) hg11 hat11)
      clear hown11 hg11 hat11 e10
      go_wp2_with fail
      refine ⟨⟨c + 1, so11, sc11, by omega, rfl, rfl, hid ⟨L3, v3, ?_⟩⟩, ?_⟩
      ·rw [HZ.out, HY.out]
       exact HG5.out
      ·show K - ((c : Int) + 1).toNat < K - ((c : Int)).toNat
       omega
     ·obtain rfl : K = c := by omega
      have g1 : ¬ (K : Int) < (K : Int) := by omega
      have hfull : (X5.rowOf D s).take K = X5.rowOf D s := List.take_of_length_le (by rw [HRW.out.2.1]; omega)
      have hrj := HRJ.out K hc
      rw [hfull] at hg2 hrj
      obtain ⟨RJ, hRJ⟩ : ∃ RJ, X6.rowJ Bk (X5.rowOf D s) ([], j.st) = RJ := ⟨_, rfl⟩
      rw [hRJ] at hg2 hrj
      have HRJ2 := hid hRJ
      obtain ⟨so2, sc2, rfl⟩ := own_shape hg2.sti.r
      have hst2 : RJ.2[a]? = some s := by
       obtain ⟨t, ht⟩ := hrj.2.1
       rw [← ht, List.getElem?_append_left (by have := HN.out.1; omega)]
       exact HRW.out.2.2.2
      have hal : a < RJ.2.length := (List.getElem?_eq_some_iff.1 hst2).1
      obtain ⟨sg2, hsg2, ccs2, hsgl2⟩ := own_at hg2.sti.r hal (x := .int .i64 (s : Int)) (by rw [List.getElem?_map, hst2]; rfl)
      subst hsg2
      have h256 := hg2.c256 HCV.out.2.1
      have c256 := h256.1
      have l256 := h256.2.2
      have hCVl : CV.length ≤ 1000000 := by have := HN.out.2.2; have := HI.out.nl; have := HN.out.2.1; omega
      obtain ⟨w11, e11⟩ : ∃ w11, wr.alloc (.cells #[.slice co K cq] 87) = w11 := ⟨_, rfl⟩
      have hb11 : Below wr.heap.size wr w11 := by rw [← e11]; exact (Below.refl _ _).alloc (Nat.le_refl _) _
      have HN11 := hid (show w11.heap[wr.heap.size]? = some (.cells #[.slice co K cq] 87 (0, 0)) from by rw [← e11]; exact new_block _ _)
      have HG11 := hid (hg2.below hb11)
      have HNX := hid HG11.out.nx.row
      have hB11 := HG11.out.leB
      have HRJ3 := hid (And.intro hrj (And.intro hst2 hal))
      clear hg2 hrj hst2 hb11 h256 hfull hRJ ccs2
      go_wp2_with (at_builtin; refine wpList_push1 rfl (.tmp 61) (.tmp 63) 23 87 rfl nil1 24 Tryz.underlying23 info56 rfl (by decide) wr0.heap.size (.slice ndo CV.length ndc) CV.length CV rfl HNX.out wr.heap.size rfl (.slice co K cq) HN11.out rfl hCVl hB11 ?_)
      intro v12 w12 hown12 hg12 hat12
      obtain ⟨no12, nc12, rfl⟩ := own_shape hown12
      obtain ⟨hbk12, hG12⟩ := HG11.out.next HCV.out.2.1 HN.out.2.2 hown12 hg12 hat12
      have c256b : w12.cell? ⟨wr0.heap.size, 256, none⟩ = some (.slice ndo CV.length ndc) := by rw [Lib.cell_of_heap hbk12, Array.getElem?_append_right (by rw [HCV.out.2.1]; omega), HCV.out.2.1]; rfl
      have f256b := Lib.frozen_of_heap hbk12 256
      have l256b := (Array.getElem?_eq_some_iff.1 hbk12).1
      obtain ⟨w13, e13⟩ : ∃ w13, w12.setCell ⟨wr0.heap.size, 256, none⟩ (.slice no12 (CV.length + 1) nc12) = w13 := ⟨_, rfl⟩
      rw [e13] at hG12
      obtain ⟨we, ewe⟩ : ∃ we, w13.drew = we := ⟨_, rfl⟩
      have hbe : Below w13.heap.size w13 we := by rw [← ewe]; exact (Below.refl _ _).drew
      have HGE := hid (hG12.below hbe)
      have hbelE := Foot.bel HGE.out
      obtain ⟨tt, htt⟩ : ∃ tt, D.tags[s]? = some tt := ⟨_, List.getElem?_eq_getElem (by rw [HOK.out.tags]; exact HRW.out.2.2.1)⟩
      obtain ⟨bt, offt, tc', hto, hbt, ct, ht64⟩ := tagsAt_get HDA.out.tags htt
      injection hto with hto1 hto2 hto3
      subst hto1
      have h257 := HGE.out.c256 HCV.out.2.1
      obtain ⟨sg3, hsg3, ccs3, hsgl3⟩ := own_at HGE.out.sti.r HRJ3.out.2.2 (x := .int .i64 (s : Int)) (by rw [List.getElem?_map, HRJ3.out.2.1]; rfl)
      injection hsg3 with hsg3
      injection hsg3 with hsg3
      subst hsg3
      have csb3 : we.cell? ⟨w6.heap.size, 0, none⟩ = some (.slice (some ⟨sg2, 0, none⟩) RJ.2.length sc2) := by rw [Lib.cell_of_heap HGE.out.sti.s]; rfl
      have HH3 : we.cell? ⟨wr0.heap.size, 257, none⟩ = some (.slice tdo j.tg.length tdc) ∧ we.cell? ⟨w.heap.size, 257, none⟩ = some (.slice (some ⟨bt, offt, none⟩) D.tags.length tc) ∧ we.cell? ⟨w6.heap.size, 0, none⟩ = some (.slice (some ⟨sg2, 0, none⟩) RJ.2.length sc2) ∧ we.cell? ⟨sg2, a, none⟩ = some (.int .i64 (s : Int)) ∧ we.cell? ⟨bt, offt + s, none⟩ = some (.int .u64 (tt : Int)) ∧ wr0.heap.size < we.heap.size ∧ w6.heap.size < we.heap.size :=
       ⟨h257.2.1, cell_bel hbelE HBN.out.2.1 (by rw [Lib.cell_of_heap HND.out]; exact HD257.out), csb3, ccs3, cell_bel hbelE hbt ct, h257.2.2, (Array.getElem?_eq_some_iff.1 HGE.out.sti.s).1⟩
      have k5 : (s : Int) < (D.tags.length : Int) := by have := HNN.out.2.1; omega
      have k6 : (a : Int) < (RJ.2.length : Int) := by have := HRJ3.out.2.2; omega
      have HTL := hid (show j.tg.length ≤ 1000000 from by have := HI.out.tl; have := HN.out.2.1; omega)
      have HTT := hid (And.intro htt ht64)
      have HBT := hid hbt
      clear hown12 hg12 hat12 hbk12 hG12 hbe hbelE hto2 hto3 h257 ct ccs3 csb3 htt e11 c256 l256
      go_wp2_with fail
      refine region_T 13 (fun w' => w'.cell? ⟨wr0.heap.size, 257, none⟩ = some (.slice tdo j.tg.length tdc) ∧ w'.cell? ⟨w.heap.size, 257, none⟩ = some (.slice (some ⟨bt, offt, none⟩) D.tags.length tc) ∧ w'.cell? ⟨w6.heap.size, 0, none⟩ = some (.slice (some ⟨sg2, 0, none⟩) RJ.2.length sc2) ∧ w'.cell? ⟨sg2, a, none⟩ = some (.int .i64 (s : Int)) ∧ w'.cell? ⟨bt, offt + s, none⟩ = some (.int .u64 (tt : Int)) ∧ wr0.heap.size < w'.heap.size ∧ w6.heap.size < w'.heap.size) (by kernel_rfl) (by rw [ewe]; exact HH3) (fun inv hHeld => ?_)
      rw [ewe]
      clear hHeld ewe e13
      refine anyT_take (i := 0) (oi := { dst := some 66, op := Go.Op.fieldAddr 26 (Go.Operand.tmp 5) 2, type := 0, pos := "mini.go:165", after := #[], guard := none }) (v := ?_) rfl (by kernel_rfl) (by kernel_rfl) (by kernel_rfl) (by decide) (by decide) (by kernel_rfl) (by kernel_rfl) (fun _ _ _ h => h) (Or.inl ⟨by rfl, ?_⟩) HH3 inv (fun inv => ?_)
      rotate_left
      ·intro w hSw
       try dsimp only at hSw
       go_simp
       try with_reducible rfl
      simp only [Act.put, List.setIfInBounds_toArray, List.set_cons_zero, List.set_cons_succ]
      refine anyT_take (i := 1) (oi := { dst := some 67, op := Go.Op.load 24 (Go.Operand.tmp 66), type := 24, pos := "mini.go:165", after := #[{ on := 0, ground := Go.Ground.data }], guard := none }) (v := ?_) rfl (by kernel_rfl) (by kernel_rfl) (by kernel_rfl) (by decide) (by decide) (by kernel_rfl) (by kernel_rfl) (fun _ _ _ h => h) (Or.inl ⟨by rfl, ?_⟩) HH3 inv (fun inv => ?_)
      rotate_left
      ·intro w hSw
       try dsimp only at hSw
       go_simp
       try with_reducible rfl
      simp only [Act.put, List.setIfInBounds_toArray, List.set_cons_zero, List.set_cons_succ]
      refine anyT_take (i := 2) (oi := { dst := some 68, op := Go.Op.fieldAddr 26 (Go.Operand.tmp 2) 2, type := 0, pos := "mini.go:165", after := #[], guard := none }) (v := ?_) rfl (by kernel_rfl) (by kernel_rfl) (by kernel_rfl) (by decide) (by decide) (by kernel_rfl) (by kernel_rfl) (fun _ _ _ h => h) (Or.inl ⟨by rfl, ?_⟩) HH3 inv (fun inv => ?_)
      rotate_left
      ·intro w hSw
       try dsimp only at hSw
       go_simp
       try with_reducible rfl
      simp only [Act.put, List.setIfInBounds_toArray, List.set_cons_zero, List.set_cons_succ]
      refine anyT_take (i := 3) (oi := { dst := some 69, op := Go.Op.load 24 (Go.Operand.tmp 68), type := 24, pos := "mini.go:165", after := #[{ on := 2, ground := Go.Ground.data }], guard := none }) (v := ?_) rfl (by kernel_rfl) (by kernel_rfl) (by kernel_rfl) (by decide) (by decide) (by kernel_rfl) (by kernel_rfl) (fun _ _ _ h => h) (Or.inl ⟨by rfl, ?_⟩) HH3 inv (fun inv => ?_)
      rotate_left
      ·intro w hSw
       try dsimp only at hSw
       go_simp
       try with_reducible rfl
      simp only [Act.put, List.setIfInBounds_toArray, List.set_cons_zero, List.set_cons_succ]
      refine anyT_take (i := 4) (oi := { dst := some 70, op := Go.Op.load 87 (Go.Operand.tmp 7), type := 87, pos := "mini.go:165", after := #[], guard := none }) (v := ?_) rfl (by kernel_rfl) (by kernel_rfl) (by kernel_rfl) (by decide) (by decide) (by kernel_rfl) (by kernel_rfl) (fun _ _ _ h => h) (Or.inl ⟨by rfl, ?_⟩) HH3 inv (fun inv => ?_)
      rotate_left
      ·intro w hSw
       try dsimp only at hSw
       go_simp
       try with_reducible rfl
      simp only [Act.put, List.setIfInBounds_toArray, List.set_cons_zero, List.set_cons_succ]
      refine anyT_take (i := 5) (oi := { dst := some 71, op := Go.Op.move (Go.Operand.tmp 9), type := 3, pos := "mini.go:165", after := #[], guard := none }) (v := ?_) rfl (by kernel_rfl) (by kernel_rfl) (by kernel_rfl) (by decide) (by decide) (by kernel_rfl) (by kernel_rfl) (fun _ _ _ h => h) (Or.inl ⟨by rfl, ?_⟩) HH3 inv (fun inv => ?_)
      rotate_left
      ·intro w hSw
       try dsimp only at hSw
       go_simp
       try with_reducible rfl
      simp only [Act.put, List.setIfInBounds_toArray, List.set_cons_zero, List.set_cons_succ]
      refine anyT_take (i := 6) (oi := { dst := some 72, op := Go.Op.indexAddr 87 (Go.Operand.tmp 70) (Go.Operand.tmp 71), type := 0, pos := "mini.go:165", after := #[{ on := 4, ground := Go.Ground.data }, { on := 5, ground := Go.Ground.data }], guard := none }) (v := ?_) rfl (by kernel_rfl) (by kernel_rfl) (by kernel_rfl) (by decide) (by decide) (by kernel_rfl) (by kernel_rfl) (fun _ _ _ h => h) (Or.inl ⟨by rfl, ?_⟩) HH3 inv (fun inv => ?_)
      rotate_left
      ·intro w hSw
       try dsimp only at hSw
       go_simp
       try with_reducible rfl
      simp only [Act.put, List.setIfInBounds_toArray, List.set_cons_zero, List.set_cons_succ]
      refine anyT_take (i := 7) (oi := { dst := some 73, op := Go.Op.load 3 (Go.Operand.tmp 72), type := 3, pos := "mini.go:165", after := #[{ on := 6, ground := Go.Ground.data }], guard := none }) (v := ?_) rfl (by kernel_rfl) (by kernel_rfl) (by kernel_rfl) (by decide) (by decide) (by kernel_rfl) (by kernel_rfl) (fun _ _ _ h => h) (Or.inl ⟨by rfl, ?_⟩) HH3 inv (fun inv => ?_)
      rotate_left
      ·intro w hSw
       try dsimp only at hSw
       go_simp
       try with_reducible rfl
      simp only [Act.put, List.setIfInBounds_toArray, List.set_cons_zero, List.set_cons_succ]
      refine anyT_take (i := 8) (oi := { dst := some 74, op := Go.Op.indexAddr 24 (Go.Operand.tmp 69) (Go.Operand.tmp 73), type := 0, pos := "mini.go:165", after := #[{ on := 3, ground := Go.Ground.data }, { on := 7, ground := Go.Ground.data }], guard := none }) (v := ?_) rfl (by kernel_rfl) (by kernel_rfl) (by kernel_rfl) (by decide) (by decide) (by kernel_rfl) (by kernel_rfl) (fun _ _ _ h => h) (Or.inl ⟨by rfl, ?_⟩) HH3 inv (fun inv => ?_)
      rotate_left
      ·intro w hSw
       try dsimp only at hSw
       go_simp
       try with_reducible rfl
      simp only [Act.put, List.setIfInBounds_toArray, List.set_cons_zero, List.set_cons_succ]
      refine anyT_take (i := 9) (oi := { dst := some 75, op := Go.Op.load 54 (Go.Operand.tmp 74), type := 54, pos := "mini.go:165", after := #[{ on := 8, ground := Go.Ground.data }], guard := none }) (v := ?_) rfl (by kernel_rfl) (by kernel_rfl) (by kernel_rfl) (by decide) (by decide) (by kernel_rfl) (by kernel_rfl) (fun _ _ _ h => h) (Or.inl ⟨by rfl, ?_⟩) HH3 inv (fun inv => ?_)
      rotate_left
      ·intro w hSw
       try dsimp only at hSw
       go_simp
       try with_reducible rfl
      simp only [Act.put, List.setIfInBounds_toArray, List.set_cons_zero, List.set_cons_succ]
      obtain ⟨w16, e16⟩ : ∃ w16, we.alloc (.cells #[.int .u64 (tt : Int)] 54) = w16 := ⟨_, rfl⟩
      have hb16 : Below we.heap.size we w16 := by rw [← e16]; exact (Below.refl _ _).alloc (Nat.le_refl _) _
      have HN16 := hid (show w16.heap[we.heap.size]? = some (.cells #[.int .u64 (tt : Int)] 54 (0, 0)) from by rw [← e16]; exact new_block _ _)
      have HG16 := hid (HGE.out.below hb16)
      have HH4 := cells5 hb16 HH3
      clear hb16
      refine anyT_next (i := 10) (o := { dst := some 76, op := Go.Op.buildSlice 24 1 #[(0, Go.Operand.tmp 75)], type := 24, pos := "mini.go:165", after := #[{ on := 9, ground := Go.Ground.data }], guard := none }) (by kernel_rfl) rfl (by decide) inv (fun inv K' hK => ?_)
      go_simp
      refine hK.out _ _ HH4 ?_
      clear hK K' HH3
      try simp only [Act.put, List.setIfInBounds_toArray, List.set_cons_zero, List.set_cons_succ]
      refine anyT_next (i := 11) (o := { dst := some 77, op := Go.Op.call { callee := Go.Callee.builtin Go.Builtin.append, args := #[Go.Operand.tmp 67, Go.Operand.tmp 76], argTypes := #[24, 24] }, type := 24, pos := "mini.go:165", after := #[{ on := 1, ground := Go.Ground.data }, { on := 10, ground := Go.Ground.data }], guard := none }) (by kernel_rfl) rfl (by decide) inv (fun inv K' hK => ?_)
      simp only [Region.wanted]
      rw [if_pos trivial]
      refine wp_push1 (.tmp 67) (.tmp 76) 24 54 rfl (.int .u64 0) 8 Tryz.underlying24 info43 rfl (by decide) wr0.heap.size (.slice tdo j.tg.length tdc) j.tg.length (u64s j.tg) rfl HG16.out.tg we.heap.size rfl (.int .u64 (tt : Int)) HN16.out rfl HTL.out HG16.out.leB ?_
      intro v17 w17 hown17 hg17 hat17
      obtain ⟨tgo, tgc, rfl⟩ := own_shape hown17
      have HT17 := hid (HG16.out.tag HCV.out.2.1 hown17 hg17 hat17)
      have c257b : w17.cell? ⟨wr0.heap.size, 257, none⟩ = some (.slice tdo j.tg.length tdc) := by rw [Lib.cell_of_heap HT17.out.1, Array.getElem?_append_right (by rw [HCV.out.2.1]; omega), HCV.out.2.1]; rfl
      have f257b := Lib.frozen_of_heap HT17.out.1 257
      have l257b := (Array.getElem?_eq_some_iff.1 HT17.out.1).1
      have hot : ∀ g : Nat, g < wr0.heap.size → w17.heap[g]? = w16.heap[g]? := fun g hg => hg17.block g (by have := HG16.out.leB; omega) (fun e => by have := (owns_lt HG16.out.tg g e.symm).1; omega)
      obtain ⟨sg4, hsg4, ccs4, hsgl4⟩ := own_at HT17.out.2.1.r HRJ3.out.2.2 (x := .int .i64 (s : Int)) (by rw [List.getElem?_map, HRJ3.out.2.1]; rfl)
      injection hsg4 with hsg4
      injection hsg4 with hsg4
      subst hsg4
      have csb4 : w17.cell? ⟨w6.heap.size, 0, none⟩ = some (.slice (some ⟨sg2, 0, none⟩) RJ.2.length sc2) := by rw [Lib.cell_of_heap HT17.out.2.1.s]; rfl
      have HH5 : w17.cell? ⟨wr0.heap.size, 257, none⟩ = some (.slice tdo j.tg.length tdc) ∧ w17.cell? ⟨w.heap.size, 257, none⟩ = some (.slice (some ⟨bt, offt, none⟩) D.tags.length tc) ∧ w17.cell? ⟨w6.heap.size, 0, none⟩ = some (.slice (some ⟨sg2, 0, none⟩) RJ.2.length sc2) ∧ w17.cell? ⟨sg2, a, none⟩ = some (.int .i64 (s : Int)) ∧ w17.cell? ⟨bt, offt + s, none⟩ = some (.int .u64 (tt : Int)) ∧ wr0.heap.size < w17.heap.size ∧ w6.heap.size < w17.heap.size :=
       ⟨c257b, (World.cell?_of_block (a := ⟨w.heap.size, 257, none⟩) (hot _ HBN.out.2.1)).trans HH4.2.1, csb4, ccs4, (World.cell?_of_block (a := ⟨bt, offt + s, none⟩) (hot _ HBT.out)).trans HH4.2.2.2.2.1, l257b, (Array.getElem?_eq_some_iff.1 HT17.out.2.1.s).1⟩
      clear hown17 hg17 hat17 hot csb4 ccs4
      refine hK.out _ _ HH5 ?_
      clear hK K' HH4
      try simp only [Act.put, List.setIfInBounds_toArray, List.set_cons_zero, List.set_cons_succ]
      refine anyT_take (i := 12) (oi := { dst := some 78, op := Go.Op.fieldAddr 26 (Go.Operand.tmp 5) 2, type := 0, pos := "mini.go:165", after := #[{ on := 0, ground := Go.Ground.phase }, { on := 1, ground := Go.Ground.phase }, { on := 2, ground := Go.Ground.phase }, { on := 3, ground := Go.Ground.phase }, { on := 4, ground := Go.Ground.phase }, { on := 5, ground := Go.Ground.phase }, { on := 6, ground := Go.Ground.phase }, { on := 7, ground := Go.Ground.phase }, { on := 8, ground := Go.Ground.phase }, { on := 9, ground := Go.Ground.phase }, { on := 10, ground := Go.Ground.phase }, { on := 11, ground := Go.Ground.phase }], guard := none }) (v := ?_) rfl (by kernel_rfl) (by kernel_rfl) (by kernel_rfl) (by decide) (by decide) (by kernel_rfl) (by kernel_rfl) (fun _ _ _ h => h) (Or.inl ⟨by rfl, ?_⟩) HH5 inv (fun inv => ?_)
      rotate_left
      ·intro w hSw
       try dsimp only at hSw
       go_simp
       try with_reducible rfl
      simp only [Act.put, List.setIfInBounds_toArray, List.set_cons_zero, List.set_cons_succ]
      refine anyT_one (i := 13) (o := { dst := none, op := Go.Op.store 24 (Go.Operand.tmp 78) (Go.Operand.tmp 77), type := 0, pos := "mini.go:165", after := #[{ on := 12, ground := Go.Ground.data }, { on := 11, ground := Go.Ground.data }, { on := 11, ground := Go.Ground.chain }, { on := 0, ground := Go.Ground.phase }, { on := 1, ground := Go.Ground.phase }, { on := 2, ground := Go.Ground.phase }, { on := 3, ground := Go.Ground.phase }, { on := 4, ground := Go.Ground.phase }, { on := 5, ground := Go.Ground.phase }, { on := 6, ground := Go.Ground.phase }, { on := 7, ground := Go.Ground.phase }, { on := 8, ground := Go.Ground.phase }, { on := 9, ground := Go.Ground.phase }, { on := 10, ground := Go.Ground.phase }, { on := 11, ground := Go.Ground.phase }], guard := none }) (by kernel_rfl) rfl (fun K' hK => ?_)
      go_simp
      refine hK.out _ _ (fun h => absurd h (by decide)) ?_
      clear hK K'
      try simp only [Act.put, List.setIfInBounds_toArray, List.set_cons_zero, List.set_cons_succ]
      refine anyT_done (by kernel_rfl) ?_ _
      go_wp2_with fail
      refine ⟨⟨a + 1, rfl, hid ?_⟩, ?_⟩
      ·have hsj : j.st.getD j.at_ 0 = s := by rw [HN.out.2.1, List.getD_eq_getElem?_getD, HRW.out.2.2.2]; rfl
       have hit : X6.iterJ D Bk (a + 1) = { at_ := a + 1, st := RJ.2, nx := j.nx ++ [RJ.1], tg := j.tg ++ [tt] } := by
        rw [X6.iterJ, HJ.out]
        unfold X6.stepJ
        rw [if_pos (by rw [HN.out.1, HN.out.2.1]; exact hlt), hsj, HRJ2.out, HN.out.2.1, List.getD_eq_getElem?_getD, HTT.out.1]
        rfl
       have hgo := HT17.out.2.2
       unfold OJ
       rw [hit]
       exact ⟨L2, _, _, CV ++ [.slice co K cq], _, rfl, by rw [List.length_append, List.length_append, HN.out.2.2]; rfl, hgo⟩
      ·show N + 1 - ((a : Int) + 1).toNat < N + 1 - ((a : Int)).toNat
       omega
   ·have han2 : a = n := by omega
    have k1 : ¬ (a : Int) < (n : Int) := by omega
    have hrb : wr.heap[wb.heap.size]? = some (.cells dvz 26 (0, 0)) := ((Foot.bel hg).block _ (by have := HSZ.out; omega)).trans HNR.out
    obtain ⟨ld2, hld2⟩ : ∃ ld2, cv ++ #[.slice ndo CV.length ndc, .slice tdo j.tg.length tdc] = ld2 := ⟨_, rfl⟩
    have hlb := hg.blk
    rw [hld2] at hlb
    have hs2 : ld2.size = 258 := by rw [← hld2]; exact dvi_size' HCV.out.2.1
    have ho2 : ld2.all (·.oneCell') = true := by rw [← hld2]; exact dvi_one' HCV.out.2.2.1 rfl rfl
    have HE := hid (And.intro hrb (And.intro hlb (And.intro hs2 (And.intro ho2 hld2))))
    clear hrb hlb hs2 ho2 hld2 hj hn hat hCV hinv hg hfew HO
    go_wp2_with (first | (with_reducible refine wpList_load30 rfl (.tmp 5) rfl wr0.heap.size rfl ld2 HE.out.2.1 HE.out.2.2.1 ?_) | (with_reducible refine wpList_store30 rfl (.tmp 4) (.tmp 79) rfl wb.heap.size rfl dvz ld2 HE.out.1 rfl dvz_size HE.out.2.2.1 HE.out.2.2.2.1 ?_))
    refine bodyPost_ret (v := .agg ld2) (results30s rfl _ _ wb.heap.size ld2 rfl (setRow_heap wr wb.heap.size dvz ld2 26 (0, 0) HE.out.1) HE.out.2.2.1) rfl ?_
    have hbw := HBW0.out.trans ((Foot.bel HG.out).mono HBW0.out.size)
    refine ⟨⟨D.cls, j.nx, j.tg⟩, j.st, .slice ndo CV.length ndc, .slice tdo j.tg.length tdc, ?_, ⟨rfl, a, ?_⟩, fun w2 hk2 => ?_, ⟨hbw.os, hbw.tape, hbw.output, by rw [setRow_size]; exact hbw.size, fun g hg => by rw [setRow_other _ _ _ _ (by have := HSZ.out; omega)]; exact hbw.block g hg⟩⟩
    rotate_left 2
    ·have hk : ∀ g : Nat, wr0.heap.size ≤ g → w2.heap[g]? = wr.heap[g]? := fun g hg => (hk2 g (by have := HSZ.out; omega)).trans (setRow_other _ _ _ _ (by have := HSZ.out; omega))
     have hnxk : NxOk wr0.heap.size (.slice ndo CV.length ndc) CV j.nx w2 := (nxI wr0.heap.size (.slice ndo CV.length ndc) CV j.nx).kept (fun b hb => hk b (Foot.lt HG.out 3 _ rfl b hb).1) HG.out.nx
     have htgk := owns_kept (w' := w2) HG.out.tg fun g hg => hk g (owns_lt HG.out.tg g hg).1
     refine ⟨?_, nx_rows hnxk HN.out.2.2, tg_tags htgk ?_, ⟨?_, ?_⟩, ?_⟩
     ·have := HDA.out.len; exact this
     ·intro t ht
      obtain ⟨i, hi⟩ := List.mem_iff_getElem?.1 ht
      have hil : i < j.tg.length := (List.getElem?_eq_some_iff.1 hi).1
      change j.tg[i]? = some t at hi
      have h1 := HI.out.tg i (by have := HI.out.tl; omega)
      rw [List.getD_eq_getElem?_getD, hi, Option.getD_some] at h1
      have hsl : j.st.getD i 0 < D.tags.length := by
       rw [HOK.out.tags]
       exact HI.out.st.lt _ (X6.getD_mem (by have := HI.out.tl; have := HI.out.at_; omega))
      rw [h1, List.getD_eq_getElem?_getD, List.getElem?_eq_getElem hsl]
      obtain ⟨_, _, _, _, _, _, hb64⟩ := tagsAt_get HDA.out.tags (List.getElem?_eq_getElem hsl)
      exact hb64
     ·show j.nx.length ≤ maxLen
      have := HI.out.nl
      have := HN.out.2.1
      unfold maxLen
      omega
     ·show j.tg.length ≤ maxLen
      have := HI.out.tl
      have := HN.out.2.1
      unfold maxLen
      omega
     ·intro l hl
      obtain ⟨i, hi⟩ := List.mem_iff_getElem?.1 hl
      have hil : i < j.nx.length := (List.getElem?_eq_some_iff.1 hi).1
      change j.nx[i]? = some l at hi
      have h1 := HI.out.rl i (by have := HI.out.nl; omega)
      rw [List.getD_eq_getElem?_getD, hi, Option.getD_some] at h1
      unfold maxLen
      omega
    ·rw [← HE.out.2.2.2.2, ← HCV.out.1]
     simp [ivs]
    ·rw [HJ.out]
     have e1 := HN.out.1
     have e2 := HN.out.2.1
     have e3 : j.at_ = j.st.length := by omega
     cases j
     simp only at e3 ⊢
     rw [e3]
end Go.Proofs.YtochckefnjobhaaGreatDoor
