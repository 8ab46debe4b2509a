/- nfa's machine: lay: one behind the other. -/
import Derived.Test.YtochckefnjobhaaDoorNd
namespace Go.Proofs.YtochckefnjobhaaDoor
open Go Go.RowKit Go.Shelf Go.Lib
open X3 (RX Pl)
open X4 (stX)
attribute [local go_sem] Oper.semAt_some
set_option linter.unusedVariables false
set_option linter.unusedSimpArgs false

structure CatF (wS W : World) (K2 : Nat) (O O' : Nat → Prop) : Prop where
  os : W.os = wS.os
  tape : W.tape = wS.tape
  output : W.output = wS.output
  size : wS.heap.size ≤ W.heap.size
  same : ∀ g, g < wS.heap.size → ¬ O g → g ≠ K2 → W.heap[g]? = wS.heap[g]?
  own : ∀ g, O' g → O g ∨ wS.heap.size ≤ g
theorem CatF.start (w : World) (K2 : Nat) (O : Nat → Prop) : CatF w w K2 O O := ⟨rfl, rfl, rfl, Nat.le_refl _, fun _ _ _ _ => rfl, fun g h => .inl h⟩
theorem CatF.step {wS W W' : World} {K2 : Nat} {O O' O2 : Nat → Prop} (h : CatF wS W K2 O O') (k : LF W W' O' O2) : CatF wS W' K2 O O2 :=
  ⟨k.os.trans h.os, k.tape.trans h.tape, k.output.trans h.output, Nat.le_trans h.size k.size, fun g hg hO hne => (k.same g (Nat.lt_of_lt_of_le hg h.size) (fun ho => by rcases h.own g ho with h1 | h1; exact hO h1; omega)).trans (h.same g hg hO hne),
    fun g hg => by
      rcases k.own g hg with h1 | h1
      · exact h.own g h1
      · exact .inr (Nat.le_trans h.size h1)⟩
theorem CatF.set {wS W : World} {K2 : Nat} {O O' : Nat → Prop} (h : CatF wS W K2 O O') (v : Value) : CatF wS (W.setCell ⟨K2, 0, none⟩ v) K2 O O' :=
  ⟨h.os, h.tape, h.output, by simpa using h.size, fun g hg hO hne => (Below.heap_setCell _ _ _ _ hne).trans (h.same g hg hO hne), h.own⟩
theorem CatF.grown {wS W W' : World} {K2 : Nat} {O O' : Nat → Prop} {row : Option Nat} (h : CatF wS W K2 O O') (hg : W.grownBy W' row) (hr : ∀ r, row = some r → wS.heap.size ≤ r) : CatF wS W' K2 O O' :=
  ⟨hg.os.trans h.os, hg.tape.trans h.tape, hg.output.trans h.output, Nat.le_trans h.size hg.size, fun g hgl hO hne => (hg.block g (Nat.lt_of_lt_of_le hgl h.size) (fun e => by have := hr g e.symm; omega)).trans (h.same g hgl hO hne), h.own⟩

/-- Between two rounds. -/
def CatI (T : Nat → Nat) (B m b K0 K2 : Nat) (l : List RX) (P : List Pl) (wS : World) (O : Nat → Prop) (pre : List (Fin l.length)) (W : World) : Prop :=
  ∃ pv' AS', W.heap[K0]? = some (.cells #[.pointer (some ⟨m, 0, none⟩)] 39 (0, 0)) ∧ W.heap[K2]? = some (.cells #[.int .i64 (((stX l b P pre).1 : Nat) : Int)] 3 (0, 0)) ∧ MRep T B m W pv' AS' (stX l b P pre).2 ∧ CatF wS W K2 O (Own m pv' AS')
theorem catI_own (T : Nat → Nat) (B m b K0 K2 : Nat) (l : List RX) (P : List Pl) (wS : World) (O : Nat → Prop) : OwnFrom wS.heap.size (CatI T B m b K0 K2 l P wS O) := by
  rintro pre W W' row ⟨pv', AS', h1, h2, h3, h4⟩ hg hr
  have kept : ∀ (g : Nat) (cs : Array Value) (t : TypeId) (fz : Nat × Nat), W.heap[g]? = some (Obj.cells cs t fz) → W'.heap[g]? = W.heap[g]? := fun g cs t fz h => hg.block g (Array.getElem?_eq_some_iff.1 h).1 (fun e => by
    obtain ⟨_, o, ho, hc⟩ := hr g e.symm
    rw [h] at ho; obtain rfl := Option.some.inj ho; cases hc)
  exact ⟨pv', AS', (kept _ _ _ _ h1).trans h1, (kept _ _ _ _ h2).trans h2, h3.cellsKept kept, h4.grown hg fun r e => (hr r e).1⟩
theorem calls_round {l n : Nat} {P : Program} {f : FuncId} {args : Array Value} {w : World} {R : Ending → World → Prop} (h : Calls P f args w R) : CallsIn (Fence.wide.inRound l) n P f args w R :=
  (callsIn_wide (n := n)).2 h

set_option maxRecDepth 100000 in
set_option maxHeartbeats 4000000 in
theorem lay_cat (T : Nat → Nat) (S : Nat → Prop) (B m b : Nat) (hS : ∀ g, S g → g < B) (w : World) (pv : Value) (AS : List Value) (P : List Pl) (l : List RX) (g cap : Nat) (hl : RepLS S w l g 0) (hSg : S g) (hgw : g < w.heap.size) (hcap : l.length ≤ cap) (hM : MRep T B m w pv AS P)
    (hb : b < P.length) (hBd : X3.Bd P P.length) (hP : P.length + (1 + X3.sizeL l) * (1 + X3.sizeL l) * (1 + X3.sizeL l) ≤ 100000000000) (hmu : X3.muL P + 4 * ((1 + X3.sizeL l) * (1 + X3.sizeL l) * (1 + X3.sizeL l)) ≤ 1000000000000) (hBw : B ≤ w.heap.size) (hN : l.length ≤ 1000000)
    (hT : ∀ k, P.length ≤ k → k < (X3.layCat l b P).2.length → T k = 0)
    (ih : ∀ (T : Nat → Nat) (k : Nat) (hk : k < l.length) (w : World) (v : Value) (b : Nat) (pv : Value) (AS : List Value) (P : List Pl), RepS S w l[k] v → MRep T B m w pv AS P → b < P.length → X3.Bd P P.length → P.length + l[k].size * l[k].size * l[k].size ≤ 100000000000 → X3.muL P + 4 * (l[k].size * l[k].size * l[k].size) ≤ 1000000000000 → B ≤ w.heap.size →
      (∀ j, P.length ≤ j → j < (X3.layX l[k] b P).2.length → T j = 0) → Calls Tryd.prog 33 #[.pointer (some ⟨m, 0, none⟩), v, .int .i64 (b : Int)] w (LayP T B m w pv AS (X3.layX l[k] b P))) :
    Calls Tryd.prog 33 #[.pointer (some ⟨m, 0, none⟩), nodeV 2 0 0 0 0 (.slice (some ⟨g, 0, none⟩) l.length cap), .int .i64 (b : Int)] w (LayP T B m w pv AS (X3.layCat l b P)) := by
  obtain ⟨w0, e0, hB⟩ := boxes3 m b 2 0 0 0 0 (.slice (some ⟨g, 0, none⟩) l.length cap) w
  have hs := hB.sz
  obtain ⟨p0, p1, p2, p3, p4, p5⟩ := cells6 hB.h1
  have q := cell1 hB.h2
  have q0 := cell1 hB.h0
  obtain ⟨wS, eS⟩ : ∃ wS, w0.alloc (.cells #[.slice (some ⟨g, 0, none⟩) l.length cap] 24) = wS := ⟨_, rfl⟩
  have hbS : Below w0.heap.size w0 wS := by rw [← eS]; exact (Below.refl _ _).alloc (Nat.le_refl _) _
  have hsS : wS.heap.size = w0.heap.size + 1 := by rw [← eS]; simp
  have hnS : wS.heap[w0.heap.size]? = some (.cells #[.slice (some ⟨g, 0, none⟩) l.length cap] 24 (0, 0)) := by rw [← eS]; exact new_block _ _
  have hbw : Below w.heap.size w wS := hB.bl.trans (hbS.mono hB.bl.size)
  have hk0 : wS.heap[w.heap.size]? = some (.cells #[.pointer (some ⟨m, 0, none⟩)] 39 (0, 0)) := (hbS.block _ (by omega)).trans hB.h0
  have hk2 : wS.heap[w.heap.size + 1 + 1]? = some (.cells #[.int .i64 (b : Int)] 3 (0, 0)) := (hbS.block _ (by omega)).trans hB.h2
  have hgS : wS.heap[g]? = w.heap[g]? := hbw.block g hgw
  have hlS : RepLS S wS l g 0 := hl.kept (keepS_below hbw) hSg hgw
  obtain ⟨K, hK⟩ := kids_fun hlS
  have HOg : ∀ g', Own m pv AS g' → B ≤ g' ∧ g' < w.heap.size := fun g' h => hM.own_ge h
  have HKS : ∀ W : World, CatF wS W (w.heap.size + 1 + 1) (Own m pv AS) (fun _ => False) → KeepS S wS W := fun W h => ⟨h.size, fun g' hg' hgl => h.same g' hgl (fun ho => by have := (HOg g' ho).1; have := hS g' hg'; omega) (by have := hS g' hg'; omega)⟩
  have HT := hid hT
  have hM' : MRep (fun k => if k < P.length then T k else 0) B m wS pv AS P := (hM.below hbw).turn (fun k hk => by simp [hk])
  have HM := hid hM
  have HIH := hid ih
  have HK := hid hK
  have HB := hid hB
  have HBS := hid hbw
  have HSND := hid (X4.st_sound l b P hBd hb)
  have HKSS := hid HKS
  have HOG := hid HOg
  have hgB := hS g hSg
  have SEQ := hid (back_seq Fence.wide 4 trivial rfl (by decide) w0.heap.size g l.length cap K wS hnS (by omega) hN hcap (fun k hk => by obtain ⟨-, kd, x, y, z, u, ko, kn, kc, h, g0, g1, g2, g3, g4, g5⟩ := hK k hk; exact ⟨_, _, _, _, _, _, h, g0, g1, g2, g3, g4, g5⟩))
  have HI0 : Hid (CatI (fun k => if k < P.length then T k else 0) B m b w.heap.size (w.heap.size + 1 + 1) l P wS (Own m pv AS) [] wS) := hid ⟨pv, AS, hk0, hk2, hM', CatF.start _ _ _⟩
  clear hM hB ih hK hT hM' hl hlS hbw hbS hnS hk0 hk2 hgS hBd HKS HOg
  have lt1 : w0.heap.size < wS.heap.size := by omega
  have lt2 : g < wS.heap.size := by omega
  have lt3 : w.heap.size + 1 + 1 < wS.heap.size := by omega
  have lt4 : w.heap.size + 1 + 1 < w0.heap.size := by omega
  have HSZ := hid (And.intro hs hsS)
  clear hs hsS
  refine (callsIn_wide (n := 5)).1 ?_
  refine callsIn_of_wp_marks Tryd.func33 rfl trivial ?_ rfl
  simp only [Tryd.ntmps33, List.size_toArray, List.length_cons, List.length_nil, Nat.reduceAdd, Nat.reduceSub, Array.replicate_succ, Array.replicate_zero, List.push_toArray, List.append_toArray, List.nil_append, List.cons_append]
  gi_wp2_with fail
  refine ⟨trivial, (back_in Fence.wide 4 trivial rfl _ _ _ _).mono ?_⟩
  rintro e w' ⟨rfl, rfl⟩
  rw [eS]
  clear eS e0 p0 p1 p2 p3 p4 p5 q q0
  gi_wp2_with fail
  refine wpIn_rangeFunc_ownH rfl (by decide) (gf := 67) (lb := #[.pointer (some ⟨w0.heap.size, 0, none⟩)]) rfl trivial (enters_of Tryd.func67 (by kernel_rfl) rfl) SEQ.out
    (fun h k => ⟨k.1.trans h.1, k.2.trans h.2⟩)
    (fun W l' o o' hl' ho hc hw => ⟨World.putObj_heap_other (by omega), World.putObj_heap_other (by omega)⟩)
    (Below.refl _ _) (fun _ => rfl)
    (CatI (fun k => if k < P.length then T k else 0) B m b w.heap.size (w.heap.size + 1 + 1) l P wS (Own m pv AS)) (fun _ _ _ => False) (catI_own _ _ _ _ _ _ _ _ _ _) (fun _ _ _ _ _ hs _ _ => hs) HI0.out
    (fun x a' W => ∃ (Bx : Nat) (cs : Array Value), K x.val = .agg cs ∧ W.heap[Bx]? = some (.cells cs 38 (0, 0)) ∧ a' = { tmps := #[.pointer (some ⟨m, 0, none⟩), nodeV 2 0 0 0 0 (.slice (some ⟨g, 0, none⟩) l.length cap), .int .i64 (b : Int), .pointer (some ⟨w.heap.size, 0, none⟩), .pointer (some ⟨w.heap.size + 1, 0, none⟩), .pointer (some ⟨w.heap.size + 1 + 1, 0, none⟩), .int .i64 0, undef, .pointer (some ⟨Bx, 0, none⟩), undef, undef, undef, undef, undef, undef, .pointer (some ⟨w.heap.size + 1, 0, none⟩), .int .i64 2, .bool false, .bool false, undef, .bool false, .bool false, undef, undef, undef, undef, undef, undef, undef, undef, undef, .bool true, .bool true, .pointer (some ⟨w.heap.size + 1, 5, none⟩), .slice (some ⟨g, 0, none⟩) l.length cap, .func (.func 67) #[] #[.pointer (some ⟨w0.heap.size, 0, none⟩)], .int .i64 (x.val : Int), K x.val, undef, undef, undef, undef, undef, undef, undef, undef, undef, undef, undef, undef, undef, undef, undef, undef, undef, undef, undef, undef, undef, undef, undef, undef, undef, undef, undef, undef, undef, undef, undef, undef, undef, undef, undef, undef, undef, undef, undef, undef, undef, undef, undef, undef, undef, undef, undef, undef, undef, undef, undef, undef, undef, undef, undef, undef, undef, undef, undef, undef, undef, undef, undef, undef, undef, undef, undef, undef, undef, undef, undef, undef, undef, undef, undef, undef, undef, undef, undef, undef, undef, undef, undef, undef, undef, undef, undef, undef], defers := [] })
    (fun x a' s A C row ⟨Bx, cs, hc, hb, e⟩ hg hr => ⟨Bx, cs, hc, (hg.block Bx (Array.getElem?_eq_some_iff.1 hb).1 (fun e => by
      obtain ⟨_, o, ho, hc⟩ := hr Bx e.symm
      rw [hb] at ho; obtain rfl := Option.some.inj ho; cases hc)).trans hb, e⟩) ?assign ?body ?done ?stop
  case assign =>
    intro l' pre x W KK hi hK
    obtain ⟨hRx, kd, kx, ky, kz, ku, ko, kn, kc, hKx, -⟩ := HK.out x.val x.isLt
    have HKx := hid hKx
    clear hKx
    have HI := hid hi
    have HKK := hid hK
    clear hi hK hRx
    rw [HKx.out]
    gi_wp2
    have hz : wS.heap.size ≤ W.heap.size := by obtain ⟨_, _, _, _, _, h⟩ := HI.out; exact h.size
    exact HKK.out _ _ ((KeepsOthers.alloc _ _).from _) ⟨Below.heap_alloc _ _ _ (by omega), Below.heap_alloc _ _ _ (by omega)⟩ ((catI_own _ _ _ _ _ _ _ _ _ _).alloc _ HI.out) ⟨W.heap.size, _, HKx.out, new_block _ _, by rw [HKx.out]⟩
  case body =>
    rintro l' pre x a' W hl' ⟨r, hr⟩ ⟨pv', AS', i1, i2, i3, i4⟩ ⟨Bx, cs, hKc, hbx, rfl⟩ hlt
    obtain ⟨hRx, kd, kx, ky, kz, ku, ko, kn, kc, hKx, -⟩ := HK.out x.val x.isLt
    rw [hKx] at hKc
    obtain rfl : #[.int .i64 kd, .int .u64 kx, .int .u64 ky, .int .u64 kz, .int .u64 ku, .slice ko kn kc] = cs := by injection hKc
    obtain ⟨s1, s2, s3, s4, s5⟩ := HSND.out pre
    have hkid := X4.kid_le l x
    have hcb := X4.cube (X3.sizeL l) l[x].size hkid
    have hpl : pre.length * X3.sizeL l ≤ X3.sizeL l * X3.sizeL l := Nat.mul_le_mul (by have := length_le_sizeL l; omega) (Nat.le_refl _)
    have hszW := i4.size
    have KI := hid (HIH.out (fun k => if k < P.length then T k else 0) x.val x.isLt W (K x.val) (stX l b P pre).1 pv' AS' (stX l b P pre).2 (hRx.kept (HKSS.out W ⟨i4.os, i4.tape, i4.output, i4.size, i4.same, fun _ h => h.elim⟩)) i3 s2 s1
      (by have e : l[x.val].size = l[x].size := rfl; rw [e]; omega) (by have e : l[x.val].size = l[x].size := rfl; rw [e]; omega) (by have := (Array.getElem?_eq_some_iff.1 i1).1; omega) (fun j hj _ => by rw [if_neg (by omega)]))
    rw [hKx] at KI
    have hsn := X4.st_snoc l b P pre x
    have HSN := hid hsn
    have HX := hid (And.intro i3 i4)
    obtain ⟨c0, c1, c2, c3, c4, c5⟩ := cells6 hbx
    have d0 := cell1 i1
    have d2 := cell1 i2
    have HI1 := hid (And.intro i1 i2)
    clear hsn hKx hKc hRx i1 i2 i3 i4 s1 s2 s3 s4 s5 hkid hcb hpl hr
    gi_wp2_with fail
    refine ⟨trivial, (calls_round KI.out).mono ?_⟩
    rintro e w2 ⟨pv2, AS2, rfl, hM2, hF2⟩
    have hnO : ∀ k, k < wS.heap.size → ¬ Own m pv AS k → ¬ Own m pv' AS' k := fun k hk hn ho => by
      rcases HX.out.2.own k ho with h1 | h1
      · exact hn h1
      · omega
    have hnK : ∀ k, w.heap.size ≤ k → ¬ Own m pv AS k := fun k hk ho => by have := (HOG.out k ho).2; omega
    have j0 := (hF2.same w.heap.size (by omega) (hnO _ (by omega) (hnK _ (by omega)))).trans HI1.out.1
    have j2 := (hF2.same (w.heap.size + 1 + 1) (by omega) (hnO _ (by omega) (hnK _ (by omega)))).trans HI1.out.2
    have g2 := cell1 j2
    have f2 := Lib.frozen_of_heap j2 0
    have HM2 := hid hM2
    have HF2 := hid hF2
    have HJ := hid (And.intro j0 j2)
    clear c0 c1 c2 c3 c4 c5 d0 d2 hM2 hF2 j0 j2 KI hbx
    gi_wp2_with fail
    have hC := HX.out.2.step HF2.out
    have hO2 : ¬ Own m pv2 AS2 (w.heap.size + 1 + 1) := fun ho => by
      rcases hC.own _ ho with h1 | h1
      · exact hnK _ (by omega) h1
      · omega
    have hgO : ¬ Own m pv AS g := fun ho => by have := (HOG.out g ho).1; omega
    have hz2 := HF2.out.size
    refine ⟨⟨by simpa using hz2, fun k o hk ho hc => ?_⟩, ⟨?_, ?_⟩, pv2, AS2, ?_, ?_, ?_, hC.set _⟩
    · refine (Below.heap_setCell _ _ _ _ (by show k ≠ w.heap.size + 1 + 1; omega)).trans ((HF2.out.same k (Array.getElem?_eq_some_iff.1 ho).1 (fun hO => ?_)).trans ho)
      obtain ⟨_, _, _, h⟩ := HX.out.1.own_cells hO
      rw [h] at ho; obtain rfl := Option.some.inj ho; cases hc
    · exact (Below.heap_setCell _ _ _ _ (by show w0.heap.size ≠ w.heap.size + 1 + 1; omega)).trans (HF2.out.same _ (by omega) (hnO _ (by omega) (hnK _ (by omega))))
    · exact (Below.heap_setCell _ _ _ _ (by show g ≠ w.heap.size + 1 + 1; omega)).trans (HF2.out.same _ (by omega) (hnO _ (by omega) hgO))
    · exact (Below.heap_setCell _ _ _ _ (by show w.heap.size ≠ w.heap.size + 1 + 1; omega)).trans HJ.out.1
    · rw [HSN.out]; exact heap_set0 _ HJ.out.2
    · rw [HSN.out]; exact HM2.out.ownKept fun k hk => Below.heap_setCell _ _ _ _ (fun e => hO2 (by have e' : k = w.heap.size + 1 + 1 := e; rw [← e']; exact hk))
  case done =>
    rintro D ys W hD hys ⟨pv', AS', i1, i2, i3, i4⟩ hK
    have hst := X4.st_all l b P l.length ys (Nat.le_refl _) (by rw [Nat.sub_self]; exact hys)
    rw [Nat.sub_self, List.drop_zero] at hst
    rw [hst] at i2 i3
    have c2 := cell1 i2
    have HX := hid (And.intro i3 i4)
    clear i1 i2 i3 i4 hst hys
    gi_wp2_with fail
    refine ⟨by simp, .inl ⟨_, _, rfl, run_takeDeferred hK, ?_⟩⟩
    have hne : ∀ (g : Nat) (cs : Array Value) (t : TypeId) (fz : Nat × Nat), W.heap[g]? = some (Obj.cells cs t fz) → g ≠ D := fun g cs t fz h e => by
      rw [e, hK] at h; cases h
    refine ⟨_, results_tmp rfl _ _ _, pv', AS', rfl, ?_, ?_⟩
    · refine (HX.out.1.cellsKept fun g cs t fz h => World.putObj_heap_other (hne g cs t fz h)).turn fun k hk => ?_
      by_cases c : k < P.length
      · simp [c]
      · simp only [if_neg c]; exact (HT.out k (by omega) hk).symm
    · have h4 := HX.out.2
      refine ⟨h4.os.trans HBS.out.os, h4.tape.trans HBS.out.tape, h4.output.trans HBS.out.output, by have := h4.size; have := HBS.out.size; simp; omega, fun k hk hO => ?_, fun k hk => ?_⟩
      · exact (World.putObj_heap_other (by omega)).trans ((h4.same k (by omega) hO (by omega)).trans (HBS.out.block k hk))
      · rcases h4.own k hk with h1 | h1
        · exact .inl h1
        · exact .inr (by omega)
  case stop =>
    rintro D c pre W _ _ h _
    exact h.elim
end Go.Proofs.YtochckefnjobhaaDoor
