/- regex's matcher: fold. -/
import Derived.Test.YtndefngkkikkeaaMe
import Derived.Deep.LoopGhost
import Derived.Laws.AppendOwnNone
import Derived.Laws.BitsLemmas
namespace Go.Proofs.Ytndefngkkikkeaa
open Go Go.RowKit Go.Lib
open X3 (RX Pl)
set_option linter.unusedVariables false
set_option linter.unusedSimpArgs false

abbrev ints (l : List Nat) : List Value := l.map fun (q : Nat) => Value.int .i64 (q : Int)
theorem ints_app (a b : List Nat) : ints (a ++ b) = ints a ++ ints b := List.map_append
theorem ints_at {l : List Nat} {k q : Nat} (h : l[k]? = some q) : (ints l)[k]? = some (.int .i64 (q : Int)) := by simp [ints, h]

/-- A matcher that gathers: its places, its marks, and how far it is; all but the marks in blocks below BS. -/
structure MS (BS m pg cap sg : Nat) (P : List Pl) (AS : List Value) (seen : List Nat) (now : Nat) (w : World) : Prop where
  box : w.heap[m]? = some (.cells #[.slice (some ⟨pg, 0, none⟩) P.length cap, .slice (some ⟨sg, 0, none⟩) P.length P.length, .int .i64 (now : Int)] 63 (0, 0))
  pls : ∀ (k : Nat) (pl : Pl) (av : Value), P[k]? = some pl → AS[k]? = some av → ∀ j, j < 8 → w.cell? ⟨pg, k * 8 + j, none⟩ = (plc pl av)[j]?
  lenA : AS.length = P.length
  also : ∀ (k : Nat) (pl : Pl) (av : Value), P[k]? = some pl → AS[k]? = some av → (pl.also = [] ∧ av = .slice none 0 0) ∨ ∃ g c, av = .slice (some ⟨g, 0, none⟩) pl.also.length c ∧ g < BS ∧ g ≠ sg ∧ ∀ (j q : Nat), pl.also[j]? = some q → w.cell? ⟨g, j, none⟩ = some (.int .i64 (q : Int))
  marks : w.heap[sg]? = some (.cells (ints seen).toArray 3 (0, 0))
  lenS : seen.length = P.length
  cap_ : P.length ≤ cap
  m_lt : m < BS
  pg_lt : pg < BS
  m_ne : m ≠ sg
  pg_ne : pg ≠ sg

/-- All below B but the marks lies there yet. -/
structure FF (B sg : Nat) (w w' : World) : Prop where
  os : w'.os = w.os
  tape : w'.tape = w.tape
  output : w'.output = w.output
  size : w.heap.size ≤ w'.heap.size
  same : ∀ g, g < B → g ≠ sg → w'.heap[g]? = w.heap[g]?
theorem FF.refl (B sg : Nat) (w : World) : FF B sg w w := ⟨rfl, rfl, rfl, Nat.le_refl _, fun _ _ _ => rfl⟩
theorem FF.trans {B sg : Nat} {a b c : World} (h : FF B sg a b) (k : FF B sg b c) : FF B sg a c :=
  ⟨k.os.trans h.os, k.tape.trans h.tape, k.output.trans h.output, Nat.le_trans h.size k.size, fun g hg hn => (k.same g hg hn).trans (h.same g hg hn)⟩
theorem FF.ofBelow {B sg : Nat} {w w' : World} (h : Below B w w') : FF B sg w w' := ⟨h.os, h.tape, h.output, h.size, fun g hg _ => h.block g hg⟩
theorem FF.mono {B B' sg : Nat} {w w' : World} (h : FF B sg w w') (hB : B' ≤ B) : FF B' sg w w' := ⟨h.os, h.tape, h.output, h.size, fun g hg hn => h.same g (by omega) hn⟩
theorem MS.ff {BS m pg cap sg : Nat} {P : List Pl} {AS : List Value} {seen seen' : List Nat} {now B : Nat} {w w' : World} (h : MS BS m pg cap sg P AS seen now w) (hf : FF B sg w w') (hB : BS ≤ B)
    (hm : w'.heap[sg]? = some (.cells (ints seen').toArray 3 (0, 0))) (hl : seen'.length = P.length) : MS BS m pg cap sg P AS seen' now w' :=
  ⟨(hf.same m (by have := h.m_lt; omega) h.m_ne).trans h.box,
   fun k pl av h1 h2 j hj => (World.cell?_of_block (hf.same pg (by have := h.pg_lt; omega) h.pg_ne)).trans (h.pls k pl av h1 h2 j hj), h.lenA,
   fun k pl av h1 h2 => (h.also k pl av h1 h2).imp id (fun ⟨g, c, e, hg, hne, hq⟩ => ⟨g, c, e, hg, hne, fun j q hjq => (World.cell?_of_block (hf.same g (by omega) hne)).trans (hq j q hjq)⟩),
   hm, hl, h.cap_, h.m_lt, h.pg_lt, h.m_ne, h.pg_ne⟩

theorem plc5 (pl : Pl) (av : Value) : (plc pl av)[6]? = some (.int .i64 (pl.next : Int)) := by
  obtain ⟨k, x, y, z, u, h, -⟩ := bcs_shape pl.b
  simp [plc, h]

theorem owns_sl {w : World} {B n : Nat} {v : Value} {xs : List Value} (h : w.ownsRow B 3 1 v n xs) (h0 : 0 < n) : ∃ g cap cur, v = .slice (some ⟨g, 0, none⟩) n cap ∧ B ≤ g ∧ w.heap[g]? = some (.cells cur 3 (0, 0)) ∧ n ≤ cap ∧ cap ≤ maxLen ∧ cur.size = cap * 1 ∧ cur.toList.take (n * 1) = xs := by
  rcases h.2 with ⟨_, h3⟩ | ⟨g, cap, cur, rest⟩
  · omega
  · exact ⟨g, cap, cur, rest⟩
theorem owns_pop {w : World} {B n g cap : Nat} {xs : List Value} {x : Value} (h : w.ownsRow B 3 1 (.slice (some ⟨g, 0, none⟩) (n + 1) cap) (n + 1) (xs ++ [x])) (hx : xs.length = n) : w.ownsRow B 3 1 (.slice (some ⟨g, 0, none⟩) n cap) n xs := by
  refine ⟨by omega, ?_⟩
  rcases h.2 with ⟨h3, _⟩ | ⟨g', cap', cur, hv, hB, hg, hc, hcm, hs, ht⟩
  · cases h3
  · injection hv with h1 h2 h3
    subst h3
    have h1' : g = g' := by injection h1 with h1; injection h1
    subst h1'
    refine .inr ⟨g, cap, cur, rfl, hB, hg, by omega, hcm, hs, ?_⟩
    have e : cur.toList.take (n * 1) = (cur.toList.take ((n + 1) * 1)).take n := by rw [List.take_take]; congr 1; omega
    rw [e, ht, List.take_left' hx]

/-- What fold's loop keeps. -/
structure FoldSt (BS BD m pg cap sg : Nat) (P : List Pl) (AS : List Value) (T : Nat → Prop) (now C : Nat) (w0 : World) (seen0 more0 : List Nat) (gk : Nat) (av mv : Value) (wr : World) (at_ more seen : List Nat) : Prop where
  ms : MS BS m pg cap sg P AS seen now wr
  ga : X3.Gath P T (now + 1) seen at_ more
  ff : FF BD sg w0 wr
  ra : wr.ownsRow BD 3 1 av at_.length (ints at_)
  rm : wr.ownsRow BD 3 1 mv more.length (ints more)
  ne : ∀ g, av.ownBlock = some g → mv.ownBlock ≠ some g
  gk : gk = X3.muS P seen (now + 1) + more.length
  few : at_.length + X3.muS P seen (now + 1) ≤ C
  few2 : X3.muS P seen (now + 1) + more.length ≤ C + 1
  mono : ∀ p : Nat, seen0[p]? = some (now + 1) → seen[p]? = some (now + 1)
  mores : ∀ q ∈ more0, seen[q]? = some (now + 1) ∨ q ∈ more

/-- What fold comes to. -/
def FoldP (BS BD m pg cap sg : Nat) (P : List Pl) (AS : List Value) (T : Nat → Prop) (now C : Nat) (w0 : World) (seen0 more0 : List Nat) (e : Ending) (w' : World) : Prop :=
  ∃ av at_ seen, e = .returned av ∧ MS BS m pg cap sg P AS seen now w' ∧ X3.Gath P T (now + 1) seen at_ [] ∧ FF BD sg w0 w' ∧ w'.ownsRow BD 3 1 av at_.length (ints at_) ∧
    at_.length + X3.muS P seen (now + 1) ≤ C ∧ (∀ p : Nat, seen0[p]? = some (now + 1) → seen[p]? = some (now + 1)) ∧ (∀ q ∈ more0, seen[q]? = some (now + 1))

theorem FoldSt.popped {BS BD m pg cap sg : Nat} {P : List Pl} {AS : List Value} {T : Nat → Prop} {now C : Nat} {w0 : World} {seen0 more0 : List Nat} {gk : Nat} {av mv mv' : Value} {wr wr' : World} {at_ mm seen : List Nat} {p : Nat}
    (h : FoldSt BS BD m pg cap sg P AS T now C w0 seen0 more0 gk av mv wr at_ (mm ++ [p]) seen) (hp : seen[p]? = some (now + 1)) (hb : Below wr.heap.size wr wr') (hBS : BS ≤ BD) (hBw : BD ≤ wr.heap.size) (hsg : sg < BD)
    (hrm : wr.ownsRow BD 3 1 mv' mm.length (ints mm)) (he : mv'.ownBlock = mv.ownBlock) : FoldSt BS BD m pg cap sg P AS T now C w0 seen0 more0 (gk - 1) av mv' wr' at_ mm seen := by
  have hff : FF BD sg wr wr' := FF.ofBelow (hb.mono hBw)
  have hl : (mm ++ [p]).length = mm.length + 1 := by simp
  have h1 := h.gk
  have h2 := h.few
  have h2' := h.few2
  rw [hl] at h1 h2'
  refine ⟨h.ms.ff hff hBS ((hb.block sg (by omega)).trans h.ms.marks) h.ms.lenS, h.ga.pop hp, h.ff.trans hff, owns_kept h.ra (fun g hg => hb.block g (h.ra.lt g hg).2), owns_kept hrm (fun g hg => hb.block g (hrm.lt g hg).2), fun g hg => by rw [he]; exact h.ne g hg, by omega, by omega, by omega, h.mono, fun q hq => ?_⟩
  rcases h.mores q hq with h3 | h3
  · exact .inl h3
  · simp at h3
    rcases h3 with h3 | rfl
    · exact .inr h3
    · exact .inl hp

theorem FoldSt.marked {BS BD m pg cap sg : Nat} {P : List Pl} {AS : List Value} {T : Nat → Prop} {now C : Nat} {w0 : World} {seen0 more0 : List Nat} {gk : Nat} {av mv av' mv' : Value} {wr w8 : World} {at_ mm seen : List Nat} {p : Nat} {pl : Pl}
    (h : FoldSt BS BD m pg cap sg P AS T now C w0 seen0 more0 gk av mv wr at_ (mm ++ [p]) seen) (hT : ∀ p pl, T p → P[p]? = some pl → ∀ q ∈ pl.also, T q) (hpl : P[p]? = some pl) (hp : seen[p]? ≠ some (now + 1)) (hBS : BS ≤ BD) (hff : FF BD sg wr w8)
    (hm : w8.heap[sg]? = some (.cells (ints (seen.set p (now + 1))).toArray 3 (0, 0))) (hra : w8.ownsRow BD 3 1 av' (at_ ++ [p]).length (ints (at_ ++ [p]))) (hrm : w8.ownsRow BD 3 1 mv' (mm ++ pl.also).length (ints (mm ++ pl.also))) (hne : ∀ g, av'.ownBlock = some g → mv'.ownBlock ≠ some g) :
    FoldSt BS BD m pg cap sg P AS T now C w0 seen0 more0 (gk - 2) av' mv' w8 (at_ ++ [p]) (mm ++ pl.also) (seen.set p (now + 1)) ∧ 2 ≤ gk := by
  have hmu := X3.muS_set P seen (now + 1) p pl hpl h.ms.lenS hp
  have h1 := h.gk
  have h2 := h.few
  have h2' := h.few2
  have hlt : p < seen.length := by rw [h.ms.lenS]; exact (List.getElem?_eq_some_iff.1 hpl).1
  have hs : ∀ q : Nat, seen[q]? = some (now + 1) → (seen.set p (now + 1))[q]? = some (now + 1) := by
    intro q hq
    by_cases e : q = p
    · subst e; exact List.getElem?_set_self hlt
    · rw [List.getElem?_set_ne (Ne.symm e)]; exact hq
  simp only [List.length_append, List.length_cons, List.length_nil] at h1 h2'
  refine ⟨⟨h.ms.ff hff hBS hm (by simp [h.ms.lenS]), X3.Gath.mark hT h.ga hpl hp, h.ff.trans hff, hra, hrm, hne, ?_, ?_, ?_, fun q hq => hs q (h.mono q hq), fun q hq => ?_⟩, by omega⟩
  · simp only [List.length_append]; omega
  · simp only [List.length_append, List.length_cons, List.length_nil]; omega
  · simp only [List.length_append]; omega
  · rcases h.mores q hq with h3 | h3
    · exact .inl (hs q h3)
    · simp at h3
      rcases h3 with h3 | rfl
      · exact .inr (by simp [h3])
      · exact .inl (List.getElem?_set_self hlt)

set_option maxRecDepth 100000 in
set_option maxHeartbeats 8000000 in
theorem fold_any (BS BD m pg cap sg : Nat) (P : List Pl) (AS : List Value) (T : Nat → Prop) (now C : Nat) (hT : ∀ p pl, T p → P[p]? = some pl → ∀ q ∈ pl.also, T q) (hTl : ∀ p, T p → p < P.length) (hnow : now ≤ 1000000) (hC : C ≤ 100000000) (hBS : BS ≤ BD) (hsg : sg < BD)
    (w : World) (hBw : BD ≤ w.heap.size) (at_ more seen : List Nat) (av mv : Value) (hms : MS BS m pg cap sg P AS seen now w) (hga : X3.Gath P T (now + 1) seen at_ more)
    (hra : w.ownsRow BD 3 1 av at_.length (ints at_)) (hrm : w.ownsRow BD 3 1 mv more.length (ints more)) (hne : ∀ g, av.ownBlock = some g → mv.ownBlock ≠ some g) (hfew : at_.length + X3.muS P seen (now + 1) ≤ C) (hfew2 : X3.muS P seen (now + 1) + more.length ≤ C + 1) (hPl : P.length ≤ 100000) :
    Calls Try.prog 26 #[.pointer (some ⟨m, 0, none⟩), av, mv] w (FoldP BS BD m pg cap sg P AS T now C w seen more) := by
  have hst : FoldSt BS BD m pg cap sg P AS T now C w seen more (X3.muS P seen (now + 1) + more.length) av mv w at_ more seen := ⟨hms, hga, FF.refl _ _ _, hra, hrm, hne, rfl, hfew, hfew2, fun _ h => h, fun q hq => .inr hq⟩
  have HST := hid hst
  have HT := hid hT
  have HTL := hid hTl
  clear hst hms hga hra hrm hne hfew hfew2 hT hTl
  go_enter Try.func26, Try.ntmps26
  go_wp2_with fail
  go_loopg [1, 2] (X3.muS P seen (now + 1) + more.length) (fun gk a b wr => ∃ at_ more' seen', Aside (FoldSt BS BD m pg cap sg P AS T now C w seen more gk a b wr at_ more' seen'))
  case atStart => exact ⟨at_, more, seen, HST.out⟩
  case round =>
    clear HST
    obtain ⟨at2, more2, seen2, hst⟩ := hrel
    replace hst := hst.out
    rcases List.eq_nil_or_concat more2 with rfl | ⟨mm, p, hmm⟩
    · obtain ⟨o, c, rfl⟩ : ∃ o c, u2 = .slice o 0 c := by
        rcases hst.rm.2 with ⟨rfl, _⟩ | ⟨g, cap, cur, rfl, _⟩
        · exact ⟨_, _, rfl⟩
        · exact ⟨_, _, rfl⟩
      have HS := hid hst
      clear hst
      go_wp2_with fail
      go_ret
      exact ⟨u1, at2, seen2, rfl, HS.out.ms, HS.out.ga, HS.out.ff, HS.out.ra, HS.out.few, HS.out.mono, fun q hq => by rcases HS.out.mores q hq with h | h; exact h; cases h⟩
    · rw [List.concat_eq_append] at hmm
      subst hmm
      have hTp := hst.ga.moreT p (by simp)
      have hpl := HTL.out p hTp
      obtain ⟨pl, hP⟩ : ∃ pl, P[p]? = some pl := ⟨_, List.getElem?_eq_getElem hpl⟩
      obtain ⟨avp, hA⟩ : ∃ avp, AS[p]? = some avp := ⟨_, List.getElem?_eq_getElem (by rw [hst.ms.lenA]; exact hpl)⟩
      obtain ⟨x, hx⟩ : ∃ x, seen2[p]? = some x := ⟨_, List.getElem?_eq_getElem (by rw [hst.ms.lenS]; exact hpl)⟩
      have hrm := hst.rm
      have hlen : (mm ++ [p]).length = mm.length + 1 := by simp
      have hin : ints (mm ++ [p]) = ints mm ++ [.int .i64 (p : Int)] := by simp
      rw [hlen, hin] at hrm
      obtain ⟨mg, mc, cur, rfl, hBg, hmg, hnc, hcm, hcs, htk⟩ := owns_sl hrm (by omega)
      have hpop := owns_pop hrm (by simp)
      have hfew := hst.few
      have hfew2 := hst.few2
      have hgk := hst.gk
      rw [hlen] at hfew2 hgk
      have cg : wr.cell? ⟨mg, mm.length, none⟩ = some (.int .i64 (p : Int)) := by
        have e : (cur.toList.take ((mm.length + 1) * 1))[mm.length]? = some (.int .i64 (p : Int)) := by rw [htk, List.getElem?_append_right (by simp)]; simp
        rw [List.getElem?_take, if_pos (by omega), Array.getElem?_toList] at e
        rw [Lib.cell_of_heap hmg]; exact e
      have c0 : wr.cell? ⟨m, 0, none⟩ = some (.slice (some ⟨pg, 0, none⟩) P.length cap) := by rw [Lib.cell_of_heap hst.ms.box]; rfl
      have c1 : wr.cell? ⟨m, 1, none⟩ = some (.slice (some ⟨sg, 0, none⟩) P.length P.length) := by rw [Lib.cell_of_heap hst.ms.box]; rfl
      have c2 : wr.cell? ⟨m, 2, none⟩ = some (.int .i64 (now : Int)) := by rw [Lib.cell_of_heap hst.ms.box]; rfl
      have cs : wr.cell? ⟨sg, p, none⟩ = some (.int .i64 (x : Int)) := by rw [Lib.cell_of_heap hst.ms.marks, List.getElem?_toArray]; exact ints_at hx
      have fs : wr.frozen? ⟨sg, p, none⟩ = false := Lib.frozen_of_heap hst.ms.marks p
      have hmle : mm.length ≤ 100000000 := by omega
      unfold maxLen at hcm
      have a0 : (0 : Int) ≤ (now : Int) + 1 := by omega
      have a1 : (now : Int) + 1 < 9223372036854775808 := by omega
      have b0 : (0 : Int) ≤ (p : Int) := by omega
      have b1 : (p : Int) < (P.length : Int) := by omega
      have d0 : (0 : Int) < ((mm.length + 1 : Nat) : Int) := by omega
      have d1 : ((mm.length + 1 : Nat) : Int) - 1 = (mm.length : Int) := by omega
      have d2 : (mm.length : Int) < ((mm.length + 1 : Nat) : Int) := by omega
      have d3 : (mm.length : Int) ≤ (mc : Int) := by omega
      have d4 : (0 : Int) ≤ (mm.length : Int) := by omega
      have HS := hid hst
      have HPOP := hid hpop
      clear hst hpop hrm htk hin hcs
      by_cases hxv : x = now + 1
      · have t1 : ((x : Int) == (now : Int) + 1) = true := by rw [beq_iff_eq]; omega
        go_upto_region 4 with fail
        go_quiet (fail)
        go_wp2_with fail
        have hbd : Below wr.heap.size wr (wr.drewN nq) := below_drewN (Below.refl _ _) _
        have hBw : BD ≤ wr.heap.size := by have := HS.out.ff.size; omega
        have HN := HS.out.popped (by rw [hx, hxv]) hbd hBS hBw hsg HPOP.out rfl
        go_roundg (gk - 1)
        case measure => omega
        case rel => exact ⟨at2, mm, seen2, HN⟩
      · have t1 : ((x : Int) == (now : Int) + 1) = false := by rw [beq_eq_false_iff_ne]; omega
        have hBw : BD ≤ wr.heap.size := by have := HS.out.ff.size; omega
        have hxn : seen2[p]? ≠ some (now + 1) := by rw [hx]; intro e; exact hxv (Option.some.inj e)
        go_upto_region 4 with fail
        go_quiet (fail)
        have hbd : Below wr.heap.size wr (wr.drewN nq).drew := (below_drewN (Below.refl _ _) _).drew
        obtain ⟨wd, hwd⟩ : ∃ wd, (wr.drewN nq).drew = wd := ⟨_, rfl⟩
        rw [hwd] at hbd
        have hsd : wd.heap.size = wr.heap.size := by rw [← hwd]; rfl
        have bx : ∀ g : Nat, wd.heap[g]? = wr.heap[g]? := fun g => by rw [← hwd]; rfl
        have e0 : wd.cell? ⟨m, 0, none⟩ = some (.slice (some ⟨pg, 0, none⟩) P.length cap) := (World.cell?_of_block (bx m)).trans c0
        have e1 : wd.cell? ⟨m, 1, none⟩ = some (.slice (some ⟨sg, 0, none⟩) P.length P.length) := (World.cell?_of_block (bx m)).trans c1
        have e2 : wd.cell? ⟨m, 2, none⟩ = some (.int .i64 (now : Int)) := (World.cell?_of_block (bx m)).trans c2
        have es : wd.cell? ⟨sg, p, none⟩ = some (.int .i64 (x : Int)) := (World.cell?_of_block (bx sg)).trans cs
        have gs : wd.frozen? ⟨sg, p, none⟩ = false := (World.frozen?_of_block (bx sg)).trans fs
        clear c0 c1 c2 cs fs
        go_upto_region 5 with fail
        refine region_T 11 (fun w' => w'.cell? ⟨m, 1, none⟩ = some (.slice (some ⟨sg, 0, none⟩) P.length P.length) ∧ w'.cell? ⟨m, 2, none⟩ = some (.int .i64 (now : Int))) (by kernel_rfl) (by rw [hwd]; exact ⟨e1, e2⟩) (fun inv hHeld => ?_)
        rw [hwd] at hHeld ⊢
        refine anyT_take (i := 0) (oi := { dst := some 35, op := Op.move (Operand.tmp 0), type := 57, pos := "match.go:83", after := #[], guard := none }) (v := ?_) rfl (by kernel_rfl) (by kernel_rfl) (by kernel_rfl) (by decide) (by decide) (by kernel_rfl) (by kernel_rfl) (fun _ _ _ h => h) (Or.inl ⟨by rfl, ?_⟩) hHeld inv (fun inv => ?_)
        rotate_left
        · intro w hSw
          try dsimp only at hSw
          go_simp
          try with_reducible rfl
        simp only [Act.put, List.setIfInBounds_toArray, List.set_cons_zero, List.set_cons_succ]
        refine anyT_take (i := 1) (oi := { dst := some 36, op := Op.nilCheck (Operand.tmp 35), type := 0, pos := "match.go:83", after := #[{ on := 0, ground := Ground.data }], guard := none }) (v := ?_) rfl (by kernel_rfl) (by kernel_rfl) (by kernel_rfl) (by decide) (by decide) (by kernel_rfl) (by kernel_rfl) (fun _ _ _ h => h) (Or.inl ⟨by rfl, ?_⟩) hHeld inv (fun inv => ?_)
        rotate_left
        · intro w hSw
          try dsimp only at hSw
          go_simp
          try with_reducible rfl
        simp only [Act.put, List.setIfInBounds_toArray, List.set_cons_zero, List.set_cons_succ]
        refine anyT_take (i := 2) (oi := { dst := some 37, op := Op.fieldAddr 63 (Operand.tmp 36) 1, type := 0, pos := "match.go:83", after := #[{ on := 1, ground := Ground.data }], guard := none }) (v := ?_) rfl (by kernel_rfl) (by kernel_rfl) (by kernel_rfl) (by decide) (by decide) (by kernel_rfl) (by kernel_rfl) (fun _ _ _ h => h) (Or.inl ⟨by rfl, ?_⟩) hHeld inv (fun inv => ?_)
        rotate_left
        · intro w hSw
          try dsimp only at hSw
          go_simp
          try with_reducible rfl
        simp only [Act.put, List.setIfInBounds_toArray, List.set_cons_zero, List.set_cons_succ]
        refine anyT_take (i := 3) (oi := { dst := some 38, op := Op.load 58 (Operand.tmp 37), type := 58, pos := "match.go:83", after := #[{ on := 2, ground := Ground.data }], guard := none }) (v := ?_) rfl (by kernel_rfl) (by kernel_rfl) (by kernel_rfl) (by decide) (by decide) (by kernel_rfl) (by kernel_rfl) (fun _ _ _ h => h) (Or.inl ⟨by rfl, ?_⟩) hHeld inv (fun inv => ?_)
        rotate_left
        · intro w hSw
          try dsimp only at hSw
          go_simp
          try with_reducible rfl
        simp only [Act.put, List.setIfInBounds_toArray, List.set_cons_zero, List.set_cons_succ]
        refine anyT_take (i := 4) (oi := { dst := some 39, op := Op.move (Operand.tmp 7), type := 3, pos := "match.go:83", after := #[], guard := none }) (v := ?_) rfl (by kernel_rfl) (by kernel_rfl) (by kernel_rfl) (by decide) (by decide) (by kernel_rfl) (by kernel_rfl) (fun _ _ _ h => h) (Or.inl ⟨by rfl, ?_⟩) hHeld inv (fun inv => ?_)
        rotate_left
        · intro w hSw
          try dsimp only at hSw
          go_simp
          try with_reducible rfl
        simp only [Act.put, List.setIfInBounds_toArray, List.set_cons_zero, List.set_cons_succ]
        refine anyT_take (i := 5) (oi := { dst := some 40, op := Op.move (Operand.tmp 0), type := 57, pos := "match.go:83", after := #[], guard := none }) (v := ?_) rfl (by kernel_rfl) (by kernel_rfl) (by kernel_rfl) (by decide) (by decide) (by kernel_rfl) (by kernel_rfl) (fun _ _ _ h => h) (Or.inl ⟨by rfl, ?_⟩) hHeld inv (fun inv => ?_)
        rotate_left
        · intro w hSw
          try dsimp only at hSw
          go_simp
          try with_reducible rfl
        simp only [Act.put, List.setIfInBounds_toArray, List.set_cons_zero, List.set_cons_succ]
        refine anyT_take (i := 6) (oi := { dst := some 41, op := Op.nilCheck (Operand.tmp 40), type := 0, pos := "match.go:83", after := #[{ on := 5, ground := Ground.data }], guard := none }) (v := ?_) rfl (by kernel_rfl) (by kernel_rfl) (by kernel_rfl) (by decide) (by decide) (by kernel_rfl) (by kernel_rfl) (fun _ _ _ h => h) (Or.inl ⟨by rfl, ?_⟩) hHeld inv (fun inv => ?_)
        rotate_left
        · intro w hSw
          try dsimp only at hSw
          go_simp
          try with_reducible rfl
        simp only [Act.put, List.setIfInBounds_toArray, List.set_cons_zero, List.set_cons_succ]
        refine anyT_take (i := 7) (oi := { dst := some 42, op := Op.fieldAddr 63 (Operand.tmp 41) 2, type := 0, pos := "match.go:83", after := #[{ on := 6, ground := Ground.data }], guard := none }) (v := ?_) rfl (by kernel_rfl) (by kernel_rfl) (by kernel_rfl) (by decide) (by decide) (by kernel_rfl) (by kernel_rfl) (fun _ _ _ h => h) (Or.inl ⟨by rfl, ?_⟩) hHeld inv (fun inv => ?_)
        rotate_left
        · intro w hSw
          try dsimp only at hSw
          go_simp
          try with_reducible rfl
        simp only [Act.put, List.setIfInBounds_toArray, List.set_cons_zero, List.set_cons_succ]
        refine anyT_take (i := 8) (oi := { dst := some 43, op := Op.load 3 (Operand.tmp 42), type := 3, pos := "match.go:83", after := #[{ on := 7, ground := Ground.data }], guard := none }) (v := ?_) rfl (by kernel_rfl) (by kernel_rfl) (by kernel_rfl) (by decide) (by decide) (by kernel_rfl) (by kernel_rfl) (fun _ _ _ h => h) (Or.inl ⟨by rfl, ?_⟩) hHeld inv (fun inv => ?_)
        rotate_left
        · intro w hSw
          try dsimp only at hSw
          go_simp
          try with_reducible rfl
        simp only [Act.put, List.setIfInBounds_toArray, List.set_cons_zero, List.set_cons_succ]
        refine anyT_take (i := 9) (oi := { dst := some 44, op := Op.binOp BinOp.add 3 (Operand.tmp 43) (Operand.const (Value.int IntKind.i64 1)) 3, type := 3, pos := "match.go:83", after := #[{ on := 8, ground := Ground.data }], guard := none }) (v := ?_) rfl (by kernel_rfl) (by kernel_rfl) (by kernel_rfl) (by decide) (by decide) (by kernel_rfl) (by kernel_rfl) (fun _ _ _ h => h) (Or.inl ⟨by rfl, ?_⟩) hHeld inv (fun inv => ?_)
        rotate_left
        · intro w hSw
          try dsimp only at hSw
          go_simp
          try with_reducible rfl
        simp only [Act.put, List.setIfInBounds_toArray, List.set_cons_zero, List.set_cons_succ]
        refine anyT_take (i := 10) (oi := { dst := some 45, op := Op.indexAddr 58 (Operand.tmp 38) (Operand.tmp 39), type := 0, pos := "match.go:83", after := #[{ on := 3, ground := Ground.data }, { on := 4, ground := Ground.data }, { on := 0, ground := Ground.phase }, { on := 1, ground := Ground.phase }, { on := 2, ground := Ground.phase }, { on := 3, ground := Ground.phase }, { on := 4, ground := Ground.phase }, { on := 5, ground := Ground.phase }, { on := 6, ground := Ground.phase }, { on := 7, ground := Ground.phase }, { on := 8, ground := Ground.phase }, { on := 9, ground := Ground.phase }], guard := none }) (v := ?_) rfl (by kernel_rfl) (by kernel_rfl) (by kernel_rfl) (by decide) (by decide) (by kernel_rfl) (by kernel_rfl) (fun _ _ _ h => h) (Or.inl ⟨by rfl, ?_⟩) hHeld inv (fun inv => ?_)
        rotate_left
        · intro w hSw
          try dsimp only at hSw
          go_simp
          try with_reducible rfl
        simp only [Act.put, List.setIfInBounds_toArray, List.set_cons_zero, List.set_cons_succ]
        have hmk := (bx sg).trans HS.out.ms.marks
        obtain ⟨w5, e5⟩ : ∃ w5, wd.setCell ⟨sg, p, none⟩ (.int .i64 ((now : Int) + 1)) = w5 := ⟨_, rfl⟩
        have hm5 : w5.heap[sg]? = some (.cells (ints (seen2.set p (now + 1))).toArray 3 (0, 0)) := by
          rw [← e5, heap_setCell_same wd sg p _ 3 _ hmk]
          congr 2
          simp [ints, List.map_set]
        have g5 : ∀ g : Nat, g ≠ sg → w5.heap[g]? = wr.heap[g]? := fun g hg => by rw [← e5]; exact (Below.heap_setCell wd ⟨sg, p, none⟩ _ g hg).trans (bx g)
        have s5 : w5.heap.size = wr.heap.size := by rw [← e5]; simp [hsd]
        have o5 : w5.os = wr.os ∧ w5.tape = wr.tape ∧ w5.output = wr.output := by rw [← e5]; exact ⟨hbd.os, hbd.tape, hbd.output⟩
        have hwr : IntKind.i64.wrap ((now : Int) + 1) = (now : Int) + 1 := by rw [IntKind.wrap_i64]; omega
        refine anyT_one (i := 11) (o := { dst := none, op := Op.store 3 (Operand.tmp 45) (Operand.tmp 44), type := 0, pos := "match.go:83", after := #[{ on := 10, ground := Ground.data }, { on := 9, ground := Ground.data }, { on := 0, ground := Ground.phase }, { on := 1, ground := Ground.phase }, { on := 2, ground := Ground.phase }, { on := 3, ground := Ground.phase }, { on := 4, ground := Ground.phase }, { on := 5, ground := Ground.phase }, { on := 6, ground := Ground.phase }, { on := 7, ground := Ground.phase }, { on := 8, ground := Ground.phase }, { on := 9, ground := Ground.phase }], guard := none }) (by kernel_rfl) rfl (fun K' hK => ?_)
        go_simp
        refine hK.out _ _ (fun h => absurd h (by decide)) ?_
        clear hK K'
        try simp only [Act.put, List.setIfInBounds_toArray, List.set_cons_zero, List.set_cons_succ]
        refine anyT_done (by kernel_rfl) ?_ _
        clear hwr
        have hF5 : FF BD sg wr w5 := ⟨o5.1, o5.2.1, o5.2.2, by omega, fun g hg hn => g5 g hn⟩
        have hra5 : w5.ownsRow BD 3 1 u1 at2.length (ints at2) := owns_kept HS.out.ra (fun g hg => g5 g (by have := (HS.out.ra.lt g hg).1; omega))
        have hrm5 : w5.ownsRow BD 3 1 (.slice (some ⟨mg, 0, none⟩) mm.length mc) mm.length (ints mm) := owns_kept HPOP.out (fun g hg => g5 g (by have := (HPOP.out.lt g hg).1; omega))
        have hfa : at2.length ≤ 100000000 := by omega
        obtain ⟨i0, hi, hq0, hq1, hq2⟩ := info_parts info3
        clear e0 e1 e2 es gs hwd hmk inv hHeld e5 bx g5 o5 hbd hsd
        have HF5 := hid hF5
        have HM5 := hid hm5
        have HRM5 := hid hrm5
        clear hF5 hm5
        obtain ⟨w6, e6⟩ : ∃ w6, w5.alloc (.cells #[.int .i64 (p : Int)] 3) = w6 := ⟨_, rfl⟩
        have hb6 : Below w5.heap.size w5 w6 := by rw [← e6]; exact (Below.refl _ _).alloc (Nat.le_refl _) _
        have hn6 : w6.heap[w5.heap.size]? = some (.cells #[.int .i64 (p : Int)] 3 (0, 0)) := by rw [← e6]; exact new_block _ _
        have s6 : w6.heap.size = w5.heap.size + 1 := by rw [← e6]; simp
        have hra6 := owns_kept hra5 (fun g hg => hb6.block g (hra5.lt g hg).2)
        have hrm6 := owns_kept hrm5 (fun g hg => hb6.block g (hrm5.lt g hg).2)
        go_wp2_with (at_builtin; refine wpList_append_own_at _ rfl (.tmp 46) (.tmp 48) 58 rfl BD 3 i0 (.int .i64 0) 1 8 Try.underlying58 hi hq0 hq1 hq2 rfl (by decide) u1 at2.length (ints at2) rfl hra6 ⟨w5.heap.size, 0, none⟩ 1 1 [.int .i64 (p : Int)] ?c0 rfl ?c1 ?c2 ?c3 ?c4 ?c5 ?_)
        case c0 => first | rfl | simp [Act.eval, s5]
        case c1 =>
          intro j v hj
          have := Lib.cell_of_heap hn6 j
          rw [show (⟨w5.heap.size, 0, none⟩ : Addr).add j = ⟨w5.heap.size, j, none⟩ by simp [Addr.add]; omega]
          rw [this, ← hj]
          simp
        case c2 => intro v hv; simp at hv; rcases hv with rfl; rfl
        case c3 => unfold maxLen; omega
        case c4 => omega
        case c5 => omega
        intro av' w7 hown7 hgrow7 hnil7 hat7
        have s7 := hgrow7.size
        have hra7 : w7.ownsRow BD 3 1 av' (at2 ++ [p]).length (ints (at2 ++ [p])) := by rw [List.length_append, ints_app]; exact hown7
        have hav7 : av'.ownBlock = u1.ownBlock ∨ av'.ownBlock = some (wr.heap.size + 1) := hat7
        have hnem : ∀ g, u1.ownBlock = some g → g ≠ mg := fun g hg e => HS.out.ne g hg (by rw [e]; rfl)
        have hrm7 : w7.ownsRow BD 3 1 (.slice (some ⟨mg, 0, none⟩) mm.length mc) mm.length (ints mm) := owns_kept hrm6 (fun g hg => by
          obtain rfl := Option.some.inj hg
          exact hgrow7.block mg (hrm6.lt mg rfl).2 (fun e => hnem mg e.symm rfl))
        have hb67 : Below BD w6 w7 := (Below.refl BD w6).grown hgrow7 (by omega) (fun q hq => (hra6.lt q hq).1)
        have hF7 : FF BD sg wr w7 := HF5.out.trans (FF.ofBelow ((hb6.mono (by omega)).trans hb67))
        have hm7 : w7.heap[sg]? = some (.cells (ints (seen2.set p (now + 1))).toArray 3 (0, 0)) := (hb67.block sg hsg).trans ((hb6.block sg (by omega)).trans HM5.out)
        have hms7 := HS.out.ms.ff (seen' := seen2.set p (now + 1)) hF7 hBS hm7 (by simp [HS.out.ms.lenS])
        have c0 : w7.cell? ⟨m, 0, none⟩ = some (.slice (some ⟨pg, 0, none⟩) P.length cap) := by rw [Lib.cell_of_heap hms7.box]; rfl
        have c7 : w7.cell? ⟨pg, p * 8 + 7, none⟩ = some avp := (hms7.pls p pl avp hP hA 7 (by decide)).trans (plc7 _ _)
        have hcap := hms7.cap_
        have hal := X3.muS_set P seen2 (now + 1) p pl hP HS.out.ms.lenS hxn
        have hfewn : mm.length + pl.also.length ≤ 100000000 := by omega
        have HG := hid hgk
        have HRA := hid hra7
        have HRM := hid hrm7
        have HMS := hid hms7
        have HF7 := hid hF7
        have HM7 := hid hm7
        have HAV := hid hav7
        have HNE := hid hnem
        clear hra7 hrm7 hms7 hF7 hm7 hav7 hnem hown7 hgrow7 hnil7 hat7 hra5 hrm5 hra6 hrm6 hb6 hb67 hgk e6 hn6
        rcases HMS.out.also p pl avp hP hA with ⟨hnil, rfl⟩ | ⟨ag, ac, rfl, hag, hags, hcell⟩
        · have HN := hid hnil
          clear hnil
          go_wp2_with (at_builtin; refine wpList_append_own_none rfl (.tmp 50) (.tmp 58) 58 rfl BD 3 i0 1 Try.underlying58 hi _ mm.length (ints mm) rfl HRM.out rfl ?_)
          go_wp2_with fail
          have hmk := HS.out.marked HT.out hP hxn hBS HF7.out HM7.out HRA.out (mv' := .slice (some ⟨mg, 0, none⟩) mm.length mc) (by rw [HN.out, List.append_nil]; exact HRM.out) (fun g hg e => by
              have e1 : mg = g := Option.some.inj e
              rcases HAV.out with h | h
              · exact HNE.out g (by rw [← h]; exact hg) e1.symm
              · rw [h] at hg; have := Option.some.inj hg; have := (HRM.out.lt mg rfl).2; have h9 := (HPOP.out.lt mg rfl).2; omega)
          have h2 := hmk.2
          go_roundg (gk - 2)
          case measure => omega
          case rel => exact ⟨_, _, _, hmk.1⟩
        · have HCELL := hid hcell
          clear hcell
          go_wp2_with (at_builtin; refine wpList_append_own_at _ rfl (.tmp 50) (.tmp 58) 58 rfl BD 3 i0 (.int .i64 0) 1 8 Try.underlying58 hi hq0 hq1 hq2 rfl (by decide) _ mm.length (ints mm) rfl HRM.out ⟨ag, 0, none⟩ pl.also.length ac (ints pl.also) rfl (by simp) ?c1 ?c2 ?c3 ?c4 ?c5 ?_)
          case c1 =>
            intro j v hj
            rw [show (⟨ag, 0, none⟩ : Addr).add j = ⟨ag, j, none⟩ by simp [Addr.add]; omega]
            rw [List.getElem?_map] at hj
            cases hq : pl.also[j]? with
            | none => rw [hq] at hj; cases hj
            | some q => rw [hq] at hj; simp at hj; subst hj; exact HCELL.out j q hq
          case c2 => intro v hv; simp at hv; obtain ⟨q, _, rfl⟩ := hv; rfl
          case c3 => unfold maxLen; omega
          case c4 => omega
          case c5 => omega
          intro mv' w8 hown8 hgrow8 hnil8 hat8
          have hb78 : Below BD w7 w8 := (Below.refl BD w7).grown hgrow8 (by omega) (fun q hq => (HRM.out.lt q hq).1)
          have hra8 := owns_kept HRA.out (fun g hg => hgrow8.block g (HRA.out.lt g hg).2 (fun e => by
              have e1 : g = mg := Option.some.inj e
              rcases HAV.out with h | h
              · exact HNE.out g (by rw [← h]; exact hg) e1
              · rw [h] at hg; have := Option.some.inj hg; have h9 := (HPOP.out.lt mg rfl).2; omega))
          have hmk := HS.out.marked HT.out hP hxn hBS (HF7.out.trans (FF.ofBelow hb78)) ((hb78.block sg hsg).trans HM7.out) hra8 (mv' := mv') (by rw [List.length_append, ints_app]; exact hown8) (fun g hg e => by
              rcases hat8 with h8 | h8
              · rw [h8] at e
                have e1 : mg = g := Option.some.inj e
                rcases HAV.out with h | h
                · exact HNE.out g (by rw [← h]; exact hg) e1.symm
                · rw [h] at hg; have := Option.some.inj hg; have h9 := (HPOP.out.lt mg rfl).2; omega
              · rw [h8] at e; have e1 := Option.some.inj e; have := (HRA.out.lt g hg).2; omega)
          have HMK := hid hmk
          clear hmk hown8 hgrow8 hnil8 hat8 hra8
          go_wp2_with fail
          have h2 := HMK.out.2
          go_roundg (gk - 2)
          case measure => omega
          case rel => exact ⟨_, _, _, HMK.out.1⟩

end Go.Proofs.Ytndefngkkikkeaa
