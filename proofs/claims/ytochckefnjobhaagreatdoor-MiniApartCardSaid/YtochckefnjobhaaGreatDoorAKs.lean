/- Layer 6: the document's example, in plain mathematics. -/
import Derived.Test.YtochckefnjobhaaGreatDoorAKo
import Derived.Deep.Slices
import Derived.OpenShut
import Derived.ChangeSame
import Derived.Lib.SmallJoins
namespace Go.Proofs.YtochckefnjobhaaGreatDoor
open Go Go.RowKit Go.Lib
open X3 (RX Pl)
open X5 (Aut)
set_option linter.unusedVariables false
set_option linter.unusedSimpArgs false
abbrev exM : List RX := [.alt [exA, exB]]
abbrev txA : ByteArray := ⟨#[97, 124, 98]⟩
abbrev txB : ByteArray := ⟨#[91, 97, 93, 124, 91, 98, 93]⟩
theorem ex_p1 : X3.parseX [97, 124, 98] = .inr (.alt [exA, exB]) := by rfl
theorem ex_p2 : X3.parseX [91, 97, 93, 124, 91, 98, 93] = .inr (.alt [exA, exB]) := by rfl
theorem ex_p3 : X3.parseX [97] = .inr exA := by rfl
theorem ex_p4 : X3.parseX [40] = .inl 5 := by rfl
theorem pe1 : parsesX [txA] = .inr exM := by
 have : peX txA = some (.alt [exA, exB]) := by
  unfold peX
  rw [show LL txA = [97, 124, 98] from rfl, ex_p1]
 simp only [parsesX, this]
theorem pe2 : parsesX [txB] = .inr exM := by
 have : peX txB = some (.alt [exA, exB]) := by
  unfold peX
  rw [show LL txB = [91, 97, 93, 124, 91, 98, 93] from rfl, ex_p2]
 simp only [parsesX, this]
theorem pe3 : parsesX [⟨#[97]⟩, ⟨#[40]⟩] = .inl 5 := by
 have h1 : peX ⟨#[97]⟩ = some exA := by
  unfold peX
  rw [show LL ⟨#[97]⟩ = [97] from rfl, ex_p3]
 have h2 : peX ⟨#[40]⟩ = none := by
  unfold peX
  rw [show LL ⟨#[40]⟩ = [40] from rfl, ex_p4]
  rfl
 have h3 : erX ⟨#[40]⟩ = 5 := by
  unfold erX
  rw [show LL ⟨#[40]⟩ = [40] from rfl, ex_p4]
 simp only [parsesX, h1, h2, h3]
theorem exM_few : ¬ many exM := by
 unfold many
 decide
theorem exM_big : ¬ Big exM := not_big (by decide +kernel)
theorem exM_fs : X5.fsX (clsX exM) 256 = [0, 97, 98] := by decide +kernel
theorem exM_cls : (clsX exM).getD 0 0 = 0 ∧ (clsX exM).getD 97 0 = 1 ∧ (clsX exM).getD 98 0 = 2 := by decide +kernel
theorem mt_alt {s : List UInt8} : X3.Mt (.alt [exA, exB]) s ↔ s = [97] ∨ s = [98] := by
 constructor
 ·intro h
  cases h with
  | alt _ r _ hr h =>
   rcases List.mem_cons.1 hr with rfl | hr
   ·exact .inl (mt_a h)
   ·rcases List.mem_cons.1 hr with rfl | hr
    ·exact .inr (mt_b h)
    ·cases hr
 ·rintro (rfl | rfl)
  ·exact .alt _ _ _ (by simp) mt_a'
  ·exact .alt _ _ _ (by simp) mt_b'
theorem exM_run (s : List UInt8) : RunR exM s (if s = [97] ∨ s = [98] then 1 else 0) := by
 refine ⟨by split <;> decide, fun i => ?_⟩
 by_cases h : s = [97] ∨ s = [98]
 ·rw [if_pos h, bit1]
  constructor
  ·rintro rfl; exact ⟨_, rfl, mt_alt.2 h⟩
  ·rintro ⟨r, hr, _⟩
   match i, hr with
   | 0, _ => rfl
 ·rw [if_neg h, Nat.zero_testBit]
  constructor
  ·intro h; cases h
  ·rintro ⟨r, hr, hm⟩
   match i, hr with
   | 0, hr => simp at hr; subst hr; exact absurd (mt_alt.1 hm) h
@[irreducible] def exC : List Int := (clsX exM).map fun (n : Nat) => (n : Int)
theorem exC_eq : exC = (clsX exM).map fun (n : Nat) => (n : Int) := by unfold exC; with_reducible rfl
theorem exC_mem {c : Int} (hc : c ∈ exC) : 0 ≤ c ∧ c < 3 := by
 rw [exC_eq] at hc
 obtain ⟨n, hn, rfl⟩ := List.mem_map.1 hc
 have hl : (clsX exM).length = 256 := (cls_good exM).1
 have hf := X5.fs_all (cls_first exM) 256 (Nat.le_of_eq hl.symm)
 obtain ⟨j, hj⟩ := List.mem_iff_getElem?.1 hn
 have hjl := (List.getElem?_eq_some_iff.1 hj).1
 have h3 := hf.1 j (hl ▸ hjl)
 rw [List.getD_eq_getElem?_getD, hj, exM_fs] at h3
 have h4 : n < 3 := h3
 exact ⟨Int.natCast_nonneg n, by omega⟩
theorem exC_98 : exC.getD 98 0 = 2 := by
 have h := exM_cls.2.2
 rw [exC_eq]
 rw [List.getD_eq_getElem?_getD] at h ⊢
 rw [List.getElem?_map]
 generalize (clsX exM)[98]? = o at h ⊢
 cases o with
 | none => simp at h
 | some v => simp at h; subst h; rfl
def exE : Aut := ⟨exC, [[-1, 1, 1], [-1, -1, -1]], [0, 1]⟩
theorem exE_ok : X6.Ok exE 3 where
 some_ := by simp [exE]
 tags := rfl
 rows i hi := by
  have : i = 0 ∨ i = 1 := by simp [exE] at hi; omega
  rcases this with rfl | rfl <;> rfl
 ends i hi x hx := by
  have : i = 0 ∨ i = 1 := by simp [exE] at hi; omega
  show -1 ≤ x ∧ x < 2
  rcases this with rfl | rfl
  ·have : x ∈ [-1, 1, 1] := hx
   simp at this; omega
  ·have : x ∈ [-1, -1, -1] := hx
   simp at this; omega
theorem exE_stp1 {c : Nat} (hc : c < 3) : X6.stp exE 1 c = -1 := by
 have : c = 0 ∨ c = 1 ∨ c = 2 := by omega
 rcases this with rfl | rfl | rfl <;> rfl
theorem exE_tg (w : List Nat) (hw : ∀ c ∈ w, c < 3) : X6.tg exE (X6.col exE w 0) = if w = [1] ∨ w = [2] then 1 else 0 := by
 match w, hw with
 | [], _ => rfl
 | [c], hw =>
  have hc := hw c (by simp)
  have : c = 0 ∨ c = 1 ∨ c = 2 := by omega
  rcases this with rfl | rfl | rfl <;> rfl
 | c :: d :: v, hw =>
  have hc := hw c (by simp)
  have hd := hw d (by simp)
  have e : X6.stp exE (X6.stp exE 0 c) d = -1 := by
   have : c = 0 ∨ c = 1 ∨ c = 2 := by omega
   rcases this with rfl | rfl | rfl
   ·rfl
   ·exact exE_stp1 hd
   ·exact exE_stp1 hd
  rw [X6.col, X6.col, e, if_neg (by simp)]
  unfold X6.tg
  rw [if_pos (X6.col_neg exE v (-1) (by decide))]
theorem exE_live0 : X6.Live 3 exE 0 := ⟨[1], by simp, by rw [exE_tg [1] (by simp)]; decide⟩
theorem exE_live1 : X6.Live 3 exE 1 := ⟨[], by simp, by show X6.tg exE 1 ≠ 0; decide⟩
theorem exE_blk : X6.Blk 3 exE [0, 1] where
 len := rfl
 dead x hx := by
  have : x = 0 ∨ x = 1 := by simp [exE] at hx; omega
  rcases this with rfl | rfl
  ·exact ⟨fun e => by simp at e, fun h => absurd exE_live0 h⟩
  ·exact ⟨fun e => by simp at e, fun h => absurd exE_live1 h⟩
 same x y hx hy _ _ := by
  have h1 : x = 0 ∨ x = 1 := by simp [exE] at hx; omega
  have h2 : y = 0 ∨ y = 1 := by simp [exE] at hy; omega
  rcases h1 with rfl | rfl <;> rcases h2 with rfl | rfl
  ·exact ⟨fun _ => X6.Eqv.refl _ _ _, fun _ => rfl⟩
  ·refine ⟨fun e => by simp at e, fun e => ?_⟩
   have : X6.tg exE 0 = X6.tg exE 1 := e.tg
   exact absurd this (by decide)
  ·refine ⟨fun e => by simp at e, fun e => ?_⟩
   have : X6.tg exE 1 = X6.tg exE 0 := e.tg
   exact absurd this (by decide)
  ·exact ⟨fun _ => X6.Eqv.refl _ _ _, fun _ => rfl⟩
theorem exE_isJ : X6.IsJ exE [0, 1] exE [0, 1] := ⟨rfl, 2, rfl⟩
theorem sets_col {L : List RX} {A0 : List Nat} {D : Aut} {SS : List (List Nat)} (h : Sets L A0 D SS) (hv : X6.Vd D) (h0 : AtN L [] A0) (w : List Nat) (hw : ∀ c ∈ w, c < (Fx L).length) {R : Nat} (hR : RunR L (w.map fun c => UInt8.ofNat ((Fx L).getD c 0)) R) : X6.tg D (X6.col D w 0) = R := by
 have hf := X5.fs_all (cls_first L) 256 (by have := (cls_good L).1; exact Nat.le_of_eq this.symm)
 have hl : (clsX L).length = 256 := (cls_good L).1
 have hcl : ∀ c, c < (Fx L).length → ((D.cls.getD (UInt8.ofNat ((Fx L).getD c 0)).toNat 0).toNat = c) := by
  intro c hc
  obtain ⟨i, h1, h2, h3⟩ := hf.2 c hc
  have e1 : (Fx L).getD c 0 = i := by rw [List.getD_eq_getElem?_getD]; show ((X5.fsX (clsX L) 256)[c]?).getD 0 = i; rw [h1]; rfl
  have e2 : (UInt8.ofNat i).toNat = i := by rw [UInt8.toNat_ofNat']; omega
  rw [e1, e2, h.cls, List.getD_eq_getElem?_getD, List.getElem?_map, List.getElem?_eq_getElem (by omega)]
  rw [List.getD_eq_getElem?_getD, List.getElem?_eq_getElem (by omega)] at h3
  show ((clsX L)[i] : Int).toNat = c
  rw [Int.toNat_natCast]
  exact h3
 have hK : (X5.rowOf D 0).length = (Fx L).length := (h.rows 0 A0 h.begin_).1
 have hrc := X6.run_col hv.ok (fun b hb => by
  have := hv.cls (D.cls.getD b 0) (X6.getD_mem (by rw [h.cls, List.length_map, hl]; exact hb))
  exact this) (w.map fun c => UInt8.ofNat ((Fx L).getD c 0))
 rw [sets_run h h0 _ hR, List.map_map] at hrc
 rw [hrc]
 congr 2
 refine (List.map_id w).symm.trans (List.map_congr_left fun c hc => ?_)
 exact (hcl c (hw c hc)).symm
theorem exM_Fx : Fx exM = [0, 97, 98] := exM_fs
theorem ex_is {A0 : List Nat} {D : Aut} {SS : List (List Nat)} {Bk : List Int} {M : Aut} {st : List Nat} (h : Sets exM A0 D SS) (hv : X6.Vd D) (h0 : AtN exM [] A0) (hb : X6.Blk (X5.rowOf D 0).length D Bk) (hj : X6.IsJ D Bk M st) : M = exE := by
 have hK : (X5.rowOf D 0).length = 3 := by rw [(h.rows 0 A0 h.begin_).1, exM_fs]; rfl
 have hok := hv.ok
 rw [hK] at hok hb
 refine X6.IsJ.one hok exE_ok hb exE_blk (fun w hw => ?_) (by rw [h.cls]; exact exC_eq.symm) hj exE_isJ
 rw [exE_tg w hw, sets_col h hv h0 w (by rw [exM_Fx]; exact hw) (exM_run _)]
 rw [exM_Fx]
 have hiff : ((w.map fun c => UInt8.ofNat ([0, 97, 98].getD c 0)) = [97] ∨ (w.map fun c => UInt8.ofNat ([0, 97, 98].getD c 0)) = [98]) ↔ (w = [1] ∨ w = [2]) := by
  match w, hw with
  | [], _ => simp
  | [c], hw =>
   have hc := hw c (by simp)
   have : c = 0 ∨ c = 1 ∨ c = 2 := by omega
   rcases this with rfl | rfl | rfl <;> decide
  | c :: d :: v, _ => simp
 by_cases hw2 : w = [1] ∨ w = [2]
 ·rw [if_pos (hiff.2 hw2), if_pos hw2]
 ·rw [if_neg (fun e => hw2 (hiff.1 e)), if_neg hw2]
theorem exE_row0 : (X5.rowOf exE 0).length = 3 := rfl
theorem ex_least {Bk : List Int} {M : Aut} {st : List Nat} (hb : X6.Blk (X5.rowOf exE 0).length exE Bk) (hj : X6.IsJ exE Bk M st) : M = exE :=
 X6.IsJ.one exE_ok exE_ok hb exE_blk (X6.Eqv.refl _ _ _) rfl hj exE_isJ
theorem exE_vd : X6.Vd exE := ⟨exE_ok, fun c hc => exC_mem (show c ∈ exC from hc)⟩
theorem exE_run : X5.runX exE [98] = 1 := by
 have e : X5.goX exE [98] 0 = 1 := by
  show X5.behX exE 0 98 = 1
  unfold X5.behX
  rw [show exE.cls.getD 98 0 = 2 from exC_98]
  rfl
 unfold X5.runX
 rw [e]
 rfl
end Go.Proofs.YtochckefnjobhaaGreatDoor

/- works06: the document's example. -/
namespace Go.Proofs.YtochckefnjobhaaGreatDoor
open Go Go.RowKit Go.Lib
open X3 (RX Pl)
open X5 (Aut)
set_option linter.unusedVariables false
set_option linter.unusedSimpArgs false
theorem one_textK {w : World} {text : ByteArray} (ht : text.size ≤ maxLen) {w' : World} (e : w.alloc (.cells #[.string text] 9) = w') : TextsAt w' (.slice (some ⟨w.heap.size, 0, none⟩) 1 1) [text] ∧ Below w.heap.size w w' := by
 have hb : Below w.heap.size w w' := by rw [← e]; exact (Below.refl _ _).alloc (Nat.le_refl _) _
 have hn : w'.heap[w.heap.size]? = some (.cells #[.string text] 9 (0, 0)) := by rw [← e]; exact new_block _ _
 refine ⟨⟨⟨some ⟨w.heap.size, 0, none⟩, 1, rfl, fun j hj => ⟨w.heap.size, 0, rfl, (Array.getElem?_eq_some_iff.1 hn).1, ?_⟩⟩, fun s hs => ?_, by unfold maxLen; simp⟩, hb⟩
 ·obtain rfl : j = 0 := by simpa using hj
  exact Lib.cell_of_heap hn 0
 ·rw [List.mem_singleton.1 hs]; exact ht
theorem two_texts {w : World} {s t : ByteArray} (hs : s.size ≤ maxLen) (ht : t.size ≤ maxLen) {w' : World} (e : w.alloc (.cells #[.string s, .string t] 9) = w') : TextsAt w' (.slice (some ⟨w.heap.size, 0, none⟩) 2 2) [s, t] ∧ Below w.heap.size w w' := by
 have hb : Below w.heap.size w w' := by rw [← e]; exact (Below.refl _ _).alloc (Nat.le_refl _) _
 have hn : w'.heap[w.heap.size]? = some (.cells #[.string s, .string t] 9 (0, 0)) := by rw [← e]; exact new_block _ _
 refine ⟨⟨⟨some ⟨w.heap.size, 0, none⟩, 2, rfl, fun j hj => ⟨w.heap.size, 0, rfl, (Array.getElem?_eq_some_iff.1 hn).1, ?_⟩⟩, fun x hx => ?_, by unfold maxLen; simp⟩, hb⟩
 ·have : j = 0 ∨ j = 1 := by simp at hj; omega
  rcases this with rfl | rfl
  ·exact Lib.cell_of_heap hn 0
  ·exact Lib.cell_of_heap hn 1
 ·rcases List.mem_cons.1 hx with rfl | hx
  ·exact hs
  ·rw [List.mem_singleton.1 hx]; exact ht
def Bxx (b : Nat) (dd : Array Value) (w : World) : Prop := w.heap[b]? = some (.cells dd 26 (0, 0))
theorem Bxx.lt {b : Nat} {dd : Array Value} {w : World} (h : Bxx b dd w) : b < w.heap.size := (Array.getElem?_eq_some_iff.1 h).1
theorem Bxx.below {b : Nat} {dd : Array Value} {w w' : World} (h : Bxx b dd w) (hb : Below w.heap.size w w') : Bxx b dd w' := (hb.block _ h.lt).trans h
theorem kept_new (w : World) (dd : Array Value) : ∃ w', (w.alloc (.cells dvz 26)).setRow w.heap.size dd = w' ∧ Bxx w.heap.size dd w' ∧ Below w.heap.size w w' ∧ w'.heap.size = w.heap.size + 1 :=
 ⟨_, rfl, setRow_heap _ _ dvz dd 26 (0, 0) (new_block w (.cells dvz 26)), row_below ((Below.refl _ _).alloc (Nat.le_refl _) _) (Nat.le_refl _), by simp [World.setRow]⟩
def Ex (dd : Array Value) (w : World) : Prop := ∃ nv tv, dd = dval exE nv tv ∧ DAt w nv tv exE
theorem Ex.below {dd : Array Value} {w w' : World} (h : Ex dd w) (hb : Below w.heap.size w w') : Ex dd w' := by
 obtain ⟨nv, tv, e, h⟩ := h
 exact ⟨nv, tv, e, h.below hb⟩
theorem Ex.sz {dd : Array Value} {w : World} (h : Ex dd w) : dd.size = 258 ∧ dd.all (·.oneCell') = true ∧ ∃ o c, dd[256]? = some (.slice o 2 c) := by
 obtain ⟨nv, tv, rfl, h⟩ := h
 obtain ⟨o, c, hc⟩ := rows_shape h.rows
 refine ⟨dval_size h, dval_one' h, o, c, ?_⟩
 rw [dcell_next h.len, hc]
 rfl
theorem ex_of {l : List ByteArray} {w : World} {v : Value} (h : TextsAt w v l) (hl : l.length ≤ 1000) {Bt : Nat} (ht : Tab Bt w) (hBt : Bt ≤ w.heap.size) (hp : parsesX l = .inr exM) :
  Calls Tryz.prog 18 #[v] w fun e w' => ∃ dd, e = .returned (.tuple #[.agg dd, .int .i64 0]) ∧ Ex dd w' ∧ Below w.heap.size w w' := by
 refine (texts_any l w v h hl ht hBt).mono fun e w' hq => ?_
 obtain ⟨hb, hm⟩ := hq
 rw [hp] at hm
 rcases hm with ⟨hm | hm, _⟩ | ⟨D, SS, A0, Bk, M, st, nv, tv, _, h0, hS, _, hv, hblk, hj, rfl, hd⟩
 ·exact absurd hm exM_few
 ·exact absurd hm exM_big
 obtain rfl := ex_is hS hv h0 hblk hj
 exact ⟨_, rfl, ⟨nv, tv, rfl, hd.at_⟩, hb⟩
theorem bad_of {w : World} {v : Value} (h : TextsAt w v [⟨#[97]⟩, ⟨#[40]⟩]) {Bt : Nat} (ht : Tab Bt w) (hBt : Bt ≤ w.heap.size) :
  Calls Tryz.prog 18 #[v] w fun e w' => e = .returned (.tuple #[.agg dvz, .int .i64 5]) ∧ Below w.heap.size w w' := by
 refine (texts_any _ w v h (by simp) ht hBt).mono fun e w' hq => ?_
 obtain ⟨hb, hm⟩ := hq
 rw [pe3] at hm
 exact ⟨hm, hb⟩
theorem exE_few : exE.next.length ≤ 1000000 ∧ exE.tags.length ≤ 1000000 ∧ (X5.rowOf exE 0).length ≤ 1000000 ∧ exE.next.length * (X5.rowOf exE 0).length ≤ 1000000 := by
 rw [exE_row0, show exE.next.length = 2 from rfl, show exE.tags.length = 2 from rfl]
 omega
theorem ex_least_any {dd : Array Value} {w : World} (h : Ex dd w) : Calls Tryz.prog 13 #[.agg dd] w fun e w' => ∃ de, e = .returned (.tuple #[.agg de, .int .i64 0]) ∧ Ex de w' ∧ Below w.heap.size w w' := by
 obtain ⟨nv, tv, rfl, h⟩ := h
 refine (least_any h exE_few.1 exE_few.2.1 exE_few.2.2.1 exE_few.2.2.2).mono fun e w' hq => ?_
 rcases hq with ⟨hn, _⟩ | ⟨_, Bk, M, st, nv', tv', rfl, hb, hj, hd, hbl⟩
 ·exact absurd exE_vd hn
 obtain rfl := ex_least hb hj
 exact ⟨_, rfl, ⟨nv', tv', rfl, hd.at_⟩, hbl⟩
theorem ex_same {dd de : Array Value} {w : World} (h : Ex dd w) (g : Ex de w) : Calls Tryz.prog 23 #[.agg dd, .agg de] w fun e w' => e = .returned (.bool true) ∧ Below w.heap.size w w' := by
 obtain ⟨nv, tv, rfl, h⟩ := h
 obtain ⟨nu, tu, rfl, g⟩ := g
 refine (same_any h g).mono fun e w' hq => ?_
 rw [sameX_eq.2 rfl] at hq
 exact hq
theorem ex_live0 {dd : Array Value} {w : World} (h : Ex dd w) : Calls Tryz.prog 16 #[.agg dd, .int .i64 0] w fun e w' => e = .returned (.bool true) ∧ Below w.heap.size w w' := by
 obtain ⟨nv, tv, rfl, h⟩ := h
 refine (liveAt_any h exE_few.1 exE_few.2.1 exE_few.2.2.2 0).mono fun e w' hq => ?_
 obtain ⟨b, rfl, hb, hbl⟩ := hq
 have : b = true := hb.2 ⟨exE_vd, by decide, by decide, by rw [exE_row0]; exact exE_live0⟩
 rw [this]
 exact ⟨rfl, hbl⟩
theorem ex_live2 {dd : Array Value} {w : World} (h : Ex dd w) : Calls Tryz.prog 16 #[.agg dd, .int .i64 2] w fun e w' => e = .returned (.bool false) ∧ Below w.heap.size w w' := by
 obtain ⟨nv, tv, rfl, h⟩ := h
 refine (liveAt_any h exE_few.1 exE_few.2.1 exE_few.2.2.2 2).mono fun e w' hq => ?_
 obtain ⟨b, rfl, hb, hbl⟩ := hq
 have : b = false := by
  cases b with
  | false => rfl
  | true => exact absurd (hb.1 rfl).2.2.1 (by decide)
 rw [this]
 exact ⟨rfl, hbl⟩
theorem ex_run_any {dd : Array Value} {w : World} (h : Ex dd w) : Calls Tryz.prog 24 #[.agg dd, .string { data := #[98] }] w fun e w' => e = .returned (.int .u64 1) ∧ Below w.heap.size w w' := by
 obtain ⟨nv, tv, rfl, h⟩ := h
 refine (run_dfa h { data := #[98] } (by decide)).mono fun e w' hq => ?_
 rw [show LL ({ data := #[98] } : ByteArray) = [98] from rfl, exE_run] at hq
 exact hq
set_option maxRecDepth 100000 in
set_option maxHeartbeats 16000000 in
theorem works06 (w : World) {Bt : Nat} (ht : Tab Bt w) (hBt : Bt ≤ w.heap.size) : Calls Tryz.prog 11 #[] w fun e w' => e = .returned (.bool true) ∧ Below w.heap.size w w' := by
 have HTab := hid ht
 clear ht
 obtain ⟨w1, e1⟩ : ∃ w1, w.alloc (.cells #[.string { data := #[97, 124, 98] }] 9) = w1 := ⟨_, rfl⟩
 obtain ⟨hT1, hb1⟩ := one_textK (text := { data := #[97, 124, 98] }) (by decide) e1
 have HB1 := hid hb1
 have K := hid (ex_of hT1 (by simp) (HTab.out.on (hb1.mono hBt)) (Nat.le_trans hBt hb1.size) pe1)
 clear hT1 hb1
 go_enter Tryz.func11, Tryz.ntmps11
 go_wp2_with fail
 clear e1
 refine K.out.mono ?_
 rintro e wr1 ⟨d1, rfl, hE, hb⟩
 clear K
 have HD1 := hid hE.sz
 have HN1 := hid (new_block wr1 (.cells dvz 26))
 obtain ⟨ws1, es1, hx, hbs, hss⟩ := kept_new wr1 d1
 have HB1s := hid (HB1.out.trans ((hb.trans (hbs.mono hb.size)).mono HB1.out.size))
 have HX1 := hid (And.intro hx (hE.below hbs))
 obtain ⟨wt2, et2⟩ : ∃ wt2, ws1.alloc (.cells #[.string { data := #[91, 97, 93, 124, 91, 98, 93] }] 9) = wt2 := ⟨_, rfl⟩
 obtain ⟨hT, hbt⟩ := one_textK (text := { data := #[91, 97, 93, 124, 91, 98, 93] }) (by decide) et2
 have HBt2 := hid (HB1s.out.trans (hbt.mono HB1s.out.size))
 have HX1 := hid (And.intro (HX1.out.1.below hbt) (HX1.out.2.below hbt))
 have K := hid (ex_of hT (by simp) (HTab.out.on (HBt2.out.mono hBt)) (Nat.le_trans hBt HBt2.out.size) pe2)
 clear hE hx hb hbs hss hT hbt
 go_wp2_with (first | (with_reducible refine wpList_made30 rfl rfl ?_) | (with_reducible refine wpList_store30 rfl (.tmp 1) (.tmp 12) rfl wr1.heap.size rfl dvz d1 HN1.out rfl dvz_size HD1.out.1 HD1.out.2.1 ?_))
 clear es1 et2
 refine K.out.mono ?_
 rintro e wr2 ⟨d2, rfl, hE, hb⟩
 clear K
 have HD2 := hid hE.sz
 have HN2 := hid (new_block wr2 (.cells dvz 26))
 obtain ⟨ws2, es2, hx, hbs, hss⟩ := kept_new wr2 d2
 have HB2s := hid (HBt2.out.trans ((hb.trans (hbs.mono hb.size)).mono HBt2.out.size))
 have HX2 := hid (And.intro hx (hE.below hbs))
 have HX1 := hid (And.intro (HX1.out.1.below (hb.trans (hbs.mono hb.size))) (HX1.out.2.below (hb.trans (hbs.mono hb.size))))
 obtain ⟨wt3, et3⟩ : ∃ wt3, ws2.alloc (.cells #[.string { data := #[97] }, .string { data := #[40] }] 9) = wt3 := ⟨_, rfl⟩
 obtain ⟨hT, hbt⟩ := two_texts (s := { data := #[97] }) (t := { data := #[40] }) (by decide) (by decide) et3
 have HBt3 := hid (HB2s.out.trans (hbt.mono HB2s.out.size))
 have HX1 := hid (And.intro (HX1.out.1.below hbt) (HX1.out.2.below hbt))
 have HX2 := hid (And.intro (HX2.out.1.below hbt) (HX2.out.2.below hbt))
 have K := hid (bad_of hT (HTab.out.on (HBt3.out.mono hBt)) (Nat.le_trans hBt HBt3.out.size))
 clear hE hx hb hbs hss hT hbt
 go_wp2_with (first | (with_reducible refine wpList_made30 rfl rfl ?_) | (with_reducible refine wpList_store30 rfl (.tmp 3) (.tmp 17) rfl wr2.heap.size rfl dvz d2 HN2.out rfl dvz_size HD2.out.1 HD2.out.2.1 ?_))
 clear es2 et3
 refine K.out.mono ?_
 rintro e wr3 ⟨rfl, hb⟩
 clear K
 have HN3 := hid (new_block wr3 (.cells dvz 26))
 obtain ⟨ws3, es3, hx, hbs, hss⟩ := kept_new wr3 dvz
 have HB3s := hid (HBt3.out.trans ((hb.trans (hbs.mono hb.size)).mono HBt3.out.size))
 have HX1 := hid (And.intro (HX1.out.1.below (hb.trans (hbs.mono hb.size))) (HX1.out.2.below (hb.trans (hbs.mono hb.size))))
 have HX2 := hid (And.intro (HX2.out.1.below (hb.trans (hbs.mono hb.size))) (HX2.out.2.below (hb.trans (hbs.mono hb.size))))
 have K := hid (ex_least_any HX1.out.2)
 clear hx hb hbs hss
 go_wp2_with (first | (with_reducible refine wpList_made30 rfl rfl ?_) | (with_reducible refine wpList_store30 rfl (.tmp 5) (.tmp 22) rfl wr3.heap.size rfl dvz dvz HN3.out rfl dvz_size dvz_size dvz_one ?_))
 refine wp_load30' (.tmp 1) rfl wr1.heap.size rfl d1 HX1.out.1 HD1.out.1 ?_
 go_wp2_with fail
 clear es3
 refine K.out.mono ?_
 rintro e wr4 ⟨d4, rfl, hE, hb⟩
 clear K
 have HD4 := hid hE.sz
 have HN4 := hid (new_block wr4 (.cells dvz 26))
 obtain ⟨ws4, es4, hx, hbs, hss⟩ := kept_new wr4 d4
 have HB4s := hid (HB3s.out.trans ((hb.trans (hbs.mono hb.size)).mono HB3s.out.size))
 have HX4 := hid (And.intro hx (hE.below hbs))
 have HX1 := hid (And.intro (HX1.out.1.below (hb.trans (hbs.mono hb.size))) (HX1.out.2.below (hb.trans (hbs.mono hb.size))))
 have HX2 := hid (And.intro (HX2.out.1.below (hb.trans (hbs.mono hb.size))) (HX2.out.2.below (hb.trans (hbs.mono hb.size))))
 have K := hid (ex_same HX1.out.2 HX2.out.2)
 clear hE hx hb hbs hss
 go_wp2_with (first | (with_reducible refine wpList_made30 rfl rfl ?_) | (with_reducible refine wpList_store30 rfl (.tmp 7) (.tmp 27) rfl wr4.heap.size rfl dvz d4 HN4.out rfl dvz_size HD4.out.1 HD4.out.2.1 ?_))
 clear es4
 refine wp_load30' (.tmp 1) rfl wr1.heap.size rfl d1 HX1.out.1 HD1.out.1 ?_
 go_wp2_with fail
 refine wp_load30' (.tmp 3) rfl wr2.heap.size rfl d2 HX2.out.1 HD2.out.1 ?_
 go_wp2_with fail
 refine K.out.mono ?_
 rintro e w20 ⟨rfl, hb⟩
 clear K
 have HB20 := hid (HB4s.out.trans (hb.mono HB4s.out.size))
 have HX1 := hid (And.intro (HX1.out.1.below hb) (HX1.out.2.below hb))
 have HX2 := hid (And.intro (HX2.out.1.below hb) (HX2.out.2.below hb))
 have HX4 := hid (And.intro (HX4.out.1.below hb) (HX4.out.2.below hb))
 have K := hid (ex_same HX1.out.2 HX4.out.2)
 clear hb
 go_wp2_with fail
 refine wp_load30' (.tmp 1) rfl wr1.heap.size rfl d1 HX1.out.1 HD1.out.1 ?_
 go_wp2_with fail
 refine wp_load30' (.tmp 7) rfl wr4.heap.size rfl d4 HX4.out.1 HD4.out.1 ?_
 go_wp2_with fail
 refine K.out.mono ?_
 rintro e w21 ⟨rfl, hb⟩
 clear K
 have HB21 := hid (HB20.out.trans (hb.mono HB20.out.size))
 have HX1 := hid (And.intro (HX1.out.1.below hb) (HX1.out.2.below hb))
 have K := hid (ex_live0 HX1.out.2)
 obtain ⟨o1, c1, hd⟩ := HD1.out.2.2
 have c256 : w21.cell? ⟨wr1.heap.size, 256, none⟩ = some (.slice o1 2 c1) := (Lib.cell_of_heap HX1.out.1 256).trans hd
 clear hb hd
 go_wp2_with fail
 refine wp_load30' (.tmp 1) rfl wr1.heap.size rfl d1 HX1.out.1 HD1.out.1 ?_
 clear c256
 go_wp2_with fail
 refine K.out.mono ?_
 rintro e w22 ⟨rfl, hb⟩
 clear K
 have HB22 := hid (HB21.out.trans (hb.mono HB21.out.size))
 have HX1 := hid (And.intro (HX1.out.1.below hb) (HX1.out.2.below hb))
 have K := hid (ex_live2 HX1.out.2)
 clear hb
 go_wp2_with fail
 refine wp_load30' (.tmp 1) rfl wr1.heap.size rfl d1 HX1.out.1 HD1.out.1 ?_
 go_wp2_with fail
 refine K.out.mono ?_
 rintro e w23 ⟨rfl, hb⟩
 clear K
 have HB23 := hid (HB22.out.trans (hb.mono HB22.out.size))
 have HX1 := hid (And.intro (HX1.out.1.below hb) (HX1.out.2.below hb))
 have K := hid (ex_run_any HX1.out.2)
 clear hb
 go_wp2_with fail
 refine wp_load30' (.tmp 1) rfl wr1.heap.size rfl d1 HX1.out.1 HD1.out.1 ?_
 go_wp2_with fail
 refine K.out.mono ?_
 rintro e w24 ⟨rfl, hb⟩
 clear K
 have HB24 := hid (HB23.out.trans (hb.mono HB23.out.size))
 clear hb
 go_wp2_with fail
 go_ret
 exact ⟨rfl, HB24.out⟩
end Go.Proofs.YtochckefnjobhaaGreatDoor

/- An automaton that is handed in, as it lies in memory. -/
namespace Go.Proofs.YtochckefnjobhaaGreatDoor
open Go Go.RowKit Go.Lib Go.WideShapes Go.ChangeShapes Go.Deep
open X5 (Aut)
set_option linter.unusedVariables false
set_option linter.unusedSimpArgs false
section
variable {H : Type} {enc : TypeId × Value → H} {P : Program} {w : World} {base : Nat} {spare : Nat → Bool} {held : Bool}
theorem cell_plain {a : Addr} {v : Value} (h : w.cell? (a.add 0) = some v) : ∃ b off, a = ⟨b, off, none⟩ := by
 obtain ⟨b, off, spot⟩ := a
 have hspot : spot = none := by simpa [Addr.add] using World.cell?_spot h
 subst hspot
 exact ⟨b, off, rfl⟩
theorem open_block {t e : TypeId} {c fuel : Nat} {v : Value} {x : DataW H × List MemPlace} (ht : P.underlying t = some (.slice e)) (hc : P.cellsOf e = c) (h0 : 0 < c) (h : DataW.trod enc P w base spare held fuel t [v] = some x) :
  ∃ (a : Option Addr) (len cap : Nat) (V : Nat → Nat → Value), v = .slice a len cap ∧ len ≤ cap ∧ cap ≤ maxLen ∧ (0 < len → ∃ b off, a = some ⟨b, off, none⟩ ∧ ∀ i, i < len → ∀ j, j < c → w.cell? ⟨b, off + i * c + j, none⟩ = some (V i j)) ∧
   (∀ i, i < len → ∃ n y, DataW.trod enc P w base spare held n e ((List.range c).map (V i)) = some y) ∧ (a = none → cap = 0) := by
 rcases open_slice ht h with ⟨hcs, _⟩ | ⟨a, len, cap, m, n, D, Pl, hcs, hb, hl, hm, hmm, _, hx⟩
 ·simp only [List.cons.injEq, and_true] at hcs
  exact ⟨none, 0, 0, fun _ _ => undef, hcs, Nat.le_refl _, Nat.zero_le _, fun h => absurd h (Nat.lt_irrefl 0), fun i hi => absurd hi (Nat.not_lt_zero i), fun _ => rfl⟩
 ·simp only [List.cons.injEq, and_true] at hcs
  have hlm : len ≤ m := by rw [hmm]; split <;> omega
  obtain ⟨V, hV⟩ := choose_lt (α := Nat → Value) (n := len) (p := fun i f => (∀ j, j < c → w.cell? ((a.add (i * c)).add j) = some (f j)) ∧ DataW.trod enc P w base spare held n e ((List.range c).map f) = some (D i, Pl i)) (fun i hi => by
   obtain ⟨cs', h1, h2⟩ := hx i (by omega)
   rw [hc] at h1
   obtain ⟨_, hlen, hcell⟩ := World.cells?_some h1
   refine ⟨fun j => cs'.getD j undef, fun j hj => ?_, ?_⟩
   ·show _ = some (cs'.getD j undef)
    rw [hcell j hj, List.getD_eq_getElem?_getD, List.getElem?_eq_getElem (by omega)]; rfl
   ·have : (List.range c).map (fun j => cs'.getD j undef) = cs' := by
     refine List.ext_getElem (by simp [hlen]) fun j h3 h4 => ?_
     simp [List.getD_eq_getElem?_getD, List.getElem?_eq_getElem h4]
    rw [this]; exact h2)
  refine ⟨some a, len, cap, V, hcs, hl, hm, fun hlt => ?_, fun i hi => ⟨n, _, (hV i hi).2⟩, fun h => (by cases h)⟩
  have := (hV 0 hlt).1 0 h0
  rw [add_add, Nat.zero_mul, Nat.add_zero] at this
  obtain ⟨b, off, rfl⟩ := cell_plain this
  refine ⟨b, off, rfl, fun i hi j hj => ?_⟩
  have := (hV i hi).1 j hj
  rw [add_add, Lib.add_plain, ← Nat.add_assoc] at this
  exact this
end
section
variable {H : Type} {enc : TypeId × Value → H} {w : World} {base : Nat} {spare : Nat → Bool} {held : Bool}
theorem u64_nat' {n : Int} (h : (Lit.int .u64 n).wf = true) : ∃ a : Nat, n = (a : Int) ∧ a < 18446744073709551616 := by
 have : 0 ≤ n ∧ n ≤ 18446744073709551615 := by simpa [Lit.wf, IntKind.min, IntKind.max, IntKind.signed, IntKind.bits] using h
 exact ⟨n.toNat, by omega, by omega⟩
theorem open_row {fuel : Nat} {v : Value} {x : DataW H × List MemPlace} (h : DataW.trod enc Tryz.prog w base spare held fuel 87 [v] = some x) : ∃ l : List Int, RowAtI w v l ∧ l.length ≤ maxLen := by
 obtain ⟨a, len, cap, V, rfl, hl, hm, hat, hel, _⟩ := open_block Tryz.underlying87 (by kernel_rfl : Tryz.prog.cellsOf 3 = 1) (by omega) h
 obtain ⟨f, hf⟩ := choose_lt (α := Int) (n := len) (p := fun i z => V i 0 = .int .i64 z) (fun i hi => by
  obtain ⟨n, y, hy⟩ := hel i hi
  obtain ⟨z, hz, _, _⟩ := DataW.trod_int Tryz.underlying3 hy
  simp only [show (List.range 1).map (V i) = [V i 0] from rfl, List.cons.injEq, and_true] at hz
  exact ⟨z, hz⟩)
 have hlen : ((List.range len).map f).length = len := by simp
 refine ⟨(List.range len).map f, ⟨a, cap, by rw [hlen], fun j hj => ?_⟩, by rw [hlen]; omega⟩
 rw [hlen] at hj
 obtain ⟨b, off, rfl, hc⟩ := hat (by omega)
 have := hc j hj 0 (by omega)
 rw [Nat.mul_one, Nat.add_zero, hf j hj] at this
 exact ⟨b, off, rfl, block_lt this, by rw [this]; simp⟩
set_option maxRecDepth 100000 in
set_option maxHeartbeats 1000000 in
theorem open_dfa {r : Reach} {b0 : Nat} {v : Value} {d : DataW H} {ps : List MemPlace} (hval : Value.okWide Tryz.prog w r b0 26 v) (h : DataW.Trod enc Tryz.prog w base spare held 26 v d ps) :
  ∃ D nv tv, v = .agg (dval D nv tv) ∧ DAt w nv tv D := by
 obtain ⟨cs, rfl, hsz⟩ := okWide_struct Tryz.underlying26 hval
 obtain ⟨l⟩ := cs
 have hC : Tryz.prog.cellsOf 26 = 258 := by kernel_rfl
 have hl : l.length = 258 := hsz.trans hC
 obtain ⟨fuel, hf⟩ := h
 obtain ⟨xs, n, _, hx, _, hlen, hg⟩ := DataW.trod_struct Tryz.underlying26 hf
 match xs, hlen with
 | [y0, y1, y2], _ =>
  have k0 : DataW.trod enc Tryz.prog w base spare held n 22 ((l.drop 0).take (Tryz.prog.cellsOf 22)) = some y0 := hg 0 _ rfl
  have k1 : DataW.trod enc Tryz.prog w base spare held n 23 ((l.drop 256).take (Tryz.prog.cellsOf 23)) = some y1 := hg 1 _ rfl
  have k2 : DataW.trod enc Tryz.prog w base spare held n 24 ((l.drop 257).take (Tryz.prog.cellsOf 24)) = some y2 := hg 2 _ rfl
  rw [show Tryz.prog.cellsOf 22 = 256 from by kernel_rfl] at k0
  rw [show Tryz.prog.cellsOf 23 = 1 from by kernel_rfl] at k1
  rw [show Tryz.prog.cellsOf 24 = 1 from by kernel_rfl] at k2
  have e1 : (l.drop 256).take 1 = [l[256]] := by rw [List.drop_eq_getElem_cons (by omega)]; rfl
  have e2 : (l.drop 257).take 1 = [l[257]] := by rw [List.drop_eq_getElem_cons (by omega)]; rfl
  rw [e1] at k1
  rw [e2] at k2
  obtain ⟨cx, cn, _, _, _, clen, cg⟩ := DataW.trod_array Tryz.underlying22 k0
  obtain ⟨cf, hcf⟩ := choose_lt (α := Int) (n := 256) (p := fun i z => l[i]? = some (.int .i64 z)) (fun i hi => by
   have g := cg i hi
   rw [show Tryz.prog.cellsOf 3 = 1 from by kernel_rfl, Nat.mul_one, List.drop_zero, List.getElem?_eq_getElem (by omega)] at g
   have e : ((l.take 256).drop i).take 1 = [l[i]'(by omega)] := by
    rw [List.drop_eq_getElem_cons (by simp; omega), List.getElem_take]; rfl
   rw [e] at g
   obtain ⟨z, hz, _, _⟩ := DataW.trod_int Tryz.underlying3 g
   simp only [List.cons.injEq, and_true] at hz
   exact ⟨z, by rw [List.getElem?_eq_getElem (by omega), hz]⟩)
  obtain ⟨na, nl, nc, NV, hnv, hnl, hnm, hna, hne, _⟩ := open_block Tryz.underlying23 (by kernel_rfl : Tryz.prog.cellsOf 87 = 1) (by omega) k1
  obtain ⟨ta, tl, tc, TV, htv, htl, htm, hta, hte, _⟩ := open_block Tryz.underlying24 (by kernel_rfl : Tryz.prog.cellsOf 54 = 1) (by omega) k2
  obtain ⟨nf, hnf⟩ := choose_lt (α := List Int) (n := nl) (p := fun i q => RowAtI w (NV i 0) q ∧ q.length ≤ maxLen) (fun i hi => by
   obtain ⟨n, y, hy⟩ := hne i hi
   exact open_row hy)
  obtain ⟨tf, htf⟩ := choose_lt (α := Nat) (n := tl) (p := fun i z => TV i 0 = .int .u64 (z : Int) ∧ z < 18446744073709551616) (fun i hi => by
   obtain ⟨n, y, hy⟩ := hte i hi
   obtain ⟨z, hz, _, hw⟩ := DataW.trod_int Tryz.underlying54 hy
   simp only [show (List.range 1).map (TV i) = [TV i 0] from rfl, List.cons.injEq, and_true] at hz
   obtain ⟨a, rfl, ha⟩ := u64_nat' hw
   exact ⟨a, hz, ha⟩)
  refine ⟨⟨(List.range 256).map cf, (List.range nl).map nf, (List.range tl).map tf⟩, l[256], l[257], ?_, ?_⟩
  ·congr 1
   unfold dval ivs
   have : l = (((List.range 256).map cf).map (Value.int .i64)) ++ [l[256], l[257]] := by
    refine List.ext_getElem? fun i => ?_
    by_cases hi : i < 256
    ·rw [List.getElem?_append_left (by simp; exact hi), hcf i hi]
     simp [hi]
    ·rw [List.getElem?_append_right (by simp; omega)]
     simp only [List.length_map, List.length_range]
     by_cases h6 : i = 256
     ·subst h6; rw [List.getElem?_eq_getElem (by omega)]; rfl
     ·by_cases h7 : i = 257
      ·subst h7; rw [List.getElem?_eq_getElem (by omega)]; rfl
      ·rw [List.getElem?_eq_none (by omega), List.getElem?_eq_none (by simp; omega)]
   apply Array.ext'
   simp only [Array.toList_append]
   exact this
  ·refine ⟨by simp, ⟨na, nc, by rw [hnv]; simp, fun i hi => ?_⟩, ⟨ta, tc, by rw [htv]; simp, fun i hi => ?_⟩, ⟨by simp; omega, by simp; omega⟩, fun q hq => ?_⟩
   ·have hi' : i < nl := by simpa using hi
    obtain ⟨b, off, rfl, hc⟩ := hna (by omega)
    have := hc i hi' 0 (by omega)
    rw [Nat.mul_one, Nat.add_zero] at this
    refine ⟨b, off, NV i 0, rfl, block_lt this, this, ?_⟩
    have e : ((List.range nl).map nf)[i]'(by simpa using hi') = nf i := by simp
    show RowAtI w (NV i 0) (((List.range nl).map nf)[i]'(by simpa using hi'))
    rw [e]
    exact (hnf i hi').1
   ·have hi' : i < tl := by simpa using hi
    obtain ⟨b, off, rfl, hc⟩ := hta (by omega)
    have := hc i hi' 0 (by omega)
    rw [Nat.mul_one, Nat.add_zero, (htf i hi').1] at this
    have e : ((List.range tl).map tf)[i]'(by simpa using hi') = tf i := by simp
    refine ⟨b, off, rfl, block_lt this, ?_, ?_⟩
    ·show _ = some (Value.int .u64 ((((List.range tl).map tf)[i]'(by simpa using hi') : Nat) : Int))
     rw [e]; exact this
    ·show ((List.range tl).map tf)[i]'(by simpa using hi') < _
     rw [e]; exact (htf i hi').2
   ·obtain ⟨i, hi, rfl⟩ := List.mem_map.1 hq
    exact (hnf i (by simpa using hi)).2
end
end Go.Proofs.YtochckefnjobhaaGreatDoor

/- What the laws of mini call, by automata that lie. -/
namespace Go.Proofs.X6
open Go Go.RowKit Go.Lib
open X5 (Aut rowOf)
set_option linter.unusedVariables false
set_option linter.unusedSimpArgs false
def IsL (D M : Aut) : Prop := ∃ Bk st, Blk (rowOf D 0).length D Bk ∧ IsJ D Bk M st
theorem Ok.pos {D : Aut} {K : Nat} (h : Ok D K) : 0 < D.next.length := List.length_pos_iff.2 h.some_
theorem IsL.ok {D M : Aut} (hv : Vd D) (h : IsL D M) : Ok M (rowOf D 0).length := by
 obtain ⟨Bk, st, hb, hj⟩ := h
 exact hj.ok hv.ok hb
theorem IsL.row {D M : Aut} (hv : Vd D) (h : IsL D M) : (rowOf M 0).length = (rowOf D 0).length := (h.ok hv).rows 0 (h.ok hv).pos
theorem IsL.cls {D M : Aut} (h : IsL D M) : M.cls = D.cls := by
 obtain ⟨Bk, st, hb, hj⟩ := h
 exact hj.1
theorem IsL.few {D M : Aut} (hv : Vd D) (h : IsL D M) : M.next.length ≤ D.next.length := by
 obtain ⟨Bk, st, hb, hj⟩ := h
 exact hj.few hv.ok hb
def Few (D : Aut) : Prop := D.next.length ≤ 1000000 ∧ D.tags.length ≤ 1000000 ∧ (rowOf D 0).length ≤ 1000000 ∧ D.next.length * (rowOf D 0).length ≤ 1000000
theorem Lit.few {D : Aut} (h : Lit D) : Few D := by
 have h0 : (rowOf D 0).length ≤ 20 := by
  unfold rowOf
  rw [List.getD_eq_getElem?_getD]
  cases hx : D.next[0]? with
  | none => simp
  | some r => exact h.2.2 r (List.mem_of_getElem? hx)
 have h1 := h.1
 have h2 := h.2.1
 refine ⟨by omega, by omega, by omega, ?_⟩
 have : D.next.length * (rowOf D 0).length ≤ 30 * 20 := Nat.mul_le_mul (by omega) h0
 omega
theorem IsL.again {D M N : Aut} (hv : Vd D) (h : IsL D M) (g : IsL M N) : N = M := by
 obtain ⟨Bk, st, hb, hj⟩ := h
 obtain ⟨Ck, su, hc, hk⟩ := g
 have hr := IsL.row hv ⟨Bk, st, hb, hj⟩
 rw [hr] at hc
 exact hj.again hv.ok hb hc hk
theorem Vd.cl {D : Aut} (hv : Vd D) (hl : D.cls.length = 256) : ∀ b, b < 256 → 0 ≤ D.cls.getD b 0 ∧ D.cls.getD b 0 < ((rowOf D 0).length : Int) := fun b hb =>
 hv.cls _ (X6.getD_mem (by omega))
theorem IsL.run {D M : Aut} (hv : Vd D) (hl : D.cls.length = 256) (h : IsL D M) (s : List UInt8) : X5.runX M s = X5.runX D s := by
 obtain ⟨Bk, st, hb, hj⟩ := h
 exact hj.run hv.ok hb (hv.cl hl) s
theorem IsL.one {D E M N : Aut} (hv : Vd D) (hE : Ok E (rowOf D 0).length) (h0 : Eqv (rowOf D 0).length D 0 E 0) (hc : D.cls = E.cls) (h : IsL D M) (g : IsL E N) : M = N := by
 obtain ⟨Bk, st, hb, hj⟩ := h
 obtain ⟨Ck, su, hc', hk⟩ := g
 rw [hE.rows 0 hE.pos] at hc'
 exact IsJ.one hv.ok hE hb hc' h0 hc hj hk
end Go.Proofs.X6
namespace Go.Proofs.YtochckefnjobhaaGreatDoor
open Go Go.RowKit Go.Lib
open X5 (Aut)
set_option linter.unusedVariables false
set_option linter.unusedSimpArgs false
def Lies (D : Aut) (dd : Array Value) (w : World) : Prop := ∃ nv tv, dd = dval D nv tv ∧ DAt w nv tv D
theorem Lies.below {D : Aut} {dd : Array Value} {w w' : World} (h : Lies D dd w) (hb : Below w.heap.size w w') : Lies D dd w' := by
 obtain ⟨nv, tv, e, h⟩ := h
 exact ⟨nv, tv, e, h.below hb⟩
theorem Lies.sz {D : Aut} {dd : Array Value} {w : World} (h : Lies D dd w) : dd.size = 258 ∧ dd.all (·.oneCell') = true ∧ (∃ o c, dd[256]? = some (.slice o D.next.length c)) ∧ D.cls.length = 256 := by
 obtain ⟨nv, tv, rfl, h⟩ := h
 obtain ⟨o, c, hc⟩ := rows_shape h.rows
 refine ⟨dval_size h, dval_one' h, ⟨o, c, ?_⟩, h.len⟩
 rw [dcell_next h.len, hc]
theorem Lies.mid {D : Aut} {dd : Array Value} {w : World} (h : Lies D dd w) : ∃ nv tv, ivs D.cls ++ #[nv, tv] = dd := by
 obtain ⟨nv, tv, rfl, h⟩ := h
 exact ⟨nv, tv, rfl⟩
theorem little_at {D : Aut} {dd : Array Value} {w : World} (h : Lies D dd w) : Calls Tryz.prog 12 #[.agg dd] w fun e w' => ∃ b : Bool, e = .returned (.bool b) ∧ (b = true ↔ X6.Lit D) ∧ Below w.heap.size w w' := by
 obtain ⟨nv, tv, rfl, h⟩ := h
 exact little_any h
theorem valid_at {D : Aut} {dd : Array Value} {w : World} (h : Lies D dd w) (hf : X6.Few D) : Calls Tryz.prog 42 #[.agg dd] w fun e w' => ∃ b : Bool, e = .returned (.bool b) ∧ (b = true ↔ X6.Vd D) ∧ Below w.heap.size w w' := by
 obtain ⟨nv, tv, rfl, h⟩ := h
 exact valid2_any h hf.1 hf.2.1
theorem valid_yes {D : Aut} {dd : Array Value} {w : World} (h : Lies D dd w) (hf : X6.Few D) (hv : X6.Vd D) : Calls Tryz.prog 42 #[.agg dd] w fun e w' => e = .returned (.bool true) ∧ Below w.heap.size w w' := by
 refine (valid_at h hf).mono fun e w' hq => ?_
 obtain ⟨b, rfl, hb, hbl⟩ := hq
 rw [hb.2 hv]
 exact ⟨rfl, hbl⟩
theorem valid_no {D : Aut} {dd : Array Value} {w : World} (h : Lies D dd w) (hf : X6.Few D) (hv : ¬ X6.Vd D) : Calls Tryz.prog 42 #[.agg dd] w fun e w' => e = .returned (.bool false) ∧ Below w.heap.size w w' := by
 refine (valid_at h hf).mono fun e w' hq => ?_
 obtain ⟨b, rfl, hb, hbl⟩ := hq
 cases b with
 | true => exact absurd (hb.1 rfl) hv
 | false => exact ⟨rfl, hbl⟩
theorem least_no {D : Aut} {dd : Array Value} {w : World} (h : Lies D dd w) (hf : X6.Few D) (hv : ¬ X6.Vd D) : Calls Tryz.prog 13 #[.agg dd] w fun e w' => e = .returned (.tuple #[.agg dvz, .int .i64 1]) ∧ Below w.heap.size w w' := by
 obtain ⟨nv, tv, rfl, h⟩ := h
 refine (least_any h hf.1 hf.2.1 hf.2.2.1 hf.2.2.2).mono fun e w' hq => ?_
 rcases hq with ⟨_, rfl, hb⟩ | ⟨hn, _⟩
 ·exact ⟨rfl, hb⟩
 ·exact absurd hn hv
theorem least_yes {D : Aut} {dd : Array Value} {w : World} (h : Lies D dd w) (hf : X6.Few D) (hv : X6.Vd D) : Calls Tryz.prog 13 #[.agg dd] w fun e w' => ∃ M dm, e = .returned (.tuple #[.agg dm, .int .i64 0]) ∧ Lies M dm w' ∧ X6.IsL D M ∧ Below w.heap.size w w' := by
 obtain ⟨nv, tv, rfl, h⟩ := h
 refine (least_any h hf.1 hf.2.1 hf.2.2.1 hf.2.2.2).mono fun e w' hq => ?_
 rcases hq with ⟨hn, _⟩ | ⟨_, Bk, M, st, nv', tv', rfl, hb, hj, hd, hbl⟩
 ·exact absurd hv hn
 exact ⟨M, _, rfl, ⟨nv', tv', rfl, hd.at_⟩, ⟨Bk, st, hb, hj⟩, hbl⟩
theorem same_at {D : Aut} {dd de : Array Value} {w : World} (h : Lies D dd w) (g : Lies D de w) : Calls Tryz.prog 23 #[.agg dd, .agg de] w fun e w' => e = .returned (.bool true) ∧ Below w.heap.size w w' := by
 obtain ⟨nv, tv, rfl, h⟩ := h
 obtain ⟨nu, tu, rfl, g⟩ := g
 refine (same_any h g).mono fun e w' hq => ?_
 rw [sameX_eq.2 rfl] at hq
 exact hq
theorem run_at {D : Aut} {dd : Array Value} {w : World} (h : Lies D dd w) (s : ByteArray) (hs : s.size < 9223372036854775808) : Calls Tryz.prog 24 #[.agg dd, .string s] w fun e w' => e = .returned (.int .u64 (X5.runX D (LL s) : Int)) ∧ Below w.heap.size w w' := by
 obtain ⟨nv, tv, rfl, h⟩ := h
 exact run_dfa h s hs
section
variable {o : Oper} {a : Act} {W w : World} {C : World → Prop}
theorem quiet_load30 (p : Operand) (hop : o.op = .load 26 p) (g : Nat) (hp : a.eval p = .pointer (some ⟨g, 0, none⟩)) (cs : Array Value) (hC : Below W.heap.size W w) (hb : Bxx g cs W) (h1 : cs.size = 258) : o.quietAt Tryz.prog a C w (.agg cs) := by
 unfold Oper.quietAt
 rw [exec_load30 p hop g hp cs (hb.below hC) h1]
 exact ⟨rfl, rfl⟩
theorem exec_load26 (p : Operand) (hop : o.op = .load 22 p) (g : Nat) (hp : a.eval p = .pointer (some ⟨g, 0, none⟩)) (cv : Array Value) (nv tv : Value) (dc : Array Value) (hd : cv ++ #[nv, tv] = dc) (hb : w.heap[g]? = some (.cells dc 26 (0, 0))) (h1 : cv.size = 256) :
  (execOp a.eval o).run Tryz.prog w = .ok (.value (.agg cv)) w := by
 subst hd
 have hl : (loadCells ⟨g, 0, none⟩ cv.toList.length).run Tryz.prog w = .ok cv.toList.toArray w :=
  run_loadCells_list (P := Tryz.prog) w ⟨g, 0, none⟩ cv.toList (fun j v hv => by
   have hadd : (⟨g, 0, none⟩ : Addr).add j = ⟨g, j, none⟩ := by unfold Addr.add; split <;> simp_all
   have hj : j < cv.size := by
    have := (List.getElem?_eq_some_iff.1 hv).1
    rwa [Array.length_toList] at this
   rw [hadd, cell_of_row w g j _ 26 (0, 0) hb, Array.getElem?_append_left hj, ← Array.getElem?_toList]
   exact hv)
 rw [Array.length_toList, h1] at hl
 have hag : (isAgg 22).run Tryz.prog w = .ok true w := by kernel_rfl
 have hsz : (sizeOf 22).run Tryz.prog w = .ok 256 w := by kernel_rfl
 have hrun : (loadVar 22 ⟨g, 0, none⟩).run Tryz.prog w = .ok (.agg cv) w := by
  simp [loadVar, Sem.run_bind, hag, hsz, hl, Result.andThen]
 simp only [execOp, hop, hp, Instr.loadAt, Instr.sureAddr, Sem.run_bind, Sem.run_pure, Result.andThen_ok, hrun]
theorem quiet_load26 (p : Operand) (hop : o.op = .load 22 p) (g : Nat) (hp : a.eval p = .pointer (some ⟨g, 0, none⟩)) {D : Aut} (dc : Array Value) (hC : Below W.heap.size W w) (hL : Lies D dc W) (hb : Bxx g dc W) : o.quietAt Tryz.prog a C w (.agg (ivs D.cls)) := by
 obtain ⟨nv, tv, hd⟩ := hL.mid
 unfold Oper.quietAt
 rw [exec_load26 p hop g hp (ivs D.cls) nv tv dc hd (hb.below hC) (by rw [ivs_size]; exact hL.sz.2.2.2)]
 exact ⟨rfl, rfl⟩
end
end Go.Proofs.YtochckefnjobhaaGreatDoor
