/- Layer 6: the document's example, in plain mathematics. -/
import Derived.Test.YtochckefnjobhaaDoorKo
namespace Go.Proofs.YtochckefnjobhaaDoor
open Go Go.RowKit Go.Lib
open X3 (RX Pl)
open X5 (Aut)
set_option linter.unusedVariables false
set_option linter.unusedSimpArgs false

abbrev exM : List RX := [.alt [exA, exB]]
abbrev txA : ByteArray := ⟨#[97, 124, 98]⟩
abbrev txB : ByteArray := ⟨#[91, 97, 93, 124, 91, 98, 93]⟩
theorem ex_p1 : X3.parseX [97, 124, 98] = .inr (.alt [exA, exB]) := by rfl
theorem ex_p2 : X3.parseX [91, 97, 93, 124, 91, 98, 93] = .inr (.alt [exA, exB]) := by rfl
theorem ex_p3 : X3.parseX [97] = .inr exA := by rfl
theorem ex_p4 : X3.parseX [40] = .inl 5 := by rfl
theorem pe1 : parsesX [txA] = .inr exM := by
  have : peX txA = some (.alt [exA, exB]) := by
    unfold peX
    rw [show LL txA = [97, 124, 98] from rfl, ex_p1]
  simp only [parsesX, this]
theorem pe2 : parsesX [txB] = .inr exM := by
  have : peX txB = some (.alt [exA, exB]) := by
    unfold peX
    rw [show LL txB = [91, 97, 93, 124, 91, 98, 93] from rfl, ex_p2]
  simp only [parsesX, this]
theorem pe3 : parsesX [⟨#[97]⟩, ⟨#[40]⟩] = .inl 5 := by
  have h1 : peX ⟨#[97]⟩ = some exA := by
    unfold peX
    rw [show LL ⟨#[97]⟩ = [97] from rfl, ex_p3]
  have h2 : peX ⟨#[40]⟩ = none := by
    unfold peX
    rw [show LL ⟨#[40]⟩ = [40] from rfl, ex_p4]
    rfl
  have h3 : erX ⟨#[40]⟩ = 5 := by
    unfold erX
    rw [show LL ⟨#[40]⟩ = [40] from rfl, ex_p4]
  simp only [parsesX, h1, h2, h3]
theorem exM_few : ¬ many exM := by
  unfold many
  decide
theorem exM_big : ¬ Big exM := not_big (by decide +kernel)
theorem exM_fs : X5.fsX (clsX exM) 256 = [0, 97, 98] := by decide +kernel
theorem exM_cls : (clsX exM).getD 0 0 = 0 ∧ (clsX exM).getD 97 0 = 1 ∧ (clsX exM).getD 98 0 = 2 := by decide +kernel
theorem mt_alt {s : List UInt8} : X3.Mt (.alt [exA, exB]) s ↔ s = [97] ∨ s = [98] := by
  constructor
  · intro h
    cases h with
    | alt _ r _ hr h =>
      rcases List.mem_cons.1 hr with rfl | hr
      · exact .inl (mt_a h)
      · rcases List.mem_cons.1 hr with rfl | hr
        · exact .inr (mt_b h)
        · cases hr
  · rintro (rfl | rfl)
    · exact .alt _ _ _ (by simp) mt_a'
    · exact .alt _ _ _ (by simp) mt_b'
theorem exM_run (s : List UInt8) : RunR exM s (if s = [97] ∨ s = [98] then 1 else 0) := by
  refine ⟨by split <;> decide, fun i => ?_⟩
  by_cases h : s = [97] ∨ s = [98]
  · rw [if_pos h, bit1]
    constructor
    · rintro rfl; exact ⟨_, rfl, mt_alt.2 h⟩
    · rintro ⟨r, hr, _⟩
      match i, hr with
      | 0, _ => rfl
  · rw [if_neg h, Nat.zero_testBit]
    constructor
    · intro h; cases h
    · rintro ⟨r, hr, hm⟩
      match i, hr with
      | 0, hr => simp at hr; subst hr; exact absurd (mt_alt.1 hm) h
/-- Its least automaton. -/
@[irreducible] def exC : List Int := (clsX exM).map fun (n : Nat) => (n : Int)
theorem exC_eq : exC = (clsX exM).map fun (n : Nat) => (n : Int) := by unfold exC; with_reducible rfl
theorem exC_len : exC.length = 256 := by
  rw [exC_eq, List.length_map]
  exact (cls_good exM).1
theorem exC_mem {c : Int} (hc : c ∈ exC) : 0 ≤ c ∧ c < 3 := by
  rw [exC_eq] at hc
  obtain ⟨n, hn, rfl⟩ := List.mem_map.1 hc
  have hl : (clsX exM).length = 256 := (cls_good exM).1
  have hf := X5.fs_all (cls_first exM) 256 (Nat.le_of_eq hl.symm)
  obtain ⟨j, hj⟩ := List.mem_iff_getElem?.1 hn
  have hjl := (List.getElem?_eq_some_iff.1 hj).1
  have h3 := hf.1 j (hl ▸ hjl)
  rw [List.getD_eq_getElem?_getD, hj, exM_fs] at h3
  have h4 : n < 3 := h3
  exact ⟨Int.natCast_nonneg n, by omega⟩
theorem exC_98 : exC.getD 98 0 = 2 := by
  have h := exM_cls.2.2
  rw [exC_eq]
  rw [List.getD_eq_getElem?_getD] at h ⊢
  rw [List.getElem?_map]
  generalize (clsX exM)[98]? = o at h ⊢
  cases o with
  | none => simp at h
  | some v => simp at h; subst h; rfl
def exE : Aut := ⟨exC, [[-1, 1, 1], [-1, -1, -1]], [0, 1]⟩
theorem exE_ok : X6.Ok exE 3 where
  some_ := by simp [exE]
  tags := rfl
  rows i hi := by
    have : i = 0 ∨ i = 1 := by simp [exE] at hi; omega
    rcases this with rfl | rfl <;> rfl
  ends i hi x hx := by
    have : i = 0 ∨ i = 1 := by simp [exE] at hi; omega
    show -1 ≤ x ∧ x < 2
    rcases this with rfl | rfl
    · have : x ∈ [-1, 1, 1] := hx
      simp at this; omega
    · have : x ∈ [-1, -1, -1] := hx
      simp at this; omega
theorem exE_stp0 : X6.stp exE 0 0 = -1 ∧ X6.stp exE 0 1 = 1 ∧ X6.stp exE 0 2 = 1 := ⟨rfl, rfl, rfl⟩
theorem exE_stp1 {c : Nat} (hc : c < 3) : X6.stp exE 1 c = -1 := by
  have : c = 0 ∨ c = 1 ∨ c = 2 := by omega
  rcases this with rfl | rfl | rfl <;> rfl
theorem exE_tg (w : List Nat) (hw : ∀ c ∈ w, c < 3) : X6.tg exE (X6.col exE w 0) = if w = [1] ∨ w = [2] then 1 else 0 := by
  match w, hw with
  | [], _ => rfl
  | [c], hw =>
    have hc := hw c (by simp)
    have : c = 0 ∨ c = 1 ∨ c = 2 := by omega
    rcases this with rfl | rfl | rfl <;> rfl
  | c :: d :: v, hw =>
    have hc := hw c (by simp)
    have hd := hw d (by simp)
    have e : X6.stp exE (X6.stp exE 0 c) d = -1 := by
      have : c = 0 ∨ c = 1 ∨ c = 2 := by omega
      rcases this with rfl | rfl | rfl
      · rfl
      · exact exE_stp1 hd
      · exact exE_stp1 hd
    rw [X6.col, X6.col, e, if_neg (by simp)]
    unfold X6.tg
    rw [if_pos (X6.col_neg exE v (-1) (by decide))]
theorem exE_live0 : X6.Live 3 exE 0 := ⟨[1], by simp, by rw [exE_tg [1] (by simp)]; decide⟩
theorem exE_live1 : X6.Live 3 exE 1 := ⟨[], by simp, by show X6.tg exE 1 ≠ 0; decide⟩
theorem exE_blk : X6.Blk 3 exE [0, 1] where
  len := rfl
  dead x hx := by
    have : x = 0 ∨ x = 1 := by simp [exE] at hx; omega
    rcases this with rfl | rfl
    · exact ⟨fun e => by simp at e, fun h => absurd exE_live0 h⟩
    · exact ⟨fun e => by simp at e, fun h => absurd exE_live1 h⟩
  same x y hx hy _ _ := by
    have h1 : x = 0 ∨ x = 1 := by simp [exE] at hx; omega
    have h2 : y = 0 ∨ y = 1 := by simp [exE] at hy; omega
    rcases h1 with rfl | rfl <;> rcases h2 with rfl | rfl
    · exact ⟨fun _ => X6.Eqv.refl _ _ _, fun _ => rfl⟩
    · refine ⟨fun e => by simp at e, fun e => ?_⟩
      have : X6.tg exE 0 = X6.tg exE 1 := e.tg
      exact absurd this (by decide)
    · refine ⟨fun e => by simp at e, fun e => ?_⟩
      have : X6.tg exE 1 = X6.tg exE 0 := e.tg
      exact absurd this (by decide)
    · exact ⟨fun _ => X6.Eqv.refl _ _ _, fun _ => rfl⟩
theorem exE_isJ : X6.IsJ exE [0, 1] exE [0, 1] := ⟨rfl, 2, rfl⟩
/-- Of a machine that is built the classes' words tell what texts tell. -/
theorem sets_col {L : List RX} {A0 : List Nat} {D : Aut} {SS : List (List Nat)} (h : Sets L A0 D SS) (hv : X6.Vd D) (h0 : AtN L [] A0) (w : List Nat) (hw : ∀ c ∈ w, c < (Fx L).length) {R : Nat} (hR : RunR L (w.map fun c => UInt8.ofNat ((Fx L).getD c 0)) R) : X6.tg D (X6.col D w 0) = R := by
  have hf := X5.fs_all (cls_first L) 256 (by have := (cls_good L).1; exact Nat.le_of_eq this.symm)
  have hl : (clsX L).length = 256 := (cls_good L).1
  have hcl : ∀ c, c < (Fx L).length → ((D.cls.getD (UInt8.ofNat ((Fx L).getD c 0)).toNat 0).toNat = c) := by
    intro c hc
    obtain ⟨i, h1, h2, h3⟩ := hf.2 c hc
    have e1 : (Fx L).getD c 0 = i := by rw [List.getD_eq_getElem?_getD]; show ((X5.fsX (clsX L) 256)[c]?).getD 0 = i; rw [h1]; rfl
    have e2 : (UInt8.ofNat i).toNat = i := by rw [UInt8.toNat_ofNat']; omega
    rw [e1, e2, h.cls, List.getD_eq_getElem?_getD, List.getElem?_map, List.getElem?_eq_getElem (by omega)]
    rw [List.getD_eq_getElem?_getD, List.getElem?_eq_getElem (by omega)] at h3
    show ((clsX L)[i] : Int).toNat = c
    rw [Int.toNat_natCast]
    exact h3
  have hK : (X5.rowOf D 0).length = (Fx L).length := (h.rows 0 A0 h.begin_).1
  have hrc := X6.run_col hv.ok (fun b hb => by
    have := hv.cls (D.cls.getD b 0) (X6.getD_mem (by rw [h.cls, List.length_map, hl]; exact hb))
    exact this) (w.map fun c => UInt8.ofNat ((Fx L).getD c 0))
  rw [sets_run h h0 _ hR, List.map_map] at hrc
  rw [hrc]
  congr 2
  refine (List.map_id w).symm.trans (List.map_congr_left fun c hc => ?_)
  exact (hcl c (hw c hc)).symm
theorem exM_Fx : Fx exM = [0, 97, 98] := exM_fs
theorem ex_is {A0 : List Nat} {D : Aut} {SS : List (List Nat)} {Bk : List Int} {M : Aut} {st : List Nat} (h : Sets exM A0 D SS) (hv : X6.Vd D) (h0 : AtN exM [] A0) (hb : X6.Blk (X5.rowOf D 0).length D Bk) (hj : X6.IsJ D Bk M st) : M = exE := by
  have hK : (X5.rowOf D 0).length = 3 := by rw [(h.rows 0 A0 h.begin_).1, exM_fs]; rfl
  have hok := hv.ok
  rw [hK] at hok hb
  refine X6.IsJ.one hok exE_ok hb exE_blk (fun w hw => ?_) (by rw [h.cls]; exact exC_eq.symm) hj exE_isJ
  rw [exE_tg w hw, sets_col h hv h0 w (by rw [exM_Fx]; exact hw) (exM_run _)]
  rw [exM_Fx]
  have hiff : ((w.map fun c => UInt8.ofNat ([0, 97, 98].getD c 0)) = [97] ∨ (w.map fun c => UInt8.ofNat ([0, 97, 98].getD c 0)) = [98]) ↔ (w = [1] ∨ w = [2]) := by
    match w, hw with
    | [], _ => simp
    | [c], hw =>
      have hc := hw c (by simp)
      have : c = 0 ∨ c = 1 ∨ c = 2 := by omega
      rcases this with rfl | rfl | rfl <;> decide
    | c :: d :: v, _ => simp
  by_cases hw2 : w = [1] ∨ w = [2]
  · rw [if_pos (hiff.2 hw2), if_pos hw2]
  · rw [if_neg (fun e => hw2 (hiff.1 e)), if_neg hw2]
theorem exE_len : exE.cls.length = 256 := exC_len
theorem exE_row0 : (X5.rowOf exE 0).length = 3 := rfl
theorem ex_least {Bk : List Int} {M : Aut} {st : List Nat} (hb : X6.Blk (X5.rowOf exE 0).length exE Bk) (hj : X6.IsJ exE Bk M st) : M = exE :=
  X6.IsJ.one exE_ok exE_ok hb exE_blk (X6.Eqv.refl _ _ _) rfl hj exE_isJ
theorem exE_vd : X6.Vd exE := ⟨exE_ok, fun c hc => exC_mem (show c ∈ exC from hc)⟩
theorem exE_run : X5.runX exE [98] = 1 := by
  have e : X5.goX exE [98] 0 = 1 := by
    show X5.behX exE 0 98 = 1
    unfold X5.behX
    rw [show exE.cls.getD 98 0 = 2 from exC_98]
    rfl
  unfold X5.runX
  rw [e]
  rfl
end Go.Proofs.YtochckefnjobhaaDoor
