/- mini.keyOf: what tells a state apart, as a text. -/
import Derived.Test.YtochckefnjobhaaDoorUj
import Derived.Test.YtochckefnjobhaaDoorKl
import Derived.Test.YtochckefnjobhaaDoorKw
namespace Go.Proofs.YtochckefnjobhaaDoor
open Go Go.RowKit Go.Lib
open X5 (Aut)
set_option linter.unusedVariables false
set_option linter.unusedSimpArgs false

/-- A number's four bytes, the lowest one first. -/
def num4 (i : Int) : List UInt8 := [UInt8.ofNat (i % 256).toNat, UInt8.ofNat (i / 256 % 256).toNat, UInt8.ofNat (i / 65536 % 256).toNat, UInt8.ofNat (i / 16777216 % 256).toNat]
theorem of_mod (x : Int) : ((UInt8.ofNat (x % 256).toNat).toNat : Int) = x % 256 := by
  have h0 := Int.emod_nonneg x (by decide : (256 : Int) ≠ 0)
  have h1 := Int.emod_lt_of_pos x (by decide : (0 : Int) < 256)
  obtain ⟨n, hn⟩ : ∃ n : Nat, x % 256 = (n : Int) := ⟨(x % 256).toNat, by omega⟩
  rw [hn, Int.toNat_natCast]
  have hlt : n < 256 := by omega
  simp [UInt8.toNat_ofNat, Nat.mod_eq_of_lt hlt]
theorem num4_cells (i : Int) : Lib.byteCells (num4 i) = [.int .u8 (i % 256), .int .u8 (i / 256 % 256), .int .u8 (i / 65536 % 256), .int .u8 (i / 16777216 % 256)] := by
  simp only [Lib.byteCells, num4, List.map_cons, List.map_nil, of_mod]
theorem num4_inj {i j : Int} (h0 : -1 ≤ i) (h1 : i < 2147483648) (k0 : -1 ≤ j) (k1 : j < 2147483648) (h : num4 i = num4 j) : i = j := by
  have hc : Lib.byteCells (num4 i) = Lib.byteCells (num4 j) := by rw [h]
  rw [num4_cells, num4_cells] at hc
  injection hc with a1 hc
  injection hc with a2 hc
  injection hc with a3 hc
  injection hc with a4 hc
  injection a1 with _ a1
  injection a2 with _ a2
  injection a3 with _ a3
  injection a4 with _ a4
  omega
theorem num4_len (i : Int) : (num4 i).length = 4 := rfl

set_option maxRecDepth 100000 in
set_option maxHeartbeats 4000000 in
theorem append_number {w : World} {B n : Nat} {sv : Value} {xs : List Value} (i : Int) (h0 : -1 ≤ i) (h1 : i < 2147483648) (hown : w.ownsRow B 5 1 sv n xs) (hB : B ≤ w.heap.size) (hn : n ≤ 1000000000) :
    Calls Tryd.prog 70 #[sv, .int .i64 i] w fun e w' => ∃ v', e = .returned v' ∧ w'.ownsRow B 5 1 v' (n + 4) (xs ++ Lib.byteCells (num4 i)) ∧ Below B w w' := by
  have HF := hid hown
  obtain ⟨so, sc, rfl⟩ := (show ∃ o c, sv = .slice o n c from by rcases hown.2 with ⟨rfl, rfl⟩ | ⟨g, cap, cur, rfl, _⟩ <;> exact ⟨_, _, rfl⟩)
  have HN := hid (num4_cells i)
  obtain ⟨wq, eq⟩ : ∃ wq, w.alloc (.cells #[.int .u8 (i % 256), .int .u8 (i / 256 % 256), .int .u8 (i / 65536 % 256), .int .u8 (i / 16777216 % 256)] 5) = wq := ⟨_, rfl⟩
  have hbq : Below w.heap.size w wq := by rw [← eq]; exact (Below.refl _ _).alloc (Nat.le_refl _) _
  have hnq : wq.heap[w.heap.size]? = some (.cells #[.int .u8 (i % 256), .int .u8 (i / 256 % 256), .int .u8 (i / 65536 % 256), .int .u8 (i / 16777216 % 256)] 5 (0, 0)) := by rw [← eq]; exact new_block _ _
  have HFq := hid (owns_kept hown fun g hg => hbq.block g (owns_lt hown g hg).2)
  have HBq := hid (hbq.mono hB)
  have hdq := Nat.le_trans hB hbq.size
  obtain ⟨j0, hj, hk0, hk1, hk2⟩ := info_parts info5
  clear hown hbq
  go_enter Tryd.func70, Tryd.ntmps70
  go_wp2_with (at_builtin; refine wpList_append_own_at _ rfl (.tmp 5) (.tmp 17) 49 rfl B 5 j0 (.int .u8 0) 1 1 Tryd.underlying49 hj hk0 hk1 hk2 rfl (by decide) (.slice so n sc) n xs rfl HFq.out ⟨w.heap.size, 0, none⟩ 4 4 [.int .u8 (i % 256), .int .u8 (i / 256 % 256), .int .u8 (i / 65536 % 256), .int .u8 (i / 16777216 % 256)] rfl rfl ?_ ?_ ?_ ?_ ?_ ?_)
  · intro j v hj
    have := Lib.cell_of_heap hnq j
    rw [show (⟨w.heap.size, 0, none⟩ : Addr).add j = ⟨w.heap.size, j, none⟩ by simp [Addr.add]; omega]
    rw [this, ← hj]
    simp
  · intro v hv
    simp only [List.mem_cons, List.not_mem_nil, or_false] at hv
    rcases hv with rfl | rfl | rfl | rfl <;> rfl
  · unfold maxLen; omega
  · omega
  · exact hdq
  intro v7 w7 hown7 hgrow7 hnil7 hat7
  have HB7 := hid (HBq.out.grown hgrow7 hdq (fun q hq => (owns_lt HFq.out q hq).1))
  clear hgrow7 hnil7 hat7 hnq eq
  go_wp2_with fail
  go_ret
  exact ⟨v7, rfl, by rw [HN.out]; exact hown7, HB7.out⟩
end Go.Proofs.YtochckefnjobhaaDoor

/- What tells a state apart, as a text: plain mathematics. -/
namespace Go.Proofs.YtochckefnjobhaaDoor
open Go Go.RowKit Go.Lib
open X5 (Aut)
set_option linter.unusedVariables false

/-- The lowest bytes of a number. -/
def numD : Nat → Nat → List UInt8
  | 0, _ => []
  | k + 1, t => UInt8.ofNat (t % 256) :: numD k (t / 256)
theorem numD_len : ∀ k t, (numD k t).length = k
  | 0, _ => rfl
  | k + 1, t => by rw [numD, List.length_cons, numD_len k]
theorem numD_snoc : ∀ k t, numD (k + 1) t = numD k t ++ [UInt8.ofNat (t / 256 ^ k % 256)]
  | 0, t => by simp [numD]
  | k + 1, t => by
    rw [numD, numD_snoc k (t / 256), numD, List.cons_append, Nat.div_div_eq_div_mul, Nat.pow_succ', Nat.mul_comm]
theorem numD_inj : ∀ {k t s : Nat}, t < 256 ^ k → s < 256 ^ k → numD k t = numD k s → t = s
  | 0, t, s, h1, h2, _ => by simp at h1 h2; omega
  | k + 1, t, s, h1, h2, h => by
    rw [numD, numD] at h
    injection h with a b
    rw [Nat.pow_succ] at h1 h2
    have := numD_inj (k := k) (t := t / 256) (s := s / 256) (by omega) (by omega) b
    have e : (UInt8.ofNat (t % 256)).toNat = (UInt8.ofNat (s % 256)).toNat := by rw [a]
    rw [UInt8.toNat_ofNat', UInt8.toNat_ofNat'] at e
    omega
abbrev numsT (l : List Int) : List UInt8 := l.flatMap num4
theorem numsT_len (l : List Int) : (numsT l).length = 4 * l.length := by
  induction l with
  | nil => rfl
  | cons x l ih =>
    have e : numsT (x :: l) = num4 x ++ numsT l := List.flatMap_cons
    rw [e, List.length_append, ih, num4_len, List.length_cons]; omega
theorem numsT_inj : ∀ {l m : List Int}, l.length = m.length → (∀ x ∈ l, -1 ≤ x ∧ x < 2147483648) → (∀ x ∈ m, -1 ≤ x ∧ x < 2147483648) → numsT l = numsT m → l = m
  | [], [], _, _, _, _ => rfl
  | x :: l, y :: m, hl, h1, h2, h => by
    rw [numsT, numsT, List.flatMap_cons, List.flatMap_cons] at h
    obtain ⟨e1, e2⟩ := List.append_inj h (by rw [num4_len, num4_len])
    rw [num4_inj (h1 x (by simp)).1 (h1 x (by simp)).2 (h2 y (by simp)).1 (h2 y (by simp)).2 e1, numsT_inj (by simpa using hl) (fun z hz => h1 z (by simp [hz])) (fun z hz => h2 z (by simp [hz])) e2]
def keyT (q : Nat × Int × List Int) : List UInt8 := numD 8 q.1 ++ num4 q.2.1 ++ numsT q.2.2
theorem keyT_inj {p q : Nat × Int × List Int} (hp : p.1 < 256 ^ 8) (hq : q.1 < 256 ^ 8) (hp2 : -1 ≤ p.2.1 ∧ p.2.1 < 2147483648) (hq2 : -1 ≤ q.2.1 ∧ q.2.1 < 2147483648) (hl : p.2.2.length = q.2.2.length) (h1 : ∀ x ∈ p.2.2, -1 ≤ x ∧ x < 2147483648) (h2 : ∀ x ∈ q.2.2, -1 ≤ x ∧ x < 2147483648) (h : keyT p = keyT q) : p = q := by
  unfold keyT at h
  obtain ⟨e1, e2⟩ := List.append_inj h (by rw [List.length_append, List.length_append, numD_len, numD_len, num4_len, num4_len])
  obtain ⟨e3, e4⟩ := List.append_inj e1 (by rw [numD_len, numD_len])
  obtain ⟨a, b, c⟩ := p
  obtain ⟨a', b', c'⟩ := q
  rw [show a = a' from numD_inj hp hq e3, show b = b' from num4_inj hp2.1 hp2.2 hq2.1 hq2.2 e4, show c = c' from numsT_inj hl h1 h2 e2]
theorem keyT_len (q : Nat × Int × List Int) : (keyT q).length = 12 + 4 * q.2.2.length := by
  unfold keyT
  rw [List.length_append, List.length_append, numD_len, num4_len, numsT_len]
def keyTV (b : List UInt8) : Value := .string ⟨b.toArray⟩
theorem keyTV_inj {b c : List UInt8} (h : keyTV b = keyTV c) : b = c := by
  unfold keyTV at h
  injection h with h
  injection h with h
  have := congrArg Array.toList h
  simpa using this
/-- A map from texts to their numbers. -/
def bmap (M : List (List UInt8)) : List (Value × Value) := M.zipIdx.map fun p => (keyTV p.1, .int .i64 (p.2 : Int))
theorem bmap_len (M : List (List UInt8)) : (bmap M).length = M.length := by simp [bmap]
theorem bmap_mem {M : List (List UInt8)} {x : List UInt8} (h : x ∈ M) : (keyTV x, Value.int .i64 ((M.idxOf x : Nat) : Int)) ∈ bmap M := by
  unfold bmap
  refine List.mem_map.2 ⟨(x, M.idxOf x), ?_, rfl⟩
  rw [List.mem_zipIdx_iff_getElem?]
  show M[M.idxOf x]? = some x
  rw [List.getElem?_eq_getElem (List.idxOf_lt_length_of_mem h)]
  simp
theorem bmap_none {M : List (List UInt8)} {x : List UInt8} (h : x ∉ M) : ∀ p ∈ bmap M, p.1 ≠ keyTV x := by
  intro p hp he
  obtain ⟨q, hq, rfl⟩ := List.mem_map.1 hp
  rw [List.mem_zipIdx_iff_getElem?] at hq
  have : q.1 = x := keyTV_inj he
  exact h (this ▸ List.mem_of_getElem? hq)
theorem bmap_push (M : List (List UInt8)) (x : List UInt8) : bmap (M ++ [x]) = bmap M ++ [(keyTV x, .int .i64 (M.length : Int))] := by
  unfold bmap
  rw [List.zipIdx_append, List.map_append]
  simp
theorem keyOf9 (b : List UInt8) (hl : b.length ≤ 1000000000) : keyOf Tryd.prog 9 (keyTV b) = some (.string b) :=
  WideMaps.keyOf_string_mk Tryd.underlying9 (s := ⟨b.toArray⟩) (by show b.toArray.size ≤ maxLen; rw [List.size_toArray]; unfold maxLen; omega)
end Go.Proofs.YtochckefnjobhaaDoor

/- mini.keyOf: what tells a state apart. -/
namespace Go.Proofs.YtochckefnjobhaaDoor
open Go Go.RowKit Go.Lib
open X5 (Aut)
set_option linter.unusedVariables false
set_option linter.unusedSimpArgs false
theorem own_more {w w' : World} {B n : Nat} {e : TypeId} {v : Value} {xs : List Value} (h : w.ownsRow B e 1 v n xs) (hb : Below w.heap.size w w') : w'.ownsRow B e 1 v n xs := owns_kept h fun g hg => hb.block g (owns_lt h g hg).2
theorem shr_byte (t k : Nat) : (t : Int) / 2 ^ (8 * k) % 256 = ((UInt8.ofNat (t / 256 ^ k % 256)).toNat : Int) := by
  have e : (2 : Int) ^ (8 * k) = ((256 ^ k : Nat) : Int) := by rw [Int.pow_mul]; simp
  rw [e, UInt8.toNat_ofNat', ← Int.natCast_ediv]
  omega
theorem byteCells_snoc (l : List UInt8) (b : UInt8) : Lib.byteCells (l ++ [b]) = Lib.byteCells l ++ [.int .u8 (b.toNat : Int)] := by simp [Lib.byteCells]
theorem byteCells_app (l m : List UInt8) : Lib.byteCells (l ++ m) = Lib.byteCells l ++ Lib.byteCells m := by simp [Lib.byteCells]
theorem numsT_take {l : List Int} {k : Nat} {x : Int} (h : l[k]? = some x) : numsT (l.take (k + 1)) = numsT (l.take k) ++ num4 x := by
  rw [List.take_add_one, h]
  simp [numsT]

set_option maxRecDepth 100000 in
set_option maxHeartbeats 8000000 in
theorem keyOf2_any {w : World} {nv tv bv : Value} {D : Aut} {K : Nat} {Bk : List Int} (h : DAt w nv tv D) (hD : X6.Ok D K) (hK : K ≤ 1000000) (hb : RowAtI w bv Bk) (hbl : Bk.length = D.next.length) (hbr : ∀ x ∈ Bk, -1 ≤ x ∧ x < 2147483648) (hN : D.next.length ≤ 1000000) (a : Nat) (ha : a < D.next.length) :
    Calls Tryd.prog 60 #[.agg (dval D nv tv), bv, .int .i64 (a : Int)] w fun e w' => e = .returned (keyTV (keyT (X6.keyB D Bk a))) ∧ Below w.heap.size w w' := by
  obtain ⟨dc, hdc⟩ : ∃ dc, dval D nv tv = dc := ⟨_, rfl⟩
  have HD256 := hid (dcell_next h.len nv tv)
  have HD257 := hid (dcell_tags h.len nv tv)
  rw [hdc] at HD256 HD257 ⊢
  obtain ⟨wa, ea⟩ : ∃ wa, w.alloc (.cells dc 30) = wa := ⟨_, rfl⟩
  have hba : Below w.heap.size w wa := by rw [← ea]; exact (Below.refl _ _).alloc (Nat.le_refl _) _
  have hna : wa.heap[w.heap.size]? = some (.cells dc 30 (0, 0)) := by rw [← ea]; exact new_block _ _
  have hsa : wa.heap.size = w.heap.size + 1 := by rw [← ea]; simp
  have hda := h.below hba
  obtain ⟨bn, offn, ro, rc, nc, hno, hbn, cn, hrow⟩ := rowsAt_get hda.rows (rowOf_get ha)
  subst hno
  obtain ⟨t, ht⟩ : ∃ t, D.tags[a]? = some t := ⟨_, List.getElem?_eq_getElem (by rw [hD.tags]; exact ha)⟩
  obtain ⟨bt, offt, tc, hto, hbt, ct, ht64⟩ := tagsAt_get hda.tags ht
  subst hto
  have hbv := hb.below hba
  obtain ⟨bo, bc, hbo⟩ : ∃ bo bc, bv = .slice bo Bk.length bc := by
    obtain ⟨ro, rc, e, _⟩ := hb
    exact ⟨ro, rc, e⟩
  subst hbo
  obtain ⟨ba, hbka⟩ : ∃ ba, Bk[a]? = some ba := ⟨_, List.getElem?_eq_getElem (by rw [hbl]; exact ha)⟩
  obtain ⟨bb, offb, hbb, hbbl, cb⟩ := rowAt_get hbv hbka
  subst hbb
  have hrl := hD.rows a ha
  have c256 : wa.cell? ⟨w.heap.size, 256, none⟩ = some (.slice (some ⟨bn, offn, none⟩) D.next.length nc) := by rw [Lib.cell_of_heap hna]; exact HD256.out
  have c257 : wa.cell? ⟨w.heap.size, 257, none⟩ = some (.slice (some ⟨bt, offt, none⟩) D.tags.length tc) := by rw [Lib.cell_of_heap hna]; exact HD257.out
  obtain ⟨R, hR⟩ : ∃ R, X5.rowOf D a = R := ⟨_, rfl⟩
  have hKey : X6.keyB D Bk a = (t, ba, R.map fun n => if n < 0 then n else Bk.getD n.toNat (-1)) := by
    unfold X6.keyB
    rw [hR, List.getD_eq_getElem?_getD, ht, List.getD_eq_getElem?_getD, hbka]; rfl
  rw [hKey]
  obtain ⟨L, hL⟩ : ∃ L, (R.map fun n => if n < 0 then n else Bk.getD n.toNat (-1)) = L := ⟨_, rfl⟩
  rw [hL]
  have HL := hid hL
  clear hL
  have hrb := hD.ends a ha
  rw [hR] at hrow cn hrl hrb
  rw [hrl] at cn
  have h1 : (0 : Int) ≤ (a : Int) := by omega
  have h2 : (a : Int) < (D.next.length : Int) := by omega
  have h3 : (a : Int) < (D.tags.length : Int) := by have := hD.tags; omega
  have h4 : (a : Int) < (Bk.length : Int) := by omega
  have hw1 : IntKind.i64.wrap (4 * (K : Int)) = 4 * (K : Int) := by simp [IntKind.wrap, IntKind.signed, IntKind.bits]; omega
  have hw2 : IntKind.i64.wrap (12 + 4 * (K : Int)) = 12 + 4 * (K : Int) := by simp [IntKind.wrap, IntKind.signed, IntKind.bits]; omega
  have HBA := hid hba
  have HNA := hid hna
  have HROW := hid hrow
  have HBV := hid hbv
  have HBR := hid hbr
  have HRL := hid hrl
  have HRB := hid hrb
  have HBL := hid hbl
  have HT := hid ht64
  have HBa := hid (hbr _ (List.mem_of_getElem? hbka))
  have HTL := hid hD.tags
  have HSa := hid hsa
  have HC := hid (And.intro c256 (And.intro c257 (And.intro cn (And.intro ct cb))))
  have HLT := hid (And.intro hbn (And.intro hbt hbbl))
  clear h hD hb hba hna hda hrow hbv hbr hrl hrb hbl HD256 HD257 hdc hKey hsa ht hbka
  obtain ⟨j0, hj, hk0, hk1, hk2⟩ := info_parts info5
  have HJ := hid (And.intro hj (And.intro hk0 (And.intro hk1 hk2)))
  clear hj hk0 hk1 hk2
  go_enter Tryd.func60, Tryd.ntmps60
  go_wp2_with (at_make; refine wpList_make_own _ rfl (.const (.int .i64 0)) (.tmp 18) 49 rfl wa.heap.size 5 j0 (.int .u8 0) 1 Tryd.underlying49 HJ.out.1 HJ.out.2.1 HJ.out.2.2.1 .i64 .i64 (12 + 4 * (K : Int)) (12 + 4 * K) rfl rfl (by omega) (by rw [HJ.out.2.2.2]; omega) (by unfold maxLen; omega) (Nat.le_refl _) ?_)
  intro w2 hown2 hg2
  have hb2 : Below wa.heap.size wa w2 := (Below.refl _ _).grown hg2 (Nat.le_refl _) (by simp)
  have HO2 := hid hown2
  have HB2 := hid hb2
  clear hown2 hg2 hb2
  go_wp2_with fail
  go_loopw [7, 8] (fun t7 t8 wr => ∃ (k s : Nat) (o : Option Addr) (c : Nat), k ≤ 8 ∧ Hid (s = 8 * k) ∧ t8 = .int .i64 (s : Int) ∧ t7 = .slice o k c ∧ Hid (wr.ownsRow wa.heap.size 5 1 (.slice o k c) k (Lib.byteCells (numD k t))) ∧ Hid (Below wa.heap.size wa wr)) (fun _ t8 _ => 64 - (RowKit.intOf t8).toNat)
  case atStart => exact ⟨0, 0, _, _, by omega, hid rfl, rfl, rfl, HO2, HB2⟩
  case round =>
    obtain ⟨k, s, ko, kc, hk, HSK, rfl, rfl, HO, HB⟩ := hrel
    by_cases hlt : k < 8
    · have g1 : (s : Int) < 64 := by have := HSK.out; omega
      have g2 : (0 : Int) ≤ (s : Int) := by omega
      have e256 := cell_bel HB.out (b := w.heap.size) (off := 257) (by have := HSa.out; omega) HC.out.2.1
      have et := cell_bel HB.out HLT.out.2.1 HC.out.2.2.2.1
      obtain ⟨tb, htb⟩ : ∃ tb : Int, (t : Int) / 2 ^ s % 256 = tb := ⟨_, rfl⟩
      have HTB := hid (show numD (k + 1) t = numD k t ++ [UInt8.ofNat (t / 256 ^ k % 256)] ∧ tb = ((UInt8.ofNat (t / 256 ^ k % 256)).toNat : Int) from ⟨numD_snoc k t, by rw [← htb, HSK.out]; exact shr_byte t k⟩)
      obtain ⟨w5, e5⟩ : ∃ w5, wr.alloc (.cells #[.int .u8 tb] 5) = w5 := ⟨_, rfl⟩
      have hb5 : Below wr.heap.size wr w5 := by rw [← e5]; exact (Below.refl _ _).alloc (Nat.le_refl _) _
      have HN5 := hid (show w5.heap[wr.heap.size]? = some (.cells #[.int .u8 tb] 5 (0, 0)) from by rw [← e5]; exact new_block _ _)
      have HO5 := hid (own_more HO.out hb5)
      have HB5 := hid (HB.out.trans (hb5.mono HB.out.size))
      have hd5 := Nat.le_trans HB.out.size hb5.size
      clear hb5
      go_wp2_with (at_builtin; refine wpList_push1 rfl (.tmp 24) (.tmp 33) 49 5 rfl (.int .u8 0) 1 Tryd.underlying49 info5 rfl (by decide) wa.heap.size (.slice ko k kc) k (Lib.byteCells (numD k t)) rfl HO5.out wr.heap.size rfl (.int .u8 tb) HN5.out rfl (by omega) hd5 ?_)
      intro v6 w6 hown6 hg6 hat6
      obtain ⟨so6, sc6, rfl⟩ := own_shape hown6
      have HO6 := hid hown6
      have HB6 := hid (HB5.out.grown hg6 hd5 (fun q hq => (owns_lt HO5.out q hq).1))
      clear hown6 hg6 hat6 e5 htb
      go_wp2_with fail
      refine ⟨⟨k + 1, s + 8, so6, sc6, by omega, hid (by have := HSK.out; omega), rfl, rfl, hid ?_, HB6⟩, ?_⟩
      · have h9 := HO6.out
        rw [HTB.out.1, byteCells_snoc, ← HTB.out.2]
        exact h9
      · show 64 - ((s : Int) + 8).toNat < 64 - ((s : Int)).toNat
        omega
    · obtain rfl : k = 8 := by omega
      have g1 : ¬ (s : Int) < 64 := by have := HSK.out; omega
      have cb' := cell_bel HB.out HLT.out.2.2 HC.out.2.2.2.2
      have hd := HB.out.size
      have KA := hid (append_number ba HBa.out.1 HBa.out.2 HO.out hd (by omega))
      clear hd
      go_wp2_with fail
      refine KA.out.mono ?_
      rintro e w5 ⟨v5, rfl, hown5, hb5⟩
      obtain ⟨so5, sc5, rfl⟩ := own_shape hown5
      have hb15 : Below wa.heap.size wa w5 := HB.out.trans hb5
      have c256' := cell_bel hb15 (b := w.heap.size) (off := 256) (by have := HSa.out; omega) HC.out.1
      have cn' := cell_bel hb15 HLT.out.1 HC.out.2.2.1
      obtain ⟨n5, hn5⟩ : ∃ n5, 8 + 4 = n5 := ⟨_, rfl⟩
      rw [hn5]
      have HN5 := hid (show n5 = 12 + 4 * 0 from by omega)
      have HO5 := hid (show w5.ownsRow wa.heap.size 5 1 (.slice so5 n5 sc5) n5 (Lib.byteCells (numD 8 t ++ num4 ba ++ numsT (L.take 0))) from by
        have h9 := hown5
        rw [hn5] at h9
        simpa [byteCells_app, numsT] using h9)
      have HB15 := hid hb15
      clear hown5 hb5 hb15 KA hn5 cb'
      go_wp2_with fail
      clear c256' cn'
      go_loopw [7, 47] (fun t7 t47 wr => ∃ (j n : Nat) (o : Option Addr) (c : Nat), j ≤ K ∧ Hid (n = 12 + 4 * j) ∧ t47 = .int .i64 (j : Int) ∧ t7 = .slice o n c ∧ Hid (wr.ownsRow wa.heap.size 5 1 (.slice o n c) n (Lib.byteCells (numD 8 t ++ num4 ba ++ numsT (L.take j)))) ∧ Hid (Below wa.heap.size wa wr)) (fun _ t47 _ => K - (RowKit.intOf t47).toNat)
      case atStart => exact ⟨0, n5, so5, sc5, Nat.zero_le _, HN5, rfl, rfl, HO5, HB15⟩
      case round =>
        clear HO HB HN5 HO5 HB15
        obtain ⟨j, n, jo, jc, hj, HN, rfl, rfl, HO, HB⟩ := hrel
        by_cases hlt2 : j < K
        · have k1 : (j : Int) < (K : Int) := by omega
          have k2 : (0 : Int) ≤ (j : Int) := by omega
          obtain ⟨z, hz⟩ : ∃ z, R[j]? = some z := ⟨_, List.getElem?_eq_getElem (by rw [HRL.out]; exact hlt2)⟩
          obtain ⟨br, offr, hro, hbr, cr⟩ := rowAt_get HROW.out hz
          subst hro
          have hzb := HRB.out z (List.mem_of_getElem? hz)
          have cr' := cell_bel HB.out hbr cr
          have hLj : L[j]? = some (if z < 0 then z else Bk.getD z.toNat (-1)) := by rw [← HL.out, List.getElem?_map, hz]; rfl
          have hd := HB.out.size
          by_cases hz0 : z < 0
          · have k3 : decide (0 ≤ z) = false := by simpa using hz0
            rw [if_pos hz0] at hLj
            have KA := hid (append_number z hzb.1 (by omega) HO.out hd (by have := HN.out; omega))
            have HT := hid (numsT_take hLj)
            clear hz hLj hzb hd cr
            go_wp2_with fail
            refine KA.out.mono ?_
            rintro e w6 ⟨v6, rfl, hown6, hb6⟩
            obtain ⟨so6, sc6, rfl⟩ := own_shape hown6
            obtain ⟨n6, hn6⟩ : ∃ n6, n + 4 = n6 := ⟨_, rfl⟩
            rw [hn6] at hown6 ⊢
            have HO6 := hid hown6
            have HB6 := hid (HB.out.trans hb6)
            have HN6 := hid hn6
            clear hown6 hb6 hn6 KA
            go_wp2_with fail
            refine ⟨⟨j + 1, n6, so6, sc6, by omega, hid (by have := HN.out; have := HN6.out; omega), rfl, rfl, hid ?_, HB6⟩, ?_⟩
            · have h9 := HO6.out
              rw [HT.out, ← List.append_assoc, byteCells_app (_ ++ _) (num4 z)]
              exact h9
            · show K - ((j : Int) + 1).toNat < K - ((j : Int)).toNat
              omega
          · obtain ⟨m, rfl⟩ : ∃ m : Nat, z = (m : Int) := ⟨z.toNat, by omega⟩
            have k3 : decide ((0 : Int) ≤ (m : Int)) = true := by simp
            rw [if_neg hz0, Int.toNat_natCast] at hLj
            obtain ⟨bm, hbm⟩ : ∃ bm, Bk[m]? = some bm := ⟨_, List.getElem?_eq_getElem (by have := HBL.out; omega)⟩
            obtain ⟨bb2, offb2, e2, hbbl2, cb2⟩ := rowAt_get HBV.out hbm
            injection e2 with e2
            injection e2 with e2 e3
            subst e2 e3
            have cb3 := cell_bel HB.out hbbl2 cb2
            have hLj2 : L[j]? = some bm := by rw [hLj, List.getD_eq_getElem?_getD, hbm]; rfl
            have hmb := HBR.out bm (List.mem_of_getElem? hbm)
            have KA := hid (append_number bm hmb.1 hmb.2 HO.out hd (by have := HN.out; omega))
            have HT := hid (numsT_take hLj2)
            have k4 : (0 : Int) ≤ (m : Int) := by omega
            have k5 : (m : Int) < (Bk.length : Int) := by have := HBL.out; omega
            clear hz hLj hLj2 hzb hd cr hbm cb2 hmb hz0
            go_wp2_with fail
            refine KA.out.mono ?_
            rintro e w6 ⟨v6, rfl, hown6, hb6⟩
            obtain ⟨so6, sc6, rfl⟩ := own_shape hown6
            obtain ⟨n6, hn6⟩ : ∃ n6, n + 4 = n6 := ⟨_, rfl⟩
            rw [hn6] at hown6 ⊢
            have HO6 := hid hown6
            have HB6 := hid (HB.out.trans hb6)
            have HN6 := hid hn6
            clear hown6 hb6 hn6 KA
            go_wp2_with fail
            refine ⟨⟨j + 1, n6, so6, sc6, by omega, hid (by have := HN.out; have := HN6.out; omega), rfl, rfl, hid ?_, HB6⟩, ?_⟩
            · have h9 := HO6.out
              rw [HT.out, ← List.append_assoc, byteCells_app (_ ++ _) (num4 bm)]
              exact h9
            · show K - ((j : Int) + 1).toNat < K - ((j : Int)).toNat
              omega
        · have hjK : j = K := by omega
          have k1 : ¬ (j : Int) < (K : Int) := by omega
          have hLL : L.length = K := by rw [← HL.out, List.length_map]; exact HRL.out
          have hTk : L.take j = L := List.take_of_length_le (by omega)
          have hlen : (numD 8 t ++ num4 ba ++ numsT L).length = n := by
            have h9 := keyT_len (t, ba, L)
            have h8 := HN.out
            unfold keyT at h9
            simp only at h9
            omega
          have hown := HO.out
          rw [hTk] at hown
          have hcv := conv49 wr wa.heap.size (.slice jo n jc) (numD 8 t ++ num4 ba ++ numsT L) (by rw [hlen]; exact hown)
          have HX := hid (show (Value.string ⟨(numD 8 t ++ num4 ba ++ numsT L).toArray⟩) = keyTV (keyT (t, ba, L)) from rfl)
          obtain ⟨KV, hKV⟩ : ∃ KV, (⟨(numD 8 t ++ num4 ba ++ numsT L).toArray⟩ : ByteArray) = KV := ⟨_, rfl⟩
          rw [hKV] at hcv HX
          have HBB := hid (HBA.out.trans (HB.out.mono (by have := HSa.out; omega)))
          clear hown hTk hlen hLL hKV
          go_wp2_with fail
          go_ret
          refine ⟨?_, HBB.out⟩
          rw [← HX.out]
          rfl
end Go.Proofs.YtochckefnjobhaaDoor
