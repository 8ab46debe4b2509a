/- nfa's machine: has, Tags, Begin; sets of bits. -/
import Derived.Test.YtochckefnjobhaaGreatDoorQc
import Derived.Test.YtochckefnjobhaaGreatDoorSa
import Derived.Laws.Bits64
import Derived.Laws.Bits64b
import Derived.Test.YtochckefnjobhaaGreatDoorRr
namespace Go.Proofs.YtochckefnjobhaaGreatDoor
open Go Go.RowKit Go.Lib
open X3 (RX Pl)
set_option linter.unusedVariables false
set_option linter.unusedSimpArgs false
abbrev zs (l : List Int) : List Value := l.map (Value.int .i64)
theorem ints_zs (A : List Nat) : ints A = zs (A.map fun (q : Nat) => (q : Int)) := by simp [ints, zs, List.map_map]
def hasZ (n : Nat) (z : Int) : Bool := decide (0 ≤ z ∧ z < (n : Int))
set_option maxHeartbeats 1000000 in
theorem has_place {T : Nat → Nat} {B m : Nat} {w : World} {pv bv : Value} {AS : List Value} {P : List Pl} (h : Mach T B m w pv AS P bv) (z : Int) :
  Calls Tryz.prog 100 #[.pointer (some ⟨m, 0, none⟩), .int .i64 z] w fun e w' => e = .returned (.bool (hasZ P.length z)) ∧ w' = w := by
 obtain ⟨po, pc, rfl⟩ : ∃ po pc, pv = .slice po P.length pc := by
  rcases h.row.2 with ⟨rfl, h0⟩ | ⟨g, cap, cur, rfl, _⟩
  ·exact ⟨none, 0, by rw [h0]⟩
  ·exact ⟨_, _, rfl⟩
 have cm : w.cell? ⟨m, 0, none⟩ = some (.slice po P.length pc) := by rw [Lib.cell_of_heap h.box]; rfl
 clear h
 by_cases h0 : 0 ≤ z
 ·by_cases h1 : z < (P.length : Int)
  ·have hv : hasZ P.length z = true := by simp [hasZ, h0, h1]
   rw [hv]
   clear hv
   go_enter Tryz.func100, Tryz.ntmps100
   go_wp2_with fail
   go_ret
   exact ⟨rfl, rfl⟩
  ·have hv : hasZ P.length z = false := by simp [hasZ, h1]
   rw [hv]
   clear hv
   go_enter Tryz.func100, Tryz.ntmps100
   go_wp2_with fail
   go_ret
   exact ⟨rfl, rfl⟩
 ·have hv : hasZ P.length z = false := by simp [hasZ, h0]
  rw [hv]
  clear hv
  go_enter Tryz.func100, Tryz.ntmps100
  go_wp2_with fail
  go_ret
  exact ⟨rfl, rfl⟩
theorem union_any (a b : Nat) (ha : a < 18446744073709551616) (hb : b < 18446744073709551616) (w : World) :
  Calls Tryz.prog 102 #[.int .u64 (a : Int), .int .u64 (b : Int)] w fun e w' => e = .returned (.int .u64 ((a ||| b : Nat) : Int)) ∧ w' = w := by
 have e := hid (bits_or_u64_nat a b ha hb)
 go_enter Tryz.func102, Tryz.ntmps102
 go_wp2_with fail
 go_ret
 exact ⟨by rw [e.out]; rfl, rfl⟩
def bitN (n : Int) : Nat := if 0 ≤ n ∧ n < 64 then 2 ^ n.toNat else 0
theorem bitN_lt (n : Int) : bitN n < 18446744073709551616 := by
 unfold bitN
 split
 ·have := Nat.pow_lt_pow_right (a := 2) (by decide) (show n.toNat < 64 by omega)
  simpa using this
 ·decide
theorem wrap_pow (n : Int) (h0 : 0 ≤ n) (h1 : n < 64) : IntKind.u64.wrap (2 ^ n.toNat) = ((bitN n : Nat) : Int) := by
 have hb := bitN_lt n
 have e : ((2 : Int) ^ n.toNat) = ((bitN n : Nat) : Int) := by unfold bitN; rw [if_pos ⟨h0, h1⟩]; simp
 rw [e, IntKind.wrap_u64]
 omega
theorem bit_any (n : Int) (w : World) : Calls Tryz.prog 68 #[.int .i64 n] w fun e w' => e = .returned (.int .u64 ((bitN n : Nat) : Int)) ∧ w' = w := by
 by_cases h : 0 ≤ n ∧ n < 64
 ·obtain ⟨h0, h1⟩ := h
  go_enter Tryz.func68, Tryz.ntmps68
  go_wp2
  go_ret
  exact ⟨by rw [wrap_pow n h0 h1]; rfl, rfl⟩
 ·by_cases h0 : n < 0
  ·have e : bitN n = 0 := by unfold bitN; rw [if_neg h]
   rw [e]
   have H := hid h; clear h
   have E := hid e; clear e
   go_enter Tryz.func68, Tryz.ntmps68
   go_wp2
   go_ret
   exact ⟨rfl, rfl⟩
  ·have e : bitN n = 0 := by unfold bitN; rw [if_neg h]
   rw [e]
   have h1 : 64 ≤ n := by omega
   have H := hid h; clear h
   have E := hid e; clear e
   go_enter Tryz.func68, Tryz.ntmps68
   go_wp2
   go_ret
   exact ⟨rfl, rfl⟩
theorem row_at {w : World} {B : Nat} {v : Value} {l : List Int} (h : w.ownsRow B 3 1 v l.length (zs l)) : ∃ vo vc, v = .slice vo l.length vc ∧ ∀ j (hj : j < l.length), ∃ g, vo = some ⟨g, 0, none⟩ ∧ w.cell? ⟨g, j, none⟩ = some (.int .i64 l[j]) := by
 rcases h.2 with ⟨rfl, h0⟩ | ⟨g, cap, cur, rfl, _⟩
 ·exact ⟨none, 0, by rw [h0], fun j hj => by omega⟩
 ·exact ⟨_, cap, rfl, fun j hj => ⟨g, rfl, by rw [h.cellAt j (by omega)]; simp [zs, hj]⟩⟩
def ofZ (l : List Int) : Nat := l.foldl (fun s n => s ||| bitN n) 0
theorem ofZ_fold_lt (l : List Int) : ∀ s, s < 18446744073709551616 → l.foldl (fun s n => s ||| bitN n) s < 18446744073709551616 := by
 induction l with
 | nil => intro s h; exact h
 | cons a l ih => intro s h; exact ih _ (Nat.or_lt_two_pow (n := 64) h (bitN_lt a))
theorem ofZ_lt (l : List Int) : ofZ l < 18446744073709551616 := ofZ_fold_lt l 0 (by decide)
theorem fold_take {α β : Type} (f : β → α → β) (b : β) (l : List α) (k : Nat) (hk : k < l.length) : (l.take (k + 1)).foldl f b = f ((l.take k).foldl f b) l[k] := by
 rw [List.take_add_one, List.getElem?_eq_getElem hk, List.foldl_append]
 rfl
set_option maxRecDepth 100000 in
set_option maxHeartbeats 1000000 in
theorem of_any {w : World} {B : Nat} {v : Value} {l : List Int} (h : w.ownsRow B 3 1 v l.length (zs l)) (hl : l.length < 9223372036854775808) :
  Calls Tryz.prog 41 #[v] w fun e w' => e = .returned (.int .u64 ((ofZ l : Nat) : Int)) ∧ w' = w := by
 obtain ⟨vo, vc, rfl, hrow⟩ := row_at h
 clear h
 have HROW := hid hrow
 clear hrow
 go_enter Tryz.func41, Tryz.ntmps41
 go_wp2_with fail
 go_loopw [3, 8] (fun t3 t8 wr => ∃ k : Nat, k ≤ l.length ∧ t8 = .int .i64 (k : Int) ∧ (∃ s : Nat, t3 = .int .u64 (s : Int) ∧ Hid (s = ofZ (l.take k))) ∧ wr = w) (fun _ t8 _ => l.length - (RowKit.intOf t8).toNat)
 case atStart => exact ⟨0, Nat.zero_le _, rfl, ⟨0, rfl, hid rfl⟩, rfl⟩
 case round =>
  obtain ⟨k, hk, rfl, ⟨s, rfl, hs⟩, rfl⟩ := hrel
  have hsb : s < 18446744073709551616 := by rw [hs.out]; exact ofZ_lt _
  by_cases hlt : k < l.length
  ·obtain ⟨g, rfl, hc⟩ := HROW.out k hlt
   have h1 : (k : Int) < (l.length : Int) := by omega
   have h2 : (0 : Int) ≤ (k : Int) := by omega
   have hn := fold_take (fun (s : Nat) (n : Int) => s ||| bitN n) 0 l k hlt
   have HN : Hid (s ||| bitN l[k] = ofZ (l.take (k + 1))) := hid (by rw [hs.out]; exact hn.symm)
   have e := hid (bits_or_u64_nat s (bitN l[k]) hsb (bitN_lt _))
   clear hn
   generalize l[k] = z at *
   have kb := hid fun w => bit_any z w
   go_wp2_with fail
   refine (kb.out _).mono ?_
   rintro e9 w9 ⟨rfl, rfl⟩
   go_wp2_with fail
   refine ⟨⟨k + 1, by omega, rfl, ⟨s ||| bitN z, by rw [e.out], HN⟩, trivial⟩, ?_⟩
   show l.length - ((k : Int) + 1).toNat < l.length - ((k : Int)).toNat
   omega
  ·have h1 : ¬ (k : Int) < (l.length : Int) := by omega
   obtain rfl : k = l.length := by omega
   rw [List.take_length] at hs
   go_wp2_with fail
   go_ret
   exact ⟨by rw [← hs.out]; rfl, rfl⟩
def tagsZ (T : Nat → Nat) (n : Nat) (l : List Int) : Nat := l.foldl (fun s z => if hasZ n z then s ||| T z.toNat else s) 0
theorem tagsZ_fold_lt {T : Nat → Nat} (hT : ∀ k, T k < 18446744073709551616) (n : Nat) (l : List Int) : ∀ s, s < 18446744073709551616 → l.foldl (fun s z => if hasZ n z then s ||| T z.toNat else s) s < 18446744073709551616 := by
 induction l with
 | nil => intro s h; exact h
 | cons a l ih =>
  intro s h
  refine ih _ ?_
  show (if hasZ n a = true then s ||| T a.toNat else s) < _
  split
  ·exact Nat.or_lt_two_pow (n := 64) h (hT _)
  ·exact h
theorem tagsZ_lt {T : Nat → Nat} (hT : ∀ k, T k < 18446744073709551616) (n : Nat) (l : List Int) : tagsZ T n l < 18446744073709551616 := tagsZ_fold_lt hT n l 0 (by decide)
set_option maxRecDepth 100000 in
set_option maxHeartbeats 1000000 in
theorem tags_any {T : Nat → Nat} {B m : Nat} {w : World} {pv bv : Value} {AS : List Value} {P : List Pl} (hM : Mach T B m w pv AS P bv) (hT : ∀ k, T k < 18446744073709551616) {Bv : Nat} {v : Value} {l : List Int} (h : w.ownsRow Bv 3 1 v l.length (zs l)) (hl : l.length < 9223372036854775808) :
  Calls Tryz.prog 79 #[.pointer (some ⟨m, 0, none⟩), v] w fun e w' => e = .returned (.int .u64 ((tagsZ T P.length l : Nat) : Int)) ∧ w' = w := by
 obtain ⟨vo, vc, rfl, hrow⟩ := row_at h
 have HROW := hid hrow
 have HM := hid hM
 have HT := hid hT
 clear hrow h hM hT
 go_enter Tryz.func79, Tryz.ntmps79
 go_wp2_with fail
 go_loopw [5, 10] (fun t3 t8 wr => ∃ k : Nat, k ≤ l.length ∧ t8 = .int .i64 (k : Int) ∧ (∃ s : Nat, t3 = .int .u64 (s : Int) ∧ Hid (s = tagsZ T P.length (l.take k))) ∧ wr = w) (fun _ t8 _ => l.length - (RowKit.intOf t8).toNat)
 case atStart => exact ⟨0, Nat.zero_le _, rfl, ⟨0, rfl, hid rfl⟩, rfl⟩
 case round =>
  obtain ⟨k, hk, rfl, ⟨s, rfl, hs⟩, rfl⟩ := hrel
  have hsb : s < 18446744073709551616 := by rw [hs.out]; exact tagsZ_lt HT.out _ _
  by_cases hlt : k < l.length
  ·obtain ⟨g, rfl, hc⟩ := HROW.out k hlt
   have h1 : (k : Int) < (l.length : Int) := by omega
   have h2 : (0 : Int) ≤ (k : Int) := by omega
   have hn := fold_take (fun (s : Nat) (z : Int) => if hasZ P.length z then s ||| T z.toNat else s) 0 l k hlt
   have HN : Hid ((if hasZ P.length l[k] then s ||| T l[k].toNat else s) = tagsZ T P.length (l.take (k + 1))) := hid (by rw [hs.out]; exact hn.symm)
   clear hn
   generalize l[k] = z at *
   have kb := hid fun (z : Int) => has_place HM.out z
   by_cases hz : hasZ P.length z = true
   ·have hz2 : 0 ≤ z ∧ z < (P.length : Int) := by simpa [hasZ] using hz
    obtain ⟨n, rfl⟩ : ∃ n : Nat, z = (n : Int) := ⟨z.toNat, by omega⟩
    rw [if_pos hz, Int.toNat_natCast] at HN
    obtain ⟨pl, hpl⟩ : ∃ pl, P[n]? = some pl := ⟨_, List.getElem?_eq_getElem (by omega)⟩
    obtain ⟨pg, cap, kd, x, y, zz, u, av, rfl, hav, hbc, hno, c0, c1, c2, c3, c4, c5, c6, c7, c8⟩ := HM.out.at_ hpl
    have cm : wr.cell? ⟨m, 0, none⟩ = some (.slice (some ⟨pg, 0, none⟩) P.length cap) := by rw [Lib.cell_of_heap HM.out.box]; rfl
    have ku := hid (union_any s (T n) hsb (HT.out n) wr)
    have h3 := hz2.2
    have h4 := hz2.1
    have HZ := hid hz
    clear hz hz2 hpl hav hbc hno c0 c1 c2 c3 c4 c5 c6 c7
    go_wp2_with fail
    refine (kb.out _).mono ?_
    rintro e9 w9 ⟨rfl, rfl⟩
    rw [HZ.out]
    go_wp2_with fail
    refine ku.out.mono ?_
    rintro e9 w9 ⟨rfl, rfl⟩
    go_wp2_with fail
    refine ⟨⟨k + 1, by omega, rfl, ⟨s ||| T n, rfl, HN⟩, trivial⟩, ?_⟩
    show l.length - ((k : Int) + 1).toNat < l.length - ((k : Int)).toNat
    omega
   ·have hz3 : hasZ P.length z = false := by simpa using hz
    rw [if_neg hz] at HN
    have HZ := hid hz3
    clear hz hz3
    go_wp2_with fail
    refine (kb.out _).mono ?_
    rintro e9 w9 ⟨rfl, rfl⟩
    rw [HZ.out]
    go_wp2_with fail
    refine ⟨⟨k + 1, by omega, rfl, ⟨s, rfl, HN⟩, trivial⟩, ?_⟩
    show l.length - ((k : Int) + 1).toNat < l.length - ((k : Int)).toNat
    omega
  ·have h1 : ¬ (k : Int) < (l.length : Int) := by omega
   obtain rfl : k = l.length := by omega
   rw [List.take_length] at hs
   go_wp2_with fail
   go_ret
   exact ⟨by rw [← hs.out]; rfl, rfl⟩
end Go.Proofs.YtochckefnjobhaaGreatDoor
namespace Go.Proofs.YtochckefnjobhaaGreatDoor
open Go Go.RowKit Go.Lib
open X3 (RX Pl)
set_option linter.unusedVariables false
set_option linter.unusedSimpArgs false
def okB : RX → Prop
 | .bytes x y z u => x < 2 ^ 64 ∧ y < 2 ^ 64 ∧ z < 2 ^ 64 ∧ u < 2 ^ 64
 | _ => True
theorem node_has {b : RX} (h : okB b) (x : Nat) (hx : x < 256) (w : World) : Calls Tryz.prog 101 #[nodeOf b, .int .u8 (x : Int)] w fun e w' => e = .returned (.bool (X3.hasX b x)) ∧ Below w.heap.size w w' := by
 cases b with
 | bytes a b c d => exact has_any (S := fun _ => True) (w0 := w) (.bytes a b c d h.1 h.2.1 h.2.2.1 h.2.2.2) x hx w
 | empty => exact has_any (S := fun _ => True) (w0 := w) .empty x hx w
 | cat l => exact has_any (S := fun _ => True) (w0 := w) .empty x hx w
 | alt l => exact has_any (S := fun _ => True) (w0 := w) .empty x hx w
 | star r => exact has_any (S := fun _ => True) (w0 := w) .empty x hx w
def nxt (P : List Pl) (b : Nat) (z : Int) : Option Nat := if hasZ P.length z then (match P[z.toNat]? with | some pl => if X3.hasX pl.b b then some pl.next else none | none => none) else none
theorem nxt_mem {P : List Pl} {b : Nat} {l : List Int} {n : Nat} : n ∈ l.filterMap (nxt P b) ↔ ∃ (p : Nat) (pl : Pl), (p : Int) ∈ l ∧ P[p]? = some pl ∧ X3.hasX pl.b b = true ∧ pl.next = n := by
 rw [List.mem_filterMap]
 constructor
 ·rintro ⟨z, hz, h⟩
  unfold nxt at h
  split at h
  ·rename_i hh
   have hz2 : 0 ≤ z ∧ z < (P.length : Int) := by simpa [hasZ] using hh
   split at h
   ·rename_i pl hp
    split at h
    ·rename_i hx
     injection h with h
     exact ⟨z.toNat, pl, by rw [Int.toNat_of_nonneg hz2.1]; exact hz, hp, hx, h⟩
    ·cases h
   ·cases h
  ·cases h
 ·rintro ⟨p, pl, hm, hp, hx, rfl⟩
  refine ⟨_, hm, ?_⟩
  have hlt := (List.getElem?_eq_some_iff.1 hp).1
  unfold nxt
  rw [if_pos (by simp [hasZ]; omega), Int.toNat_natCast, hp]
  simp [hx]
theorem filterMap_take {α β : Type} (f : α → Option β) (l : List α) (k : Nat) (hk : k < l.length) : (l.take (k + 1)).filterMap f = (l.take k).filterMap f ++ (f l[k]).toList := by
 rw [List.take_add_one, List.getElem?_eq_getElem hk, List.filterMap_append]
 cases hq : f l[k] <;> simp [hq]
theorem Closed.congr {P : List Pl} {TS : List Nat} {S S' : Nat → Prop} {A : List Nat} (h : X4.Closed P TS S A) (hS : ∀ n, S n ↔ S' n) : X4.Closed P TS S' A :=
 ⟨h.up, fun q => by rw [h.is]; simp only [hS]⟩
theorem Mach.own_lt {T : Nat → Nat} {B m : Nat} {w : World} {pv bv : Value} {AS : List Value} {P : List Pl} (h : Mach T B m w pv AS P bv) {g : Nat} (ho : Own m pv AS g) : g < w.heap.size := by
 rcases ho with rfl | hg | ⟨a, ha, hg⟩
 ·exact (Array.getElem?_eq_some_iff.1 h.box).1
 ·exact (owns_lt h.row g hg).2
 ·obtain ⟨k, hk, rfl⟩ := List.getElem_of_mem ha
  obtain ⟨pl, hpl⟩ : ∃ pl, P[k]? = some pl := ⟨_, List.getElem?_eq_getElem (by rw [← h.lenA]; exact hk)⟩
  exact (owns_lt (h.also k pl _ hpl (List.getElem?_eq_getElem hk)) g hg).2
structure MW (T : Nat → Nat) (TS : List Nat) (P : List Pl) : Prop where
 tl : TS.length = P.length
 ts : ∀ k, k < P.length → TS[k]? = some (T k)
 tb : ∀ k, T k < 18446744073709551616
 bd : X3.Bd P P.length
 ok : ∀ pl ∈ P, okB pl.b
theorem len_mu (P : List Pl) : P.length ≤ X3.muL P := by
 induction P with
 | nil => simp
 | cons pl P ih => have e : X3.muL (pl :: P) = 1 + pl.also.length + X3.muL P := by simp [X3.muL]
                   simp only [List.length_cons]; omega
set_option maxRecDepth 100000 in
set_option maxHeartbeats 8000000 in
theorem step_any {T : Nat → Nat} {TS : List Nat} {B m : Nat} {w : World} {pv bv : Value} {AS : List Value} {P : List Pl} (hM : Mach T B m w pv AS P bv) (hW : MW T TS P) {Bv : Nat} {v : Value} {l : List Int} (h : w.ownsRow Bv 3 1 v l.length (zs l)) (hl : l.length + X3.muL P ≤ 1000000) (b : Nat) (hb : b < 256) :
  Calls Tryz.prog 78 #[.pointer (some ⟨m, 0, none⟩), v, .int .u8 (b : Int)] w fun e w' => ∃ rv A, e = .returned rv ∧ X4.Closed P TS (fun n => ∃ (p : Nat) (pl : Pl), (p : Int) ∈ l ∧ P[p]? = some pl ∧ X3.hasX pl.b b = true ∧ pl.next = n) A ∧ w'.ownsRow w.heap.size 3 1 rv A.length (ints A) ∧ (A = [] → rv = .slice none 0 0) ∧ Below w.heap.size w w' := by
 obtain ⟨vo, vc, rfl, hrow⟩ := row_at h
 have hvl : ∀ g, (Value.slice vo l.length vc).ownBlock = some g → g < w.heap.size := fun g hg => (owns_lt h g hg).2
 have HROW := hid hrow
 have HM := hid hM
 have HW := hid hW
 have HVL := hid hvl
 have hll : l.length ≤ 1000000 := by omega
 clear hrow h hM hW hvl
 go_enter Tryz.func78, Tryz.ntmps78
 go_wp2_with fail
 go_loopw [7, 12] (fun t7 t12 wr => ∃ (k : Nat) (F : List Nat), k ≤ l.length ∧ t12 = .int .i64 (k : Int) ∧ Hid (F = (l.take k).filterMap (nxt P b)) ∧ Hid (wr.ownsRow w.heap.size 3 1 t7 F.length (ints F)) ∧ Below w.heap.size w wr) (fun _ t12 _ => l.length - (RowKit.intOf t12).toNat)
 case atStart => exact ⟨0, [], Nat.zero_le _, rfl, hid rfl, hid ⟨rfl, .inl ⟨rfl, rfl⟩⟩, Below.refl _ _⟩
 case round =>
  obtain ⟨k, F, hk, rfl, HF, HR, hB⟩ := hrel
  have hFl : F.length ≤ k := by rw [HF.out]; exact Nat.le_trans (List.length_filterMap_le _ _) (by simp; omega)
  by_cases hlt : k < l.length
  ·obtain ⟨g, rfl, hc0⟩ := HROW.out k hlt
   have hc := (World.cell?_of_block (a := ⟨g, k, none⟩) (hB.block g (HVL.out g rfl))).trans hc0
   have h1 : (k : Int) < (l.length : Int) := by omega
   have h2 : (0 : Int) ≤ (k : Int) := by omega
   have HN : Hid ((l.take (k + 1)).filterMap (nxt P b) = F ++ (nxt P b l[k]).toList) := hid (by rw [HF.out]; exact filterMap_take _ _ _ _)
   clear hc0
   generalize l[k] = z at *
   have hMr := HM.out.below hB
   have kb := hid fun (z : Int) => has_place hMr z
   by_cases hz : hasZ P.length z = true
   ·have hz2 : 0 ≤ z ∧ z < (P.length : Int) := by simpa [hasZ] using hz
    obtain ⟨n, rfl⟩ : ∃ n : Nat, z = (n : Int) := ⟨z.toNat, by omega⟩
    obtain ⟨pl, hpl⟩ : ∃ pl, P[n]? = some pl := ⟨_, List.getElem?_eq_getElem (by omega)⟩
    have hnx : nxt P b (n : Int) = if X3.hasX pl.b b then some pl.next else none := by unfold nxt; rw [if_pos hz, Int.toNat_natCast, hpl]
    rw [hnx] at HN
    obtain ⟨pg, cap, kd, x, y, zz, u, av, rfl, hav, hbc, hno, c0, c1, c2, c3, c4, c5, c6, c7, c8⟩ := hMr.at_ hpl
    have cm : wr.cell? ⟨m, 0, none⟩ = some (.slice (some ⟨pg, 0, none⟩) P.length cap) := by rw [Lib.cell_of_heap hMr.box]; rfl
    have kh := hid (node_has (HW.out.ok pl (List.mem_iff_getElem?.2 ⟨_, hpl⟩)) b hb wr)
    rw [hno] at kh
    have hml := (Array.getElem?_eq_some_iff.1 hMr.box).1
    have hpgl := hMr.own_lt (.inr (.inl (rfl : (Value.slice (some ⟨pg, 0, none⟩) P.length cap).ownBlock = some pg)))
    have h3 := hz2.2
    have h4 := hz2.1
    have HZ := hid hz
    have HMr := hid hMr
    have HB := hid hB
    have hszB := hB.size
    clear hz hz2 hpl hav hbc hno hnx c7 c8 hMr hB
    by_cases hx : X3.hasX pl.b b = true
    ·rw [if_pos hx] at HN
     have HX := hid hx
     clear hx
     go_wp2_with fail
     refine (kb.out _).mono ?_
     rintro e9 w9 ⟨rfl, rfl⟩
     rw [HZ.out]
     go_wp2_with fail
     refine kh.out.mono ?_
     rintro e9 w2 ⟨rfl, hb2⟩
     rw [HX.out]
     have cm2 : w2.cell? ⟨m, 0, none⟩ = some (.slice (some ⟨pg, 0, none⟩) P.length cap) := (World.cell?_of_block (a := ⟨m, 0, none⟩) (hb2.block m hml)).trans cm
     have d6 : w2.cell? ⟨pg, n * 9 + 6, none⟩ = some (.int .i64 (pl.next : Int)) := (World.cell?_of_block (a := ⟨pg, n * 9 + 6, none⟩) (hb2.block pg hpgl)).trans c6
     have hR2 : w2.ownsRow w.heap.size 3 1 u7 F.length (ints F) := owns_kept HR.out fun g hg => hb2.block g (owns_lt HR.out g hg).2
     obtain ⟨w3, e3⟩ : ∃ w3, w2.alloc (.cells #[.int .i64 (pl.next : Int)] 3) = w3 := ⟨_, rfl⟩
     have hb3 : Below w2.heap.size w2 w3 := by rw [← e3]; exact (Below.refl _ _).alloc (Nat.le_refl _) _
     have hn3 : w3.heap[w2.heap.size]? = some (.cells #[.int .i64 (pl.next : Int)] 3 (0, 0)) := by rw [← e3]; exact new_block _ _
     have hR3 : w3.ownsRow w.heap.size 3 1 u7 F.length (ints F) := owns_kept hR2 fun g hg => hb3.block g (owns_lt hR2 g hg).2
     have hs3 : w2.heap.size < w3.heap.size := by rw [← e3]; simp
     obtain ⟨i0, hi, hq0, hq1, hq2⟩ := info_parts info3
     have hs2 := hb2.size
     have HR3 := hid hR3
     have HB2 := hid hb2
     have HB3 := hid hb3
     have hw3 : w.heap.size ≤ w3.heap.size := by omega
     clear hR2 hR3 hb2 hb3 c0 c1 c2 c3 c4 c5 c6 cm hc
     go_wp2_with (at_builtin; go_loud (refine wpList_append_own_at _ rfl (.tmp 31) (.tmp 40) 87 rfl w.heap.size 3 i0 (.int .i64 0) 1 8 Tryz.underlying87 hi hq0 hq1 hq2 rfl (by decide) u7 F.length (ints F) rfl HR3.out ⟨w2.heap.size, 0, none⟩ 1 1 [.int .i64 (pl.next : Int)] rfl rfl ?k1 ?k2 ?k3 ?k4 ?k5 ?_))
     case k1 =>
      intro j v hj
      have := Lib.cell_of_heap hn3 j
      first | rw [show (⟨w2.heap.size, 0, none⟩ : Addr).add j = ⟨w2.heap.size, j, none⟩ by simp [Addr.add]; omega] | skip
      rw [this, ← hj]
      simp
     case k2 => first | (intro v hv; simp at hv; rcases hv with rfl; rfl) | rfl | trace_state
     case k3 => unfold maxLen; omega
     case k4 => omega
     try (case k5 => exact hw3)
     intro v4 w4 hown4 hgrow4 hnil4 hat4
     have hB4 : Below w.heap.size w w4 := HB.out.trans ((HB2.out.mono hszB).trans ((HB3.out.mono (by omega)).trans ((Below.refl w.heap.size w3).grown hgrow4 hw3 (fun q hq => (owns_lt HR3.out q hq).1))))
     have HR4 : Hid (w4.ownsRow w.heap.size 3 1 v4 (F ++ [pl.next]).length (ints (F ++ [pl.next]))) := hid (by rw [List.length_append]; unfold ints; rw [List.map_append]; exact hown4)
     have HB4 := hid hB4
     clear hown4 hgrow4 hnil4 hat4 hn3 e3 hB4 d6 cm2
     go_wp2_with fail
     refine ⟨⟨k + 1, F ++ [pl.next], by omega, rfl, hid (by rw [HN.out]; rfl), HR4, HB4.out⟩, ?_⟩
     show l.length - ((k : Int) + 1).toNat < l.length - ((k : Int)).toNat
     omega
    ·have hx2 : X3.hasX pl.b b = false := by simpa using hx
     rw [if_neg hx] at HN
     have HX := hid hx2
     clear hx hx2
     go_wp2_with fail
     refine (kb.out _).mono ?_
     rintro e9 w9 ⟨rfl, rfl⟩
     rw [HZ.out]
     go_wp2_with fail
     refine kh.out.mono ?_
     rintro e9 w2 ⟨rfl, hb2⟩
     rw [HX.out]
     have HB2 := hid hb2
     clear hb2
     go_wp2_with fail
     refine ⟨⟨k + 1, F, by omega, rfl, hid (by rw [HN.out]; simp), hid (owns_kept HR.out fun g hg => HB2.out.block g (owns_lt HR.out g hg).2), HB.out.trans (HB2.out.mono hszB)⟩, ?_⟩
     show l.length - ((k : Int) + 1).toNat < l.length - ((k : Int)).toNat
     omega
   ·have hz3 : hasZ P.length z = false := by simpa using hz
    have hnx : nxt P b z = none := by unfold nxt; rw [if_neg hz]
    rw [hnx] at HN
    have HZ := hid hz3
    have HB := hid hB
    clear hz hz3 hMr hnx hB
    go_wp2_with fail
    refine (kb.out _).mono ?_
    rintro e9 w9 ⟨rfl, rfl⟩
    rw [HZ.out]
    go_wp2_with fail
    refine ⟨⟨k + 1, F, by omega, rfl, hid (by rw [HN.out]; simp), HR, HB.out⟩, ?_⟩
    show l.length - ((k : Int) + 1).toNat < l.length - ((k : Int)).toNat
    omega
  ·have h1 : ¬ (k : Int) < (l.length : Int) := by omega
   obtain rfl : k = l.length := by omega
   rw [List.take_length] at HF
   have hMr := HM.out.below hB
   have hlM := len_mu P
   have hbl : ∀ g, u7.ownBlock = some g → w.heap.size ≤ g := fun g hg => (owns_lt HR.out g hg).1
   have KC := hid (closed_any T TS B m w.heap.size wr pv AS P bv u7 F hMr HW.out.tl HW.out.ts HW.out.tb HW.out.bd HR.out hB.size (fun f hf => by
     rw [HF.out, nxt_mem] at hf
     obtain ⟨p, pl, _, hp, _, rfl⟩ := hf
     exact (HW.out.bd pl (List.mem_iff_getElem?.2 ⟨_, hp⟩)).1) (fun g ho e => by have := hbl g e; have := HM.out.own_lt ho; omega) (by omega) (by omega))
   have HB := hid hB
   have HBL := hid hbl
   clear hMr hB hbl
   go_wp2_with fail
   refine KC.out.mono ?_
   rintro e9 w9 ⟨rv, A, rfl, hC, hr, hn, hg⟩
   have HC := hid hC
   have HRR := hid hr
   have HNN := hid hn
   have HGG := hid hg
   clear hC hr hn hg
   go_wp2_with fail
   go_ret
   refine ⟨rv, A, rfl, Closed.congr HC.out (fun n => by rw [HF.out]; exact nxt_mem), ?_, HNN.out, ?_⟩
   ·have hsz := HB.out.size
    exact ⟨HRR.out.1, HRR.out.2.imp id (fun ⟨g, cap, cur, h1, h2, h3⟩ => ⟨g, cap, cur, h1, Nat.le_trans hsz h2, h3⟩)⟩
   ·exact HB.out.trans ((Below.refl w.heap.size wr).grown HGG.out HB.out.size (fun q hq => HBL.out q hq))
end Go.Proofs.YtochckefnjobhaaGreatDoor
namespace Go.Proofs.YtochckefnjobhaaGreatDoor
open Go Go.RowKit Go.Lib
open X3 (RX Pl)
set_option linter.unusedVariables false
set_option linter.unusedSimpArgs false
theorem clone_nil (n c : Nat) (w : World) : Calls Tryz.prog 98 #[.slice none n c] w fun e w' => e = .returned (.slice none 0 0) ∧ w' = w := Any.slices_Clone_int_nil Tryz.laysNm215 n c w
structure Nfa (l : List RX) (B m : Nat) (w : World) (T : Nat → Nat) (pv : Value) (AS : List Value) (bv : Value) (A0 : List Nat) : Prop where
 mach : Mach T B m w pv AS (X4.mk l 0 [] []).2.1 bv
 mw : MW T (X4.mk l 0 [] []).2.2 (X4.mk l 0 [] []).2.1
 row : w.ownsRow B 3 1 bv A0.length (ints A0)
 nil_ : A0 = [] → bv = .slice none 0 0
 at_ : X4.At (X4.mk l 0 [] []).2.1 (X4.mk l 0 [] []).2.2 (X4.mk l 0 [] []).1 [] A0
 mu : X3.muL (X4.mk l 0 [] []).2.1 ≤ 100000
theorem Nfa.below {l : List RX} {B m : Nat} {w w' : World} {T : Nat → Nat} {pv : Value} {AS : List Value} {bv : Value} {A0 : List Nat} (h : Nfa l B m w T pv AS bv A0) (hb : Below w.heap.size w w') : Nfa l B m w' T pv AS bv A0 :=
 ⟨h.mach.below hb, h.mw, owns_kept h.row fun g hg => hb.block g (owns_lt h.row g hg).2, h.nil_, h.at_, h.mu⟩
theorem At.lt {P : List Pl} {TS fs : List Nat} {s : List UInt8} {A : List Nat} (h : X4.At P TS fs s A) (hl : TS.length = P.length) : ∀ q ∈ A, q < P.length := fun q hq => by
 rcases ((h.2 q).1 hq).2 with ⟨pl, hp, _⟩ | ⟨t, ht, _⟩
 ·exact (List.getElem?_eq_some_iff.1 hp).1
 ·rw [← hl]; exact (List.getElem?_eq_some_iff.1 ht).1
theorem At.len {P : List Pl} {TS fs : List Nat} {s : List UInt8} {A : List Nat} (h : X4.At P TS fs s A) (hl : TS.length = P.length) : A.length ≤ P.length := by
 have hnd : A.Nodup := h.1.imp (fun {a b} hab => by omega)
 have hsub : A ⊆ List.range P.length := fun q hq => List.mem_range.2 (At.lt h hl q hq)
 have := hnd.length_le_of_subset hsub
 simpa using this
theorem tags_eq {T : Nat → Nat} {TS : List Nat} {P : List Pl} (hW : MW T TS P) {A : List Nat} (hA : ∀ q ∈ A, q < P.length) : tagsZ T P.length (A.map fun (q : Nat) => (q : Int)) = X4.tagsX TS A := by
 unfold tagsZ X4.tagsX
 rw [List.foldl_map]
 have key : ∀ (A : List Nat) (s : Nat), (∀ q ∈ A, q < P.length) → A.foldl (fun (s q : Nat) => if hasZ P.length (q : Int) then s ||| T (q : Int).toNat else s) s = A.foldl (fun n q => n ||| TS.getD q 0) s := by
  intro A
  induction A with
  | nil => intro s _; rfl
  | cons a A ih =>
   intro s h
   have ha := h a (by simp)
   simp only [List.foldl_cons]
   rw [if_pos (by simp [hasZ]; omega), Int.toNat_natCast, List.getD_eq_getElem?_getD, hW.ts a ha]
   exact ih _ (fun q hq => h q (by simp [hq]))
 exact key A 0 hA
end Go.Proofs.YtochckefnjobhaaGreatDoor
namespace Go.Proofs.YtochckefnjobhaaGreatDoor
open Go Go.RowKit Go.Lib
open X3 (RX Pl)
set_option linter.unusedVariables false
set_option linter.unusedSimpArgs false
abbrev AtN (l : List RX) (s : List UInt8) (A : List Nat) : Prop := X4.At (X4.mk l 0 [] []).2.1 (X4.mk l 0 [] []).2.2 (X4.mk l 0 [] []).1 s A
def RunR (l : List RX) (s : List UInt8) (R : Nat) : Prop := R < 18446744073709551616 ∧ ∀ i, R.testBit i = true ↔ ∃ r, l[i]? = some r ∧ X3.Mt r s
theorem RunR.ext {l : List RX} {s : List UInt8} {R R' : Nat} (h : RunR l s R) (k : RunR l s R') : R = R' := Nat.eq_of_testBit_eq fun i => by
 rw [Bool.eq_iff_iff, h.2, k.2]
theorem ll_next {s : ByteArray} {k : Nat} (hk : k < s.size) : (LL s).take (k + 1) = (LL s).take k ++ [s[k]'hk] := by
 rw [List.take_add_one, ll_at hk]; rfl
end Go.Proofs.YtochckefnjobhaaGreatDoor
