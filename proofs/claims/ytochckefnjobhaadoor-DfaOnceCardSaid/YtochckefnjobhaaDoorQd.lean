/- nfa's machine: has, Tags, Begin; sets of bits. -/
import Derived.Test.YtochckefnjobhaaDoorQc
import Derived.Test.YtochckefnjobhaaDoorSa
import Derived.Laws.Bits64
import Derived.Laws.Bits64b
namespace Go.Proofs.YtochckefnjobhaaDoor
open Go Go.RowKit Go.Lib
open X3 (RX Pl)
set_option linter.unusedVariables false
set_option linter.unusedSimpArgs false

abbrev zs (l : List Int) : List Value := l.map (Value.int .i64)
theorem ints_zs (A : List Nat) : ints A = zs (A.map fun (q : Nat) => (q : Int)) := by simp [ints, zs, List.map_map]

/-- Is it the number of a place? -/
def hasZ (n : Nat) (z : Int) : Bool := decide (0 ≤ z ∧ z < (n : Int))

set_option maxHeartbeats 1000000 in
theorem has_place {T : Nat → Nat} {B m : Nat} {w : World} {pv bv : Value} {AS : List Value} {P : List Pl} (h : Mach T B m w pv AS P bv) (z : Int) :
    Calls Tryd.prog 50 #[.pointer (some ⟨m, 0, none⟩), .int .i64 z] w fun e w' => e = .returned (.bool (hasZ P.length z)) ∧ w' = w := by
  obtain ⟨po, pc, rfl⟩ : ∃ po pc, pv = .slice po P.length pc := by
    rcases h.row.2 with ⟨rfl, h0⟩ | ⟨g, cap, cur, rfl, _⟩
    · exact ⟨none, 0, by rw [h0]⟩
    · exact ⟨_, _, rfl⟩
  have cm : w.cell? ⟨m, 0, none⟩ = some (.slice po P.length pc) := by rw [Lib.cell_of_heap h.box]; rfl
  clear h
  by_cases h0 : 0 ≤ z
  · by_cases h1 : z < (P.length : Int)
    · have hv : hasZ P.length z = true := by simp [hasZ, h0, h1]
      rw [hv]
      clear hv
      go_enter Tryd.func50, Tryd.ntmps50
      go_wp2_with fail
      go_ret
      exact ⟨rfl, rfl⟩
    · have hv : hasZ P.length z = false := by simp [hasZ, h1]
      rw [hv]
      clear hv
      go_enter Tryd.func50, Tryd.ntmps50
      go_wp2_with fail
      go_ret
      exact ⟨rfl, rfl⟩
  · have hv : hasZ P.length z = false := by simp [hasZ, h0]
    rw [hv]
    clear hv
    go_enter Tryd.func50, Tryd.ntmps50
    go_wp2_with fail
    go_ret
    exact ⟨rfl, rfl⟩

theorem union_any (a b : Nat) (ha : a < 18446744073709551616) (hb : b < 18446744073709551616) (w : World) :
    Calls Tryd.prog 51 #[.int .u64 (a : Int), .int .u64 (b : Int)] w fun e w' => e = .returned (.int .u64 ((a ||| b : Nat) : Int)) ∧ w' = w := by
  have e := hid (bits_or_u64_nat a b ha hb)
  go_enter Tryd.func51, Tryd.ntmps51
  go_wp2_with fail
  go_ret
  exact ⟨by rw [e.out]; rfl, rfl⟩

/-- The bit of a number alone. -/
def bitN (n : Int) : Nat := if 0 ≤ n ∧ n < 64 then 2 ^ n.toNat else 0
theorem bitN_lt (n : Int) : bitN n < 18446744073709551616 := by
  unfold bitN
  split
  · have := Nat.pow_lt_pow_right (a := 2) (by decide) (show n.toNat < 64 by omega)
    simpa using this
  · decide
theorem wrap_pow (n : Int) (h0 : 0 ≤ n) (h1 : n < 64) : IntKind.u64.wrap (2 ^ n.toNat) = ((bitN n : Nat) : Int) := by
  have hb := bitN_lt n
  have e : ((2 : Int) ^ n.toNat) = ((bitN n : Nat) : Int) := by unfold bitN; rw [if_pos ⟨h0, h1⟩]; simp
  rw [e, IntKind.wrap_u64]
  omega
theorem bit_any (n : Int) (w : World) : Calls Tryd.prog 52 #[.int .i64 n] w fun e w' => e = .returned (.int .u64 ((bitN n : Nat) : Int)) ∧ w' = w := by
  by_cases h : 0 ≤ n ∧ n < 64
  · obtain ⟨h0, h1⟩ := h
    go_enter Tryd.func52, Tryd.ntmps52
    go_wp2
    go_ret
    exact ⟨by rw [wrap_pow n h0 h1]; rfl, rfl⟩
  · by_cases h0 : n < 0
    · have e : bitN n = 0 := by unfold bitN; rw [if_neg h]
      rw [e]
      have H := hid h; clear h
      have E := hid e; clear e
      go_enter Tryd.func52, Tryd.ntmps52
      go_wp2
      go_ret
      exact ⟨rfl, rfl⟩
    · have e : bitN n = 0 := by unfold bitN; rw [if_neg h]
      rw [e]
      have h1 : 64 ≤ n := by omega
      have H := hid h; clear h
      have E := hid e; clear e
      go_enter Tryd.func52, Tryd.ntmps52
      go_wp2
      go_ret
      exact ⟨rfl, rfl⟩
/-- A row of whole numbers that may be read. -/
theorem row_at {w : World} {B : Nat} {v : Value} {l : List Int} (h : w.ownsRow B 3 1 v l.length (zs l)) : ∃ vo vc, v = .slice vo l.length vc ∧ ∀ j (hj : j < l.length), ∃ g, vo = some ⟨g, 0, none⟩ ∧ w.cell? ⟨g, j, none⟩ = some (.int .i64 l[j]) := by
  rcases h.2 with ⟨rfl, h0⟩ | ⟨g, cap, cur, rfl, _⟩
  · exact ⟨none, 0, by rw [h0], fun j hj => by omega⟩
  · exact ⟨_, cap, rfl, fun j hj => ⟨g, rfl, by rw [h.cellAt j (by omega)]; simp [zs, hj]⟩⟩

def ofZ (l : List Int) : Nat := l.foldl (fun s n => s ||| bitN n) 0
theorem ofZ_fold_lt (l : List Int) : ∀ s, s < 18446744073709551616 → l.foldl (fun s n => s ||| bitN n) s < 18446744073709551616 := by
  induction l with
  | nil => intro s h; exact h
  | cons a l ih => intro s h; exact ih _ (Nat.or_lt_two_pow (n := 64) h (bitN_lt a))
theorem ofZ_lt (l : List Int) : ofZ l < 18446744073709551616 := ofZ_fold_lt l 0 (by decide)
theorem fold_take {α β : Type} (f : β → α → β) (b : β) (l : List α) (k : Nat) (hk : k < l.length) : (l.take (k + 1)).foldl f b = f ((l.take k).foldl f b) l[k] := by
  rw [List.take_add_one, List.getElem?_eq_getElem hk, List.foldl_append]
  rfl

set_option maxRecDepth 100000 in
set_option maxHeartbeats 1000000 in
theorem of_any {w : World} {B : Nat} {v : Value} {l : List Int} (h : w.ownsRow B 3 1 v l.length (zs l)) (hl : l.length < 9223372036854775808) :
    Calls Tryd.prog 32 #[v] w fun e w' => e = .returned (.int .u64 ((ofZ l : Nat) : Int)) ∧ w' = w := by
  obtain ⟨vo, vc, rfl, hrow⟩ := row_at h
  clear h
  have HROW := hid hrow
  clear hrow
  go_enter Tryd.func32, Tryd.ntmps32
  go_wp2_with fail
  go_loopw [3, 8] (fun t3 t8 wr => ∃ k : Nat, k ≤ l.length ∧ t8 = .int .i64 (k : Int) ∧ (∃ s : Nat, t3 = .int .u64 (s : Int) ∧ Hid (s = ofZ (l.take k))) ∧ wr = w) (fun _ t8 _ => l.length - (RowKit.intOf t8).toNat)
  case atStart => exact ⟨0, Nat.zero_le _, rfl, ⟨0, rfl, hid rfl⟩, rfl⟩
  case round =>
    obtain ⟨k, hk, rfl, ⟨s, rfl, hs⟩, rfl⟩ := hrel
    have hsb : s < 18446744073709551616 := by rw [hs.out]; exact ofZ_lt _
    by_cases hlt : k < l.length
    · obtain ⟨g, rfl, hc⟩ := HROW.out k hlt
      have h1 : (k : Int) < (l.length : Int) := by omega
      have h2 : (0 : Int) ≤ (k : Int) := by omega
      have hn := fold_take (fun (s : Nat) (n : Int) => s ||| bitN n) 0 l k hlt
      have HN : Hid (s ||| bitN l[k] = ofZ (l.take (k + 1))) := hid (by rw [hs.out]; exact hn.symm)
      have e := hid (bits_or_u64_nat s (bitN l[k]) hsb (bitN_lt _))
      clear hn
      generalize l[k] = z at *
      have kb := hid fun w => bit_any z w
      go_wp2_with fail
      refine (kb.out _).mono ?_
      rintro e9 w9 ⟨rfl, rfl⟩
      go_wp2_with fail
      refine ⟨⟨k + 1, by omega, rfl, ⟨s ||| bitN z, by rw [e.out], HN⟩, trivial⟩, ?_⟩
      show l.length - ((k : Int) + 1).toNat < l.length - ((k : Int)).toNat
      omega
    · have h1 : ¬ (k : Int) < (l.length : Int) := by omega
      obtain rfl : k = l.length := by omega
      rw [List.take_length] at hs
      go_wp2_with fail
      go_ret
      exact ⟨by rw [← hs.out]; rfl, rfl⟩

/-- What some numbers of places tell. -/
def tagsZ (T : Nat → Nat) (n : Nat) (l : List Int) : Nat := l.foldl (fun s z => if hasZ n z then s ||| T z.toNat else s) 0
theorem tagsZ_fold_lt {T : Nat → Nat} (hT : ∀ k, T k < 18446744073709551616) (n : Nat) (l : List Int) : ∀ s, s < 18446744073709551616 → l.foldl (fun s z => if hasZ n z then s ||| T z.toNat else s) s < 18446744073709551616 := by
  induction l with
  | nil => intro s h; exact h
  | cons a l ih =>
    intro s h
    refine ih _ ?_
    show (if hasZ n a = true then s ||| T a.toNat else s) < _
    split
    · exact Nat.or_lt_two_pow (n := 64) h (hT _)
    · exact h
theorem tagsZ_lt {T : Nat → Nat} (hT : ∀ k, T k < 18446744073709551616) (n : Nat) (l : List Int) : tagsZ T n l < 18446744073709551616 := tagsZ_fold_lt hT n l 0 (by decide)

set_option maxRecDepth 100000 in
set_option maxHeartbeats 1000000 in
theorem tags_any {T : Nat → Nat} {B m : Nat} {w : World} {pv bv : Value} {AS : List Value} {P : List Pl} (hM : Mach T B m w pv AS P bv) (hT : ∀ k, T k < 18446744073709551616) {Bv : Nat} {v : Value} {l : List Int} (h : w.ownsRow Bv 3 1 v l.length (zs l)) (hl : l.length < 9223372036854775808) :
    Calls Tryd.prog 29 #[.pointer (some ⟨m, 0, none⟩), v] w fun e w' => e = .returned (.int .u64 ((tagsZ T P.length l : Nat) : Int)) ∧ w' = w := by
  obtain ⟨vo, vc, rfl, hrow⟩ := row_at h
  have HROW := hid hrow
  have HM := hid hM
  have HT := hid hT
  clear hrow h hM hT
  go_enter Tryd.func29, Tryd.ntmps29
  go_wp2_with fail
  go_loopw [5, 10] (fun t3 t8 wr => ∃ k : Nat, k ≤ l.length ∧ t8 = .int .i64 (k : Int) ∧ (∃ s : Nat, t3 = .int .u64 (s : Int) ∧ Hid (s = tagsZ T P.length (l.take k))) ∧ wr = w) (fun _ t8 _ => l.length - (RowKit.intOf t8).toNat)
  case atStart => exact ⟨0, Nat.zero_le _, rfl, ⟨0, rfl, hid rfl⟩, rfl⟩
  case round =>
    obtain ⟨k, hk, rfl, ⟨s, rfl, hs⟩, rfl⟩ := hrel
    have hsb : s < 18446744073709551616 := by rw [hs.out]; exact tagsZ_lt HT.out _ _
    by_cases hlt : k < l.length
    · obtain ⟨g, rfl, hc⟩ := HROW.out k hlt
      have h1 : (k : Int) < (l.length : Int) := by omega
      have h2 : (0 : Int) ≤ (k : Int) := by omega
      have hn := fold_take (fun (s : Nat) (z : Int) => if hasZ P.length z then s ||| T z.toNat else s) 0 l k hlt
      have HN : Hid ((if hasZ P.length l[k] then s ||| T l[k].toNat else s) = tagsZ T P.length (l.take (k + 1))) := hid (by rw [hs.out]; exact hn.symm)
      clear hn
      generalize l[k] = z at *
      have kb := hid fun (z : Int) => has_place HM.out z
      by_cases hz : hasZ P.length z = true
      · have hz2 : 0 ≤ z ∧ z < (P.length : Int) := by simpa [hasZ] using hz
        obtain ⟨n, rfl⟩ : ∃ n : Nat, z = (n : Int) := ⟨z.toNat, by omega⟩
        rw [if_pos hz, Int.toNat_natCast] at HN
        obtain ⟨pl, hpl⟩ : ∃ pl, P[n]? = some pl := ⟨_, List.getElem?_eq_getElem (by omega)⟩
        obtain ⟨pg, cap, kd, x, y, zz, u, av, rfl, hav, hbc, hno, c0, c1, c2, c3, c4, c5, c6, c7, c8⟩ := HM.out.at_ hpl
        have cm : wr.cell? ⟨m, 0, none⟩ = some (.slice (some ⟨pg, 0, none⟩) P.length cap) := by rw [Lib.cell_of_heap HM.out.box]; rfl
        have ku := hid (union_any s (T n) hsb (HT.out n) wr)
        have h3 := hz2.2
        have h4 := hz2.1
        have HZ := hid hz
        clear hz hz2 hpl hav hbc hno c0 c1 c2 c3 c4 c5 c6 c7
        go_wp2_with fail
        refine (kb.out _).mono ?_
        rintro e9 w9 ⟨rfl, rfl⟩
        rw [HZ.out]
        go_wp2_with fail
        refine ku.out.mono ?_
        rintro e9 w9 ⟨rfl, rfl⟩
        go_wp2_with fail
        refine ⟨⟨k + 1, by omega, rfl, ⟨s ||| T n, rfl, HN⟩, trivial⟩, ?_⟩
        show l.length - ((k : Int) + 1).toNat < l.length - ((k : Int)).toNat
        omega
      · have hz3 : hasZ P.length z = false := by simpa using hz
        rw [if_neg hz] at HN
        have HZ := hid hz3
        clear hz hz3
        go_wp2_with fail
        refine (kb.out _).mono ?_
        rintro e9 w9 ⟨rfl, rfl⟩
        rw [HZ.out]
        go_wp2_with fail
        refine ⟨⟨k + 1, by omega, rfl, ⟨s, rfl, HN⟩, trivial⟩, ?_⟩
        show l.length - ((k : Int) + 1).toNat < l.length - ((k : Int)).toNat
        omega
    · have h1 : ¬ (k : Int) < (l.length : Int) := by omega
      obtain rfl : k = l.length := by omega
      rw [List.take_length] at hs
      go_wp2_with fail
      go_ret
      exact ⟨by rw [← hs.out]; rfl, rfl⟩
end Go.Proofs.YtochckefnjobhaaDoor
