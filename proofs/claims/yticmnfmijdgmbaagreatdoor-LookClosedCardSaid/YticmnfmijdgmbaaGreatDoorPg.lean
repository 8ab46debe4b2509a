/- A grammar that is handed in, as it lies in memory. -/
import Derived.Deep.Slices
import Derived.OpenShut
import Derived.ChangeSame
import Derived.Lib.SmallJoins
import Derived.Test.YticmnfmijdgmbaaGreatDoorGc
namespace Go.Proofs.YticmnfmijdgmbaaGreatDoor
open Go Go.RowKit Go.Lib Go.WideShapes Go.ChangeShapes Go.Deep
section
variable {H : Type} {enc : TypeId × Value → H} {P : Program} {w : World} {base : Nat} {spare : Nat → Bool} {held : Bool}
theorem cell_plain {a : Addr} {v : Value} (h : w.cell? (a.add 0) = some v) : ∃ b off, a = ⟨b, off, none⟩ := by
 obtain ⟨b, off, spot⟩ := a
 have hspot : spot = none := by simpa [Addr.add] using World.cell?_spot h
 subst hspot
 exact ⟨b, off, rfl⟩
theorem open_block {t e : TypeId} {c fuel : Nat} {v : Value} {x : DataW H × List MemPlace} (ht : P.underlying t = some (.slice e)) (hc : P.cellsOf e = c) (h0 : 0 < c) (h : DataW.trod enc P w base spare held fuel t [v] = some x) :
  ∃ (a : Option Addr) (len cap : Nat) (V : Nat → Nat → Value), v = .slice a len cap ∧ len ≤ cap ∧ cap ≤ maxLen ∧ (0 < len → ∃ b off, a = some ⟨b, off, none⟩ ∧ ∀ i, i < len → ∀ j, j < c → w.cell? ⟨b, off + i * c + j, none⟩ = some (V i j)) ∧
   (∀ i, i < len → ∃ n y, DataW.trod enc P w base spare held n e ((List.range c).map (V i)) = some y) ∧ (a = none → cap = 0) := by
 rcases open_slice ht h with ⟨hcs, _⟩ | ⟨a, len, cap, m, n, D, Pl, hcs, hb, hl, hm, hmm, _, hx⟩
 ·simp only [List.cons.injEq, and_true] at hcs
  exact ⟨none, 0, 0, fun _ _ => undef, hcs, Nat.le_refl _, Nat.zero_le _, fun h => absurd h (Nat.lt_irrefl 0), fun i hi => absurd hi (Nat.not_lt_zero i), fun _ => rfl⟩
 ·simp only [List.cons.injEq, and_true] at hcs
  have hlm : len ≤ m := by rw [hmm]; split <;> omega
  obtain ⟨V, hV⟩ := choose_lt (α := Nat → Value) (n := len) (p := fun i f => (∀ j, j < c → w.cell? ((a.add (i * c)).add j) = some (f j)) ∧ DataW.trod enc P w base spare held n e ((List.range c).map f) = some (D i, Pl i)) (fun i hi => by
   obtain ⟨cs', h1, h2⟩ := hx i (by omega)
   rw [hc] at h1
   obtain ⟨_, hlen, hcell⟩ := World.cells?_some h1
   refine ⟨fun j => cs'.getD j undef, fun j hj => ?_, ?_⟩
   ·show _ = some (cs'.getD j undef)
    rw [hcell j hj, List.getD_eq_getElem?_getD, List.getElem?_eq_getElem (by omega)]; rfl
   ·have : (List.range c).map (fun j => cs'.getD j undef) = cs' := by
     refine List.ext_getElem (by simp [hlen]) fun j h3 h4 => ?_
     simp [List.getD_eq_getElem?_getD, List.getElem?_eq_getElem h4]
    rw [this]; exact h2)
  refine ⟨some a, len, cap, V, hcs, hl, hm, fun hlt => ?_, fun i hi => ⟨n, _, (hV i hi).2⟩, fun h => (by cases h)⟩
  have := (hV 0 hlt).1 0 h0
  rw [add_add, Nat.zero_mul, Nat.add_zero] at this
  obtain ⟨b, off, rfl⟩ := cell_plain this
  refine ⟨b, off, rfl, fun i hi j hj => ?_⟩
  have := (hV i hi).1 j hj
  rw [add_add, add_plain, ← Nat.add_assoc] at this
  exact this
end
theorem getD_map {α : Type} (f : Nat → α) (n : Nat) (d : α) {i : Nat} (h : i < n) : ((List.range n).map f).getD i d = f i := by
 simp [List.getD_eq_getElem?_getD, h]
section
variable {H : Type} {enc : TypeId × Value → H} {w : World} {base : Nat} {spare : Nat → Bool} {held : Bool}
theorem i64_range {n : Int} (h : (Lit.int .i64 n).wf = true) : -9223372036854775808 ≤ n ∧ n ≤ 9223372036854775807 := by
 simpa [Lit.wf, IntKind.min, IntKind.max, IntKind.signed, IntKind.bits] using h
theorem open_syms {t e : TypeId} {fuel : Nat} {v : Value} {x : DataW H × List MemPlace} (ht : Tryz.prog.underlying t = some (.slice e)) (he : Tryz.prog.underlying e = some (.int .i64)) (hc : Tryz.prog.cellsOf e = 1) (h : DataW.trod enc Tryz.prog w base spare held fuel t [v] = some x) :
  ∃ l a c, v = .slice a l.length c ∧ l.length ≤ c ∧ IntsAt w v l ∧ (a = none → c = 0) := by
 obtain ⟨a, len, cap, V, rfl, hl, hm, hat, hel, hnc⟩ := open_block ht hc (by omega) h
 obtain ⟨f, hf⟩ := choose_lt (α := Int) (n := len) (p := fun i z => V i 0 = .int .i64 z ∧ (Lit.int .i64 z).wf = true) (fun i hi => by
  obtain ⟨n, y, hy⟩ := hel i hi
  obtain ⟨z, hz, _, hw⟩ := DataW.trod_int he hy
  simp only [show (List.range 1).map (V i) = [V i 0] from rfl, List.cons.injEq, and_true] at hz
  exact ⟨z, hz, hw⟩)
 have hlen : ((List.range len).map f).length = len := by simp
 have hm' : cap ≤ 9223372036854775807 := hm
 refine ⟨(List.range len).map f, a, cap, by rw [hlen], by omega, ⟨⟨a, cap, by rw [hlen], by omega, fun h0 => ?_⟩, fun x hx => ?_⟩, hnc⟩
 ·rw [hlen] at h0
  obtain ⟨b, off, rfl, hcell⟩ := hat h0
  refine ⟨b, off, rfl, fun i hi => ?_⟩
  rw [hlen] at hi
  have := hcell i hi 0 (by omega)
  rw [Nat.mul_one, Nat.add_zero, (hf i hi).1] at this
  rw [getD_map f len 0 hi]
  exact this
 ·obtain ⟨i, hi, rfl⟩ := List.mem_map.1 hx
  exact i64_range (hf i (by simpa using hi)).2
set_option maxRecDepth 100000 in
set_option maxHeartbeats 1000000 in
theorem open_grammar {r : Reach} {b0 : Nat} {v : Value} {d : DataW H} {ps : List MemPlace} (hval : Value.okWide Tryz.prog w r b0 27 v) (h : DataW.Trod enc Tryz.prog w base spare held 27 v d ps) :
  ∃ G tv ov sv pv tf rv, GrAt w v G tv ov sv pv tf rv ∧ -9223372036854775808 ≤ G.start ∧ G.start ≤ 9223372036854775807 ∧
   (∀ p ∈ G.prods, (-9223372036854775808 ≤ p.sort ∧ p.sort ≤ 9223372036854775807)) ∧ ∀ n c, pv = .slice none n c → c = 0 := by
 obtain ⟨cs, rfl, hsz⟩ := okWide_struct Tryz.underlying27 hval
 obtain ⟨l⟩ := cs
 have hC : Tryz.prog.cellsOf 27 = 5 := by kernel_rfl
 match l, hsz.trans hC with
 | [tv, ov, sv, pv, st], _ =>
  obtain ⟨fuel, hf⟩ := h
  obtain ⟨xs, n, _, hx, _, hlen, hg⟩ := DataW.trod_struct Tryz.underlying27 hf
  match xs, hlen with
  | [y0, y1, y2, y3, y4], _ =>
   have k0 : DataW.trod enc Tryz.prog w base spare held n 22 [tv] = some y0 := hg 0 _ rfl
   have k1 : DataW.trod enc Tryz.prog w base spare held n 23 [ov] = some y1 := hg 1 _ rfl
   have k2 : DataW.trod enc Tryz.prog w base spare held n 24 [sv] = some y2 := hg 2 _ rfl
   have k3 : DataW.trod enc Tryz.prog w base spare held n 25 [pv] = some y3 := hg 3 _ rfl
   have k4 : DataW.trod enc Tryz.prog w base spare held n 3 [st] = some y4 := hg 4 _ rfl
   obtain ⟨start, hst, _, hsw⟩ := DataW.trod_int Tryz.underlying3 k4
   simp only [List.cons.injEq, and_true] at hst
   subst hst
   obtain ⟨ta, tl, tc, TV, rfl, htl, htm, hta, hte, _⟩ := open_block Tryz.underlying22 (by kernel_rfl : Tryz.prog.cellsOf 105 = 4) (by omega) k0
   obtain ⟨oa, ol, oc, OV, rfl, hol, hom, hoa, hoe, _⟩ := open_block Tryz.underlying23 (by kernel_rfl : Tryz.prog.cellsOf 94 = 2) (by omega) k1
   obtain ⟨sa, sl, sc, SV, rfl, hsl, hsm, hsa, hse, _⟩ := open_block Tryz.underlying24 (by kernel_rfl : Tryz.prog.cellsOf 9 = 1) (by omega) k2
   obtain ⟨pa, pl, pc, PV, rfl, hpl, hpm, hpa, hpe, hpz⟩ := open_block Tryz.underlying25 (by kernel_rfl : Tryz.prog.cellsOf 71 = 4) (by omega) k3
   have htm' : tc ≤ 9223372036854775807 := htm
   have hom' : oc ≤ 9223372036854775807 := hom
   have hsm' : sc ≤ 9223372036854775807 := hsm
   have hpm' : pc ≤ 9223372036854775807 := hpm
   obtain ⟨tn, htn⟩ := choose_lt (α := ByteArray) (n := tl) (p := fun i s => TV i 0 = .string s) (fun i hi => by
    obtain ⟨n, y, hy⟩ := hte i hi
    obtain ⟨xs, n', _, _, _, hl, hg⟩ := DataW.trod_struct Tryz.underlying105 hy
    have hl' : xs.length = 4 := hl
    have k : DataW.trod enc Tryz.prog w base spare held n' 9 [TV i 0] = xs[0]? := hg 0 _ rfl
    rw [List.getElem?_eq_getElem (by omega)] at k
    obtain ⟨s, hs, _⟩ := DataW.trod_string Tryz.underlying9 k
    simp only [List.cons.injEq, and_true] at hs
    exact ⟨s, hs⟩)
   obtain ⟨sn, hsn⟩ := choose_lt (α := ByteArray) (n := sl) (p := fun i s => SV i 0 = .string s) (fun i hi => by
    obtain ⟨n, y, hy⟩ := hse i hi
    obtain ⟨s, hs, _⟩ := DataW.trod_string Tryz.underlying9 hy
    simp only [show (List.range 1).map (SV i) = [SV i 0] from rfl, List.cons.injEq, and_true] at hs
    exact ⟨s, hs⟩)
   obtain ⟨on, hon⟩ := choose_lt (α := Int × Int) (n := ol) (p := fun i q => OV i 0 = .int .i64 q.1 ∧ OV i 1 = .int .i64 q.2) (fun i hi => by
    obtain ⟨n, y, hy⟩ := hoe i hi
    obtain ⟨xs, n', _, _, _, hl, hg⟩ := DataW.trod_array Tryz.underlying94 hy
    have g0 : DataW.trod enc Tryz.prog w base spare held n' 3 [OV i 0] = xs[0]? := hg 0 (by omega)
    have g1 : DataW.trod enc Tryz.prog w base spare held n' 3 [OV i 1] = xs[1]? := hg 1 (by omega)
    rw [List.getElem?_eq_getElem (by omega)] at g0 g1
    obtain ⟨z0, hz0, _⟩ := DataW.trod_int Tryz.underlying3 g0
    obtain ⟨z1, hz1, _⟩ := DataW.trod_int Tryz.underlying3 g1
    simp only [List.cons.injEq, and_true] at hz0 hz1
    exact ⟨(z0, z1), hz0, hz1⟩)
   obtain ⟨pn, hpn⟩ := choose_lt (α := PD) (n := pl) (p := fun i q => PV i 0 = .string q.lab ∧ PV i 1 = .int .i64 q.sort ∧ (Lit.int .i64 q.sort).wf = true ∧ PV i 3 = .int .i64 q.cls ∧ IntsAt w (PV i 2) q.rs ∧ ∃ a c, PV i 2 = .slice a q.rs.length c ∧ q.rs.length ≤ c) (fun i hi => by
    obtain ⟨n, y, hy⟩ := hpe i hi
    obtain ⟨xs, n', _, _, _, hl, hg⟩ := DataW.trod_struct Tryz.underlying71 hy
    have hl' : xs.length = 4 := hl
    have g0 : DataW.trod enc Tryz.prog w base spare held n' 9 [PV i 0] = xs[0]? := hg 0 _ rfl
    have g1 : DataW.trod enc Tryz.prog w base spare held n' 3 [PV i 1] = xs[1]? := hg 1 _ rfl
    have g2 : DataW.trod enc Tryz.prog w base spare held n' 64 [PV i 2] = xs[2]? := hg 2 _ rfl
    have g3 : DataW.trod enc Tryz.prog w base spare held n' 3 [PV i 3] = xs[3]? := hg 3 _ rfl
    rw [List.getElem?_eq_getElem (by omega)] at g0 g1 g2 g3
    obtain ⟨s, hs, _⟩ := DataW.trod_string Tryz.underlying9 g0
    obtain ⟨z1, hz1, _, hw1⟩ := DataW.trod_int Tryz.underlying3 g1
    obtain ⟨rs, a, c, hr1, hr2, hr3, _⟩ := open_syms Tryz.underlying64 Tryz.underlying61 (by kernel_rfl) g2
    obtain ⟨z3, hz3, _⟩ := DataW.trod_int Tryz.underlying3 g3
    simp only [List.cons.injEq, and_true] at hs hz1 hz3
    exact ⟨⟨s, z1, rs, z3⟩, hs, hz1, hw1, hz3, hr3, a, c, hr1, hr2⟩)
   refine ⟨⟨(List.range tl).map tn, (List.range ol).map on, (List.range sl).map sn, (List.range pl).map pn, start⟩, _, _, _, _, TV, fun i => PV i 2, ⟨rfl, ?_, ?_, ?_, ?_, ?_, ?_⟩, (i64_range hsw).1, (i64_range hsw).2, ?_, ?_⟩
   ·refine ⟨ta, tc, by simp, by simp; omega, fun h0 => ?_⟩
    simp only [List.length_map, List.length_range] at h0
    obtain ⟨b, off, rfl, hcell⟩ := hta h0
    refine ⟨b, off, rfl, fun i hi => ?_⟩
    simp only [List.length_map, List.length_range] at hi
    rw [getD_map tn tl _ hi, ← htn i hi]
    exact ⟨hcell i hi 0 (by omega), hcell i hi 1 (by omega), hcell i hi 2 (by omega), hcell i hi 3 (by omega)⟩
   ·refine ⟨oa, oc, by simp, by simp; omega, fun h0 => ?_⟩
    simp only [List.length_map, List.length_range] at h0
    obtain ⟨b, off, rfl, hcell⟩ := hoa h0
    refine ⟨b, off, rfl, fun i hi => ?_⟩
    simp only [List.length_map, List.length_range] at hi
    rw [getD_map on ol _ hi, ← (hon i hi).1, ← (hon i hi).2]
    exact ⟨hcell i hi 0 (by omega), hcell i hi 1 (by omega)⟩
   ·refine ⟨sa, sc, by simp, by simp; omega, fun h0 => ?_⟩
    simp only [List.length_map, List.length_range] at h0
    obtain ⟨b, off, rfl, hcell⟩ := hsa h0
    refine ⟨b, off, rfl, fun i hi => ?_⟩
    simp only [List.length_map, List.length_range] at hi
    rw [getD_map sn sl _ hi, ← hsn i hi]
    have := hcell i hi 0 (by omega)
    rwa [Nat.mul_one] at this
   ·refine ⟨pa, pc, by simp, by simp; omega, fun h0 => ?_⟩
    simp only [List.length_map, List.length_range] at h0
    obtain ⟨b, off, rfl, hcell⟩ := hpa h0
    refine ⟨b, off, rfl, fun i hi => ?_⟩
    simp only [List.length_map, List.length_range] at hi
    rw [getD_map pn pl _ hi]
    obtain ⟨h1, h2, _, h3, _⟩ := hpn i hi
    rw [← h1, ← h2, ← h3]
    exact ⟨hcell i hi 0 (by omega), hcell i hi 1 (by omega), hcell i hi 2 (by omega), hcell i hi 3 (by omega)⟩
   ·intro i hi
    simp only [List.length_map, List.length_range] at hi
    show IntsAt w _ (((List.range pl).map pn).getD i default).rs
    rw [getD_map pn pl _ hi]
    exact (hpn i hi).2.2.2.2.1
   ·intro i hi a n c e
    simp only [List.length_map, List.length_range] at hi
    obtain ⟨a', c', h1, h2⟩ := (hpn i hi).2.2.2.2.2
    rw [h1] at e
    cases e
    exact h2
   ·intro p hp
    obtain ⟨i, hi, rfl⟩ := List.mem_map.1 hp
    exact i64_range (hpn i (by simpa using hi)).2.2.1
   ·intro n c e
    cases e
    exact hpz rfl
end
end Go.Proofs.YticmnfmijdgmbaaGreatDoor
