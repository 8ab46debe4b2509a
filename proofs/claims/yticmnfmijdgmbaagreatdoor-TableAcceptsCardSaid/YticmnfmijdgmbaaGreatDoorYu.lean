/- Whether a row is the beginning of something that is derived: the mathematics of Begins, where each sort lives. -/
import Derived.Test.YticmnfmijdgmbaaGreatDoorGc
import Derived.Test.YticmnfmijdgmbaaGreatDoorZt
set_option linter.unusedVariables false
set_option linter.unusedSimpArgs false
namespace Go.Proofs.YticmnfmijdgmbaaGreatDoor
namespace LR
def oneE (l : List Int) (B : Nat -> Nat -> Bool) (s : Int) (j : Nat) : Bool :=
 if 0 <= s then (j == l.length) || (decide (j + 1 = l.length) && decide (l[j]? = some s)) else B (-1 - s).toNat j
def BegR (l : List Int) (C : Nat -> Nat -> Nat -> Bool) (B : Nat -> Nat -> Bool) (rs : List Int) (R : Nat -> Bool) : Prop :=
 endsE l C rs R l.length = true \/ ∃ k j s, rs[k]? = some s /\ j <= l.length /\ endsE l C (rs.take k) R j = true /\ oneE l B s j = true
theorem BegR.mono {l : List Int} {C : Nat -> Nat -> Nat -> Bool} {B : Nat -> Nat -> Bool} {rs : List Int} {R R' : Nat -> Bool} (hR : ∀ k, R k = true -> R' k = true) (h : BegR l C B rs R) : BegR l C B rs R' := by
 rcases h with h | ⟨k, j, s, h1, h2, h3, h4⟩
 ·exact .inl (ends_mono (fun _ _ _ h => h) rs hR _ h)
 ·exact .inr ⟨k, j, s, h1, h2, ends_mono (fun _ _ _ h => h) _ hR _ h3, h4⟩
theorem BegR.cons {l : List Int} {C : Nat -> Nat -> Nat -> Bool} {B : Nat -> Nat -> Bool} {rs : List Int} {R : Nat -> Bool} {s : Int} (h : BegR l C B rs (stepE l C s R)) : BegR l C B (s :: rs) R := by
 rcases h with h | ⟨k, j, u, h1, h2, h3, h4⟩
 ·exact .inl h
 ·exact .inr ⟨k + 1, j, u, h1, h2, h3, h4⟩
section
variable {M : Mach} {l : List Int} {C : Nat -> Nat -> Nat -> Bool} {B : Nat -> Nat -> Bool}
end
end LR
end Go.Proofs.YticmnfmijdgmbaaGreatDoor

namespace Go.Proofs.YticmnfmijdgmbaaGreatDoor
open X14 (It iterB BuiltOk rightX)
open S13 (RowOk E0 F0 valid_rows)
open S13.X15 (Pl cxB)
open S16
section
variable {G : GD} {n : Nat} {A : Pl -> Nat}
theorem der_in {D : Nat -> Nat -> List It} (hV : validB G = true) {rs x : List Int} (h : LR.Der (mG G n D) rs x) : RowOk G.terms.length G.sorts.length rs -> ∀ t ∈ x, 0 <= t /\ t < (G.terms.length : Int) := by
 induction h with
 | nil => intro _ t ht; cases ht
 | term t rs w h0 _ ih =>
  intro hr u hu
  rcases List.mem_cons.1 hu with rfl | hu
  ·rcases hr u List.mem_cons_self with h | h
   ·exact ⟨h.1, h.2⟩
   ·omega
  ·exact ih (fun s hs => hr s (List.mem_cons_of_mem _ hs)) u hu
 | sort q rs x w hq _ _ ih1 ih2 =>
  intro hr u hu
  have hq' : 0 <= q /\ q < (G.prods.length : Int) := hq
  rcases List.mem_append.1 hu with hu | hu
  ·exact ih1 (rt_ok hV q (by omega) hq'.2) u hu
  ·exact ih2 (fun s hs => hr s (List.mem_cons_of_mem _ hs)) u hu
theorem srt_low {D : Nat -> Nat -> List It} (hV : validB G = true) : ∀ q, (mG G n D).isP q -> (mG G n D).srt q < 0 := fun q hq => by
 obtain ⟨p, hp, e⟩ := isp_prod hq
 have := (row_of hV hp).1
 rw [<- e, srt_at hp]
 omega
theorem start_row (hV : validB G = true) : RowOk G.terms.length G.sorts.length [-1 - G.start] := fun s hs => by
 obtain rfl : s = -1 - G.start := by simpa using hs
 have := S13.valid_start hV
 right
 omega
theorem start_cast (hV : validB G = true) : -1 - (G.start.toNat : Int) = -1 - G.start := by
 have := S13.valid_start hV
 omega
theorem acc_iff (hV : validB G = true) (hO : BuiltOk G n) (hL : LA G n A) (hno : clX (cntS (dS G n A)) (G.terms.length + 1) n = []) {l r : List Int} {b : Bool} (h : LR.Runs (mG G n (dS G n A)) (fun t => 0 <= t /\ t < (G.terms.length : Int)) [0] l b r)
  {C : Nat -> Nat -> Nat -> Bool} (hC : LR.TellsE (mG G n (dS G n A)) l C) (hcl : LR.ClosedE (mG G n (dS G n A)) l C) : b = C G.start.toNat 0 l.length /\ (b = true -> r = []) := by
 have hM := machine_ok hV hO hL (fun i k hi hk => clX_none hno i k hi (by omega))
 have h63 : ¬ (0 <= (63 : Int) /\ (63 : Int) < (G.terms.length : Int)) := fun h => by have := (S13.valid_few hV).1; omega
 have hrt : (mG G n (dS G n A)).rt (-1) = [-1 - G.start] := rfl
 have hiff := LR.span_iff hC hcl (srt_low hV) (A := G.start.toNat) (Nat.zero_le _) (Nat.le_refl l.length)
 rw [LR.seg_whole, start_cast hV] at hiff
 refine ⟨?_, fun hb => by subst hb; exact (LR.runs_der hM h63 h).1⟩
 rw [Bool.eq_iff_iff, hiff]
 constructor
 ·intro hb
  subst hb
  have := (LR.runs_der hM h63 h).2
  rw [hrt] at this
  exact this
 ·intro hd
  have h1 := LR.der_runs hM (inT := fun t => 0 <= t /\ t < (G.terms.length : Int)) (l := l) (by rw [hrt]; exact hd) (der_in hV hd (start_row hV))
  exact ((h1.one h).1).symm
end
end Go.Proofs.YticmnfmijdgmbaaGreatDoor
