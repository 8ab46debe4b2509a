/- Which places of an automaton a text tells apart: a text of few letters does. -/
import Derived.Test.YtochckefnjobhaaGreatDoorUw
namespace Go.Proofs.X8
set_option linter.unusedVariables false
section
variable (K N : Nat) (st : Nat → Nat → Nat) (tau : Nat → Nat)
def run8 : List Nat → Nat → Nat
 | [], p => p
 | c :: w, p => run8 w (st p c)
def E8 (r p q : Nat) : Prop := ∀ w : List Nat, (∀ c ∈ w, c < K) → w.length ≤ r → tau (run8 st w p) = tau (run8 st w q)
theorem E8.refl (r p : Nat) : E8 K st tau r p p := fun _ _ _ => rfl
variable {K N st tau}
theorem E8.symm {r p q : Nat} (h : E8 K st tau r p q) : E8 K st tau r q p := fun w a b => (h w a b).symm
theorem E8.trans {r p q s : Nat} (h : E8 K st tau r p q) (g : E8 K st tau r q s) : E8 K st tau r p s := fun w a b => (h w a b).trans (g w a b)
theorem E8.less {r s p q : Nat} (h : E8 K st tau s p q) (hr : r ≤ s) : E8 K st tau r p q := fun w a b => h w a (Nat.le_trans b hr)
theorem E8.step {r p q : Nat} (h : E8 K st tau (r + 1) p q) {c : Nat} (hc : c < K) : E8 K st tau r (st p c) (st q c) := fun w a b => h (c :: w) (fun d hd => by
 rcases List.mem_cons.1 hd with rfl | hd
 ·exact hc
 ·exact a d hd) (by simpa using b)
theorem E8.of {r p q : Nat} (h0 : tau p = tau q) (h : ∀ c, c < K → E8 K st tau r (st p c) (st q c)) : E8 K st tau (r + 1) p q := fun w a b => by
 cases w with
 | nil => exact h0
 | cons c w => exact h c (a c (by simp)) w (fun d hd => a d (by simp [hd])) (by simpa using b)
variable (K N st tau)
open Classical in
noncomputable def min8 (r p : Nat) : Bool := if ∀ q, q < p → ¬ E8 K st tau r q p then true else false
noncomputable def cnt (r : Nat) : Nat := ((List.range N).filter (min8 K st tau r)).length
variable {K N st tau}
theorem min8_true {r p : Nat} : min8 K st tau r p = true ↔ ∀ q, q < p → ¬ E8 K st tau r q p := by
 unfold min8
 split <;> simp_all
theorem min8_false {r p : Nat} : min8 K st tau r p = false ↔ ¬ ∀ q, q < p → ¬ E8 K st tau r q p := by
 rw [← min8_true (K := K) (st := st) (tau := tau) (r := r) (p := p)]
 simp
theorem filter_lt {P Q : Nat → Bool} : ∀ (l : List Nat), (∀ x ∈ l, P x = true → Q x = true) → (∃ x ∈ l, P x = false ∧ Q x = true) → (l.filter P).length < (l.filter Q).length
 | [], _, ⟨x, hx, _⟩ => by simp at hx
 | a :: l, h, ⟨x, hx, h1, h2⟩ => by
  have hle : (l.filter P).length ≤ (l.filter Q).length := by
   clear hx h1 h2
   induction l with
   | nil => exact Nat.le_refl _
   | cons b l ih =>
    have i := ih (fun x hx => h x (by rcases List.mem_cons.1 hx with rfl | hx <;> simp_all))
    have hb := h b (by simp)
    cases e : P b with
    | false => rw [List.filter_cons_of_neg (by simp [e])]; exact Nat.le_trans i (by rw [List.filter_cons]; split <;> simp)
    | true => rw [List.filter_cons_of_pos (by simp [e]), List.filter_cons_of_pos (by simp [hb e])]; simpa using i
  have ha := h a (by simp)
  rcases List.mem_cons.1 hx with rfl | hx
  ·rw [List.filter_cons_of_neg (by simp [h1]), List.filter_cons_of_pos (by simp [h2])]
   simpa using Nat.lt_succ_of_le hle
  ·have := filter_lt l (fun x hx => h x (by simp [hx])) ⟨x, hx, h1, h2⟩
   cases e : P a with
   | false => rw [List.filter_cons_of_neg (by simp [e])]; exact Nat.lt_of_lt_of_le this (by rw [List.filter_cons]; split <;> simp)
   | true => rw [List.filter_cons_of_pos (by simp [e]), List.filter_cons_of_pos (by simp [ha e])]; simpa using this
theorem least_of {P : Nat → Prop} : ∀ (n : Nat), P n → ∃ m, m ≤ n ∧ P m ∧ ∀ k, k < m → ¬ P k := by
 intro n
 induction n using Nat.strongRecOn with
 | _ n ih =>
  intro h
  by_cases c : ∃ k, k < n ∧ P k
  ·obtain ⟨k, hk, hp⟩ := c
   obtain ⟨m, h1, h2, h3⟩ := ih k hk hp
   exact ⟨m, by omega, h2, h3⟩
  ·exact ⟨n, Nat.le_refl _, h, fun k hk hp => c ⟨k, hk, hp⟩⟩
theorem cnt_lt {r p q : Nat} (hp : p < N) (hq : q < N) (h : E8 K st tau r p q) (hn : ¬ E8 K st tau (r + 1) p q) : cnt K N st tau r < cnt K N st tau (r + 1) := by
 unfold cnt
 refine filter_lt _ (fun x _ hx => ?_) ?_
 ·rw [min8_true] at hx ⊢
  exact fun k hk he => hx k hk (he.less (Nat.le_succ r))
 ·obtain ⟨m, hm, hpm, hmin⟩ := least_of (P := fun k => E8 K st tau r k p) p (E8.refl K st tau r p)
  have key : ∀ i, i < N → E8 K st tau r i p → ¬ E8 K st tau (r + 1) i m → ∃ x ∈ List.range N, min8 K st tau r x = false ∧ min8 K st tau (r + 1) x = true := by
   intro i hi hip him
   obtain ⟨s, hs, hsi, hsm⟩ := least_of (P := fun k => E8 K st tau (r + 1) k i) i (E8.refl K st tau (r + 1) i)
   have hsm' : s ≠ m := fun e => him (e ▸ hsi.symm)
   have hsp : E8 K st tau r s p := (hsi.less (Nat.le_succ r)).trans hip
   have hms : m < s := by
    rcases Nat.lt_or_ge s m with h | h
    ·exact absurd hsp (hmin s h)
    ·omega
   refine ⟨s, List.mem_range.2 (by omega), ?_, ?_⟩
   ·rw [min8_false]
    exact fun h => h m hms (hpm.trans hsp.symm)
   ·rw [min8_true]
    exact fun k hk he => hsm k hk (he.trans hsi)
  by_cases c : E8 K st tau (r + 1) p m
  ·exact key q hq h.symm (fun hqm => hn (c.trans hqm.symm))
  ·exact key p hp (E8.refl K st tau r p) c
theorem cnt_le (r : Nat) : cnt K N st tau r ≤ N := by
 unfold cnt
 have := List.length_filter_le (min8 K st tau r) (List.range N)
 simpa using this
theorem cnt_pos (hN : 0 < N) (r : Nat) : 0 < cnt K N st tau r := by
 unfold cnt
 refine List.length_pos_of_mem (a := 0) (List.mem_filter.2 ⟨List.mem_range.2 hN, ?_⟩)
 rw [min8_true]
 exact fun q hq => absurd hq (Nat.not_lt_zero q)
theorem stable (hN : 0 < N) : ∃ s, s < N ∧ ∀ p q, p < N → q < N → E8 K st tau s p q → E8 K st tau (s + 1) p q := by
 by_cases c : ∃ s, s < N ∧ ∀ p q, p < N → q < N → E8 K st tau s p q → E8 K st tau (s + 1) p q
 ·exact c
 ·have grow : ∀ r, r ≤ N → r + 1 ≤ cnt K N st tau r := by
   intro r
   induction r with
   | zero => intro _; exact cnt_pos hN 0
   | succ r ih =>
    intro h
    have i := ih (by omega)
    have : ∃ p q, p < N ∧ q < N ∧ E8 K st tau r p q ∧ ¬ E8 K st tau (r + 1) p q := Classical.byContradiction fun hn => c ⟨r, by omega, fun p q hp hq he => Classical.byContradiction fun hne => hn ⟨p, q, hp, hq, he, hne⟩⟩
    obtain ⟨p, q, hp, hq, he, hne⟩ := this
    have := cnt_lt hp hq he hne
    omega
  have h1 := grow N (Nat.le_refl _)
  have h2 := cnt_le (K := K) (N := N) (st := st) (tau := tau) N
  omega
theorem E8.all (hst : ∀ p c, p < N → c < K → st p c < N) {s : Nat} (h : ∀ p q, p < N → q < N → E8 K st tau s p q → E8 K st tau (s + 1) p q) : ∀ (m : Nat) {p q : Nat}, p < N → q < N → E8 K st tau s p q → E8 K st tau (s + m) p q
 | 0, p, q, _, _, he => he
 | m + 1, p, q, hp, hq, he => by
  have h1 := h p q hp hq he
  exact E8.of (h1 [] (by simp) (by simp)) fun c hc => E8.all hst h m (hst p c hp hc) (hst q c hq hc) (h1.step hc)
theorem short (hN : 0 < N) (hst : ∀ p c, p < N → c < K → st p c < N) {p q : Nat} (hp : p < N) (hq : q < N) (h : ∃ w : List Nat, (∀ c ∈ w, c < K) ∧ tau (run8 st w p) ≠ tau (run8 st w q)) :
  ∃ w : List Nat, (∀ c ∈ w, c < K) ∧ w.length < N ∧ tau (run8 st w p) ≠ tau (run8 st w q) := by
 obtain ⟨s, hs, hst2⟩ := stable (K := K) (st := st) (tau := tau) hN
 obtain ⟨w, hw, hne⟩ := h
 refine Classical.byContradiction fun hn => hne ?_
 have he : E8 K st tau s p q := fun u a b => Classical.byContradiction fun hu => hn ⟨u, a, by omega, hu⟩
 exact E8.all hst hst2 w.length hp hq he w hw (by omega)
end
end Go.Proofs.X8
namespace Go.Proofs.X8
open X5 (Aut rowOf)
open X6 (Ok stp col tg Eqv)
set_option linter.unusedVariables false
def pl (n p : Nat) : Int := if p < n then (p : Int) else -1
def at8 (n : Nat) (z : Int) : Nat := if z < 0 then n else z.toNat
def to8 (D : Aut) (p c : Nat) : Nat := if p < D.next.length then at8 D.next.length ((rowOf D p).getD c (-1)) else D.next.length
def tau8 (D : Aut) (p : Nat) : Nat := tg D (pl D.next.length p)
theorem pl_at {n : Nat} {z : Int} (h : z < (n : Int)) (h1 : -1 ≤ z) : pl n (at8 n z) = z ∧ at8 n z < n + 1 := by
 unfold pl at8
 split
 ·rw [if_neg (by omega)]; omega
 ·rw [if_pos (by omega)]; omega
theorem getD_of {D : Aut} {K : Nat} (hD : Ok D K) {p c : Nat} (hp : p < D.next.length) : -1 ≤ (rowOf D p).getD c (-1) ∧ (rowOf D p).getD c (-1) < (D.next.length : Int) := by
 rw [List.getD_eq_getElem?_getD]
 cases e : (rowOf D p)[c]? with
 | none => exact ⟨Int.le_refl _, by show (-1 : Int) < _; omega⟩
 | some z => exact hD.ends p hp z (List.mem_of_getElem? e)
theorem to8_ok {D : Aut} {K : Nat} (hD : Ok D K) (p c : Nat) : pl D.next.length (to8 D p c) = stp D (pl D.next.length p) c ∧ to8 D p c < D.next.length + 1 := by
 unfold to8
 by_cases hp : p < D.next.length
 ·rw [if_pos hp]
  have h := getD_of hD (c := c) hp
  have h2 := pl_at h.2 h.1
  refine ⟨?_, h2.2⟩
  rw [h2.1]
  unfold stp pl
  rw [if_pos hp, if_neg (by omega), Int.toNat_natCast]
 ·rw [if_neg hp]
  refine ⟨?_, Nat.lt_succ_self _⟩
  unfold stp pl
  rw [if_neg (Nat.lt_irrefl _), if_neg hp, if_pos (by decide)]
theorem run_col {D : Aut} {K : Nat} (hD : Ok D K) : ∀ (w : List Nat) (p : Nat), tau8 D (run8 (to8 D) w p) = tg D (col D w (pl D.next.length p))
 | [], p => rfl
 | c :: w, p => by
  show tau8 D (run8 (to8 D) w (to8 D p c)) = tg D (col D w (stp D (pl D.next.length p) c))
  rw [run_col hD w, (to8_ok hD p c).1]
def Far (K : Nat) (D : Aut) (r p q : Nat) : Prop := ∃ w : List Nat, (∀ c ∈ w, c < K) ∧ w.length < r ∧ tau8 D (run8 (to8 D) w p) ≠ tau8 D (run8 (to8 D) w q)
theorem far_step {K : Nat} {D : Aut} {r p q : Nat} (h : Far K D (r + 1) p q) : tau8 D p ≠ tau8 D q ∨ ∃ c, c < K ∧ Far K D r (to8 D p c) (to8 D q c) := by
 obtain ⟨w, h1, h2, h3⟩ := h
 cases w with
 | nil => exact .inl h3
 | cons c w => exact .inr ⟨c, h1 c (by simp), w, fun d hd => h1 d (by simp [hd]), by simpa using h2, h3⟩
theorem far_all {K : Nat} {D : Aut} (hD : Ok D K) {p q : Nat} (hp : p < D.next.length + 1) (hq : q < D.next.length + 1) : ¬ Eqv K D (pl D.next.length p) D (pl D.next.length q) ↔ Far K D (D.next.length + 2) p q := by
 constructor
 ·intro h
  have : ∃ w : List Nat, (∀ c ∈ w, c < K) ∧ tau8 D (run8 (to8 D) w p) ≠ tau8 D (run8 (to8 D) w q) := Classical.byContradiction fun hn => h fun w hw => by
   rw [← run_col hD, ← run_col hD]
   exact Classical.byContradiction fun hne => hn ⟨w, hw, hne⟩
  obtain ⟨w, h1, h2, h3⟩ := short (N := D.next.length + 1) (Nat.succ_pos _) (fun p c _ _ => (to8_ok hD p c).2) hp hq this
  exact ⟨w, h1, by omega, h3⟩
 ·rintro ⟨w, h1, _, h3⟩ h
  exact h3 (by rw [run_col hD, run_col hD]; exact h w h1)
def Sound (K : Nat) (D : Aut) (F : Nat → Nat → Bool) : Prop := ∀ p q, p < D.next.length + 1 → q < D.next.length + 1 → F p q = true → ¬ Eqv K D (pl D.next.length p) D (pl D.next.length q)
theorem Sound.tag {K : Nat} {D : Aut} (p q : Nat) (h : tau8 D p ≠ tau8 D q) : ¬ Eqv K D (pl D.next.length p) D (pl D.next.length q) := fun he => h (he [] (by simp))
theorem Sound.next {K : Nat} {D : Aut} (hD : Ok D K) {p q c : Nat} (hc : c < K) (h : ¬ Eqv K D (pl D.next.length (to8 D p c)) D (pl D.next.length (to8 D q c))) : ¬ Eqv K D (pl D.next.length p) D (pl D.next.length q) := fun he => h fun w hw => by
 rw [(to8_ok hD p c).1, (to8_ok hD q c).1]
 exact he (c :: w) fun d hd => by
  rcases List.mem_cons.1 hd with rfl | hd
  ·exact hc
  ·exact hw d hd
end Go.Proofs.X8
namespace Go.Proofs.X8
open X5 (Aut rowOf)
open X6 (Ok stp col tg Eqv)
set_option linter.unusedVariables false
def setF (F : Nat → Nat → Bool) (i k : Nat) (x : Bool) : Nat → Nat → Bool := fun p q => if p = i ∧ q = k then x else F p q
theorem setF_at (F : Nat → Nat → Bool) (i k : Nat) (x : Bool) : setF F i k x i k = x := by unfold setF; rw [if_pos ⟨rfl, rfl⟩]
theorem setF_off (F : Nat → Nat → Bool) {i k p q : Nat} (x : Bool) (h : ¬ (p = i ∧ q = k)) : setF F i k x p q = F p q := by unfold setF; rw [if_neg h]
theorem setF_same (F : Nat → Nat → Bool) {i k : Nat} (h : F i k = false) : setF F i k false = F := by
 funext p q
 unfold setF
 split
 ·rename_i e
  rw [e.1, e.2, h]
 ·rfl
theorem setF_more (F : Nat → Nat → Bool) (i k : Nat) {p q : Nat} (h : F p q = true) : setF F i k true p q = true := by
 unfold setF
 split
 ·rfl
 ·exact h
structure InvP (K : Nat) (D : Aut) (F : Nat → Nat → Bool) (r i k : Nat) : Prop where
 sound : Sound K D F
 old : ∀ p q, p < D.next.length + 1 → q < D.next.length + 1 → Far K D r p q → F p q = true
 new : ∀ p q, p < D.next.length + 1 → q < D.next.length + 1 → (p < i ∨ p = i ∧ q < k) → Far K D (r + 1) p q → F p q = true
theorem InvP.none_ (K : Nat) (D : Aut) : InvP K D (fun _ _ => false) 0 0 0 := ⟨fun _ _ _ _ h => (by cases h), fun p q _ _ ⟨w, _, h, _⟩ => absurd h (Nat.not_lt_zero _), fun p q _ _ h => by omega⟩
theorem InvP.row {K : Nat} {D : Aut} {F : Nat → Nat → Bool} {r i : Nat} (h : InvP K D F r i (D.next.length + 1)) : InvP K D F r (i + 1) 0 := ⟨h.sound, h.old, fun p q hp hq hlt => h.new p q hp hq (by omega)⟩
theorem InvP.round {K : Nat} {D : Aut} {F : Nat → Nat → Bool} {r : Nat} (h : InvP K D F r (D.next.length + 1) 0) : InvP K D F (r + 1) 0 0 := ⟨h.sound, fun p q hp hq => h.new p q hp hq (.inl hp), fun p q hp hq hlt => by omega⟩
theorem InvP.told {K : Nat} {D : Aut} {F : Nat → Nat → Bool} (hD : Ok D K) (h : InvP K D F (D.next.length + 2) 0 0) (p q : Nat) (hp : p < D.next.length + 1) (hq : q < D.next.length + 1) : F p q = true ↔ ¬ Eqv K D (pl D.next.length p) D (pl D.next.length q) :=
 ⟨h.sound p q hp hq, fun hn => h.old p q hp hq ((far_all hD hp hq).1 hn)⟩
theorem InvP.yes {K : Nat} {D : Aut} {F : Nat → Nat → Bool} {r i k : Nat} (h : InvP K D F r i k) (hn : ¬ Eqv K D (pl D.next.length i) D (pl D.next.length k)) : InvP K D (setF F i k true) r i k :=
 ⟨fun p q hp hq e => by
  by_cases c : p = i ∧ q = k
  ·rw [c.1, c.2]; exact hn
  ·rw [setF_off F true c] at e; exact h.sound p q hp hq e, fun p q hp hq hf => setF_more F i k (h.old p q hp hq hf), fun p q hp hq hl hf => setF_more F i k (h.new p q hp hq hl hf)⟩
structure InvC (K : Nat) (D : Aut) (F : Nat → Nat → Bool) (r i k c : Nat) : Prop where
 p : InvP K D F r i k
 not : F i k = false → tau8 D i = tau8 D k ∧ ∀ c', c' < c → ¬ Far K D r (to8 D i c') (to8 D k c')
theorem InvP.tagNe {K : Nat} {D : Aut} {F : Nat → Nat → Bool} {r i k : Nat} (h : InvP K D F r i k) (hn : tau8 D i ≠ tau8 D k) : InvC K D (setF F i k true) r i k 0 := ⟨h.yes (Sound.tag i k hn), fun e => by rw [setF_at] at e; cases e⟩
theorem InvP.tagEq {K : Nat} {D : Aut} {F : Nat → Nat → Bool} {r i k : Nat} (h : InvP K D F r i k) (hn : tau8 D i = tau8 D k) : InvC K D F r i k 0 := ⟨h, fun _ => ⟨hn, fun c' hc => absurd hc (Nat.not_lt_zero c')⟩⟩
theorem InvC.step {K : Nat} {D : Aut} {F : Nat → Nat → Bool} {r i k c : Nat} (hD : Ok D K) (h : InvC K D F r i k c) (hc : c < K) (hf : F i k = false) : InvC K D (setF F i k (F (to8 D i c) (to8 D k c))) r i k (c + 1) := by
 have h1 := (to8_ok hD i c).2
 have h2 := (to8_ok hD k c).2
 cases e : F (to8 D i c) (to8 D k c) with
 | true => exact ⟨h.p.yes (Sound.next hD hc (h.p.sound _ _ h1 h2 e)), fun e => by rw [setF_at] at e; cases e⟩
 | false =>
  rw [setF_same F hf]
  refine ⟨h.p, fun _ => ⟨(h.not hf).1, fun c' hc' hfar => ?_⟩⟩
  by_cases hlt : c' < c
  ·exact (h.not hf).2 c' hlt hfar
  ·obtain rfl : c' = c := by omega
   have := h.p.old _ _ h1 h2 hfar
   rw [e] at this
   cases this
theorem InvC.done {K : Nat} {D : Aut} {F : Nat → Nat → Bool} {r i k c : Nat} (h : InvC K D F r i k c) (hc : K ≤ c ∨ F i k = true) : InvP K D F r i (k + 1) := by
 refine ⟨h.p.sound, h.p.old, fun p q hp hq hl hf => ?_⟩
 by_cases e : p = i ∧ q = k
 ·obtain ⟨rfl, rfl⟩ := e
  rcases hc with hc | hc
  ·cases e : F p q with
   | true => rfl
   | false =>
    have hn := h.not e
    rcases far_step hf with ht | ⟨c', hc', hf'⟩
    ·exact absurd hn.1 ht
    ·exact absurd hf' (hn.2 c' (by omega))
  ·exact hc
 ·exact h.p.new p q hp hq (by omega) hf
theorem tau_get {D : Aut} {K : Nat} (hD : Ok D K) {p : Nat} (hp : p < D.next.length + 1) : (D.tags ++ [0])[p]? = some (tau8 D p) := by
 unfold tau8 pl tg
 by_cases h : p < D.next.length
 ·rw [if_pos h, if_neg (by omega), List.getElem?_append_left (by rw [hD.tags]; exact h), Int.toNat_natCast, List.getD_eq_getElem?_getD, List.getElem?_eq_getElem (by rw [hD.tags]; exact h)]
  rfl
 ·rw [if_neg h, if_pos (by decide), List.getElem?_append_right (by rw [hD.tags]; omega), hD.tags, show p - D.next.length = 0 by omega]
  rfl
end Go.Proofs.X8
