/- nfa's machine: lay: one behind the other: what is needed. -/
import Derived.Test.YtochckefnjobhaaDoorNc
namespace Go.Proofs.X4
open Go Go.Proofs.X3
set_option linter.unusedVariables false
/-- What is laid by some of a row's regexes, in whatever order. -/
def stX (l : List RX) (b : Nat) (P : List Pl) (xs : List (Fin l.length)) : Nat × List Pl := xs.foldl (fun s x => layX l[x] s.1 s.2) (b, P)
theorem st_nil (l : List RX) (b : Nat) (P : List Pl) : stX l b P [] = (b, P) := rfl
theorem st_snoc (l : List RX) (b : Nat) (P : List Pl) (xs : List (Fin l.length)) (x : Fin l.length) : stX l b P (xs ++ [x]) = layX l[x] (stX l b P xs).1 (stX l b P xs).2 := by
  unfold stX; rw [List.foldl_append]; rfl
theorem st_all (l : List RX) (b : Nat) (P : List Pl) : ∀ (d : Nat) (xs : List (Fin l.length)), d ≤ l.length → xs.map (·.val) = Go.Proofs.YtochckefnjobhaaDoor.backTo l.length (l.length - d) → stX l b P xs = layCat (l.drop (l.length - d)) b P := by
  intro d
  induction d with
  | zero =>
    intro xs _ h
    rw [Nat.sub_zero, Go.Proofs.YtochckefnjobhaaDoor.backTo_all] at h
    obtain rfl := List.map_eq_nil_iff.1 h
    rw [Nat.sub_zero, List.drop_length]; rfl
  | succ d ih =>
    intro xs hd h
    have hlt : l.length - (d + 1) < l.length := by omega
    have e : l.length - (d + 1) + 1 = l.length - d := by omega
    rw [← Go.Proofs.YtochckefnjobhaaDoor.backTo_next hlt, e] at h
    obtain ⟨ys, zs, rfl, h1, h2⟩ := List.map_eq_append_iff.1 h
    obtain ⟨z, rfl, hz⟩ : ∃ z, zs = [z] ∧ z.val = l.length - (d + 1) := by
      cases zs with
      | nil => simp at h2
      | cons z zs =>
        simp only [List.map_cons, List.cons.injEq, List.map_eq_nil_iff] at h2
        exact ⟨z, by rw [h2.2], h2.1⟩
    rw [st_snoc, ih ys (by omega) h1, List.drop_eq_getElem_cons hlt, e]
    simp only [layCat, Fin.getElem_fin, hz]
theorem kid_le (l : List RX) (x : Fin l.length) : l[x].size ≤ sizeL l := by
  have := Go.Proofs.YtochckefnjobhaaDoor.size_in l x.val x.isLt
  simpa using this
theorem st_sound (l : List RX) (b : Nat) (P : List Pl) (hB : Bd P P.length) (hb : b < P.length) (xs : List (Fin l.length)) :
    Bd (stX l b P xs).2 (stX l b P xs).2.length ∧ (stX l b P xs).1 < (stX l b P xs).2.length ∧ P.length ≤ (stX l b P xs).2.length ∧ (stX l b P xs).2.length ≤ P.length + xs.length * sizeL l ∧ muL (stX l b P xs).2 ≤ muL P + 4 * (xs.length * sizeL l) := by
  induction h : xs.length generalizing xs with
  | zero =>
    obtain rfl := List.length_eq_zero_iff.1 h
    exact ⟨hB, hb, Nat.le_refl _, by simp [stX], by simp [stX]⟩
  | succ n ih =>
    have hne : xs ≠ [] := fun e => by rw [e] at h; simp at h
    obtain ⟨ys, x, rfl⟩ : ∃ ys x, xs = ys ++ [x] := ⟨xs.dropLast, xs.getLast hne, (List.dropLast_concat_getLast hne).symm⟩
    obtain ⟨i1, i2, i3, i4, i5⟩ := ih ys (by simpa using h)
    have hs := lay_sound l[x] (stX l b P ys).1 (stX l b P ys).2 i1 i2
    have hk := lay_keep l[x] (stX l b P ys).1 (stX l b P ys).2
    have hle := kid_le l x
    rw [st_snoc]
    have h4 := hs.len
    have h5 := hs.mu
    have h6 := hk.1
    rw [Nat.succ_mul]
    exact ⟨hs.bd, hs.lt, by omega, by omega, by omega⟩
theorem cube (M k : Nat) (h : k ≤ M) : k * k * k + M * M + M + 1 ≤ (1 + M) * (1 + M) * (1 + M) := by
  have h1 : k * k ≤ M * M := Nat.mul_le_mul h h
  have h2 : k * k * k ≤ M * M * M := Nat.mul_le_mul h1 h
  have e : (1 + M) * (1 + M) * (1 + M) = 1 + 3 * M + 3 * (M * M) + M * M * M := by
    simp only [Nat.add_mul, Nat.mul_add, Nat.one_mul, Nat.mul_one]
    omega
  rw [e]
  have := Nat.zero_le (M * M)
  omega
end Go.Proofs.X4
namespace Go.Proofs.X4
open Go Go.Proofs.X3
set_option linter.unusedVariables false
/-- Alike from place n on. -/
def Ag (n : Nat) (P P' : List Pl) : Prop := P.length = P'.length ∧ ∀ k, n ≤ k → P[k]? = P'[k]?
theorem Ag.app {n : Nat} {P P' : List Pl} (h : Ag n P P') (x : Pl) : Ag n (P ++ [x]) (P' ++ [x]) := by
  refine ⟨by simp [h.1], fun k hk => ?_⟩
  by_cases c : k < P.length
  · rw [List.getElem?_append_left c, List.getElem?_append_left (by rw [← h.1]; exact c)]; exact h.2 k hk
  · rw [List.getElem?_append_right (by omega), List.getElem?_append_right (by rw [← h.1]; omega), h.1]
theorem Ag.add {n : Nat} {P P' : List Pl} (h : Ag n P P') (a f : Nat) : Ag n (addAlso P a f) (addAlso P' a f) := by
  refine ⟨by rw [addAlso_len, addAlso_len]; exact h.1, fun k hk => ?_⟩
  by_cases c : k = a
  · subst c
    unfold addAlso
    rw [List.getElem?_modify, List.getElem?_modify, h.2 k hk]
  · rw [addAlso_ne _ c, addAlso_ne _ c]; exact h.2 k hk
theorem Ag.set {n : Nat} {P P' : List Pl} (h : Ag n P P') (a : Nat) (l : List Nat) : Ag n (setAlso P a l) (setAlso P' a l) := by
  refine ⟨by rw [setAlso_len, setAlso_len]; exact h.1, fun k hk => ?_⟩
  by_cases c : k = a
  · subst c
    unfold setAlso
    rw [List.getElem?_modify, List.getElem?_modify, h.2 k hk]
  · rw [setAlso_ne _ c, setAlso_ne _ c]; exact h.2 k hk
mutual
theorem lay_ag (n : Nat) : ∀ (r : RX) (b : Nat) (P P' : List Pl), Ag n P P' → (layX r b P).1 = (layX r b P').1 ∧ Ag n (layX r b P).2 (layX r b P').2
  | .empty, b, P, P', h => ⟨rfl, h⟩
  | .bytes x y z u, b, P, P', h => ⟨h.1, h.app _⟩
  | .cat l, b, P, P', h => layCat_ag n l b P P' h
  | .alt l, b, P, P', h => by
    simp only [layX]
    rw [← h.1]
    exact ⟨rfl, layAlt_ag n l P.length b _ _ (h.app _)⟩
  | .star r, b, P, P', h => by
    have hr := lay_ag n r P.length (P ++ [none_]) (P' ++ [none_]) (h.app _)
    simp only [layX]
    rw [← h.1, ← hr.1]
    exact ⟨rfl, hr.2.set _ _⟩
theorem layCat_ag (n : Nat) : ∀ (l : List RX) (b : Nat) (P P' : List Pl), Ag n P P' → (layCat l b P).1 = (layCat l b P').1 ∧ Ag n (layCat l b P).2 (layCat l b P').2
  | [], b, P, P', h => ⟨rfl, h⟩
  | r :: l, b, P, P', h => by
    have h1 := layCat_ag n l b P P' h
    simp only [layCat]
    rw [← h1.1]
    exact lay_ag n r _ _ _ h1.2
theorem layAlt_ag (n : Nat) : ∀ (l : List RX) (a b : Nat) (P P' : List Pl), Ag n P P' → Ag n (layAlt l a b P) (layAlt l a b P')
  | [], a, b, P, P', h => h
  | r :: l, a, b, P, P', h => by
    have h1 := lay_ag n r b P P' h
    simp only [layAlt]
    rw [← h1.1]
    exact layAlt_ag n l a b _ _ (h1.2.add _ _)
end
/-- A star's first place may be told one thing ahead, and the other one behind. -/
theorem star_eq (r : RX) (b : Nat) (P : List Pl) : (layX r P.length (setAlso (P ++ [none_]) P.length [b])).1 = (layX r P.length (P ++ [none_])).1 ∧
    addAlso (layX r P.length (setAlso (P ++ [none_]) P.length [b])).2 P.length (layX r P.length (setAlso (P ++ [none_]) P.length [b])).1 = (layX (.star r) b P).2 := by
  have hag : Ag (P.length + 1) (setAlso (P ++ [none_]) P.length [b]) (P ++ [none_]) := ⟨setAlso_len _ _ _, fun k hk => setAlso_ne _ (by omega)⟩
  have h1 := lay_ag (P.length + 1) r P.length _ _ hag
  have k1 := lay_keep r P.length (setAlso (P ++ [none_]) P.length [b])
  have k2 := lay_keep r P.length (P ++ [none_])
  rw [setAlso_len] at k1
  have hl : (P ++ [none_]).length = P.length + 1 := by simp
  rw [hl] at k1 k2
  refine ⟨h1.1, ?_⟩
  simp only [layX]
  rw [h1.1]
  have ha : (P ++ [none_])[P.length]? = some ⟨.empty, 0, []⟩ := by simp [none_]
  refine List.ext_getElem? fun k => ?_
  by_cases c : k = P.length
  · subst c
    rw [addAlso_at _ (pl := ⟨.empty, 0, [b]⟩) (by rw [k1.2 _ (by omega), setAlso_at _ ha]), setAlso_at _ (pl := ⟨.empty, 0, []⟩) (by rw [k2.2 _ (by omega), ha])]
    rfl
  · rw [addAlso_ne _ c, setAlso_ne _ c]
    by_cases d : k < P.length
    · rw [k1.2 _ (by omega), k2.2 _ (by omega), setAlso_ne _ c]
    · exact h1.2.2 k (by omega)
end Go.Proofs.X4
namespace Go.Proofs.YtochckefnjobhaaDoor
open Go Go.RowKit Go.Lib
open X3 (RX Pl)
set_option linter.unusedVariables false

/-- What lies in cells is kept where but new blocks, and what is no cells, turn. -/
theorem MRep.cellsKept {T : Nat → Nat} {B m : Nat} {w w' : World} {pv : Value} {AS : List Value} {P : List Pl} (h : MRep T B m w pv AS P) (hk : ∀ (g : Nat) (cs : Array Value) (t : TypeId) (fz : Nat × Nat), w.heap[g]? = some (Obj.cells cs t fz) → w'.heap[g]? = w.heap[g]?) : MRep T B m w' pv AS P := by
  have row : ∀ {e : TypeId} {sz : Nat} {v : Value} {n : Nat} {xs : List Value}, w.ownsRow B e sz v n xs → w'.ownsRow B e sz v n xs := by
    intro e sz v n xs h
    refine owns_kept h fun g hg => ?_
    rcases h.2 with ⟨hn, _⟩ | ⟨g', cap, cur, rfl, hB, hg', rest⟩
    · rw [hn] at hg; cases hg
    · obtain rfl := Option.some.inj hg; exact hk _ _ _ _ hg'
  exact ⟨(hk _ _ _ _ h.box).trans h.box, h.mB, row h.row, h.lenA, fun k pl av h1 h2 => row (h.also k pl av h1 h2), h.ap1, h.ap2, h.apm⟩
theorem MRep.ownKept {T : Nat → Nat} {B m : Nat} {w w' : World} {pv : Value} {AS : List Value} {P : List Pl} (h : MRep T B m w pv AS P) (hk : ∀ g : Nat, Own m pv AS g → w'.heap[g]? = w.heap[g]?) : MRep T B m w' pv AS P :=
  ⟨(hk m (.inl rfl)).trans h.box, h.mB, owns_kept h.row (fun g hg => hk g (.inr (.inl hg))), h.lenA, fun k pl av h1 h2 => owns_kept (h.also k pl av h1 h2) (fun g hg => hk g (.inr (.inr ⟨av, List.mem_iff_getElem?.2 ⟨k, h2⟩, hg⟩))), h.ap1, h.ap2, h.apm⟩
theorem row_cells {w : World} {B : Nat} {e : TypeId} {sz : Nat} {v : Value} {n : Nat} {xs : List Value} (h : w.ownsRow B e sz v n xs) {g : Nat} (hg : v.ownBlock = some g) : ∃ (cs : Array Value) (t : TypeId) (fz : Nat × Nat), w.heap[g]? = some (Obj.cells cs t fz) := by
  rcases h.2 with ⟨hn, _⟩ | ⟨g', cap, cur, rfl, hB, hg', rest⟩
  · rw [hn] at hg; cases hg
  · obtain rfl := Option.some.inj hg; exact ⟨_, _, _, hg'⟩
theorem MRep.own_cells {T : Nat → Nat} {B m : Nat} {w : World} {pv : Value} {AS : List Value} {P : List Pl} (h : MRep T B m w pv AS P) {g : Nat} (hg : Own m pv AS g) : ∃ (cs : Array Value) (t : TypeId) (fz : Nat × Nat), w.heap[g]? = some (Obj.cells cs t fz) := by
  rcases hg with rfl | hg | ⟨a, ha, hg⟩
  · exact ⟨_, _, _, h.box⟩
  · exact row_cells h.row hg
  · obtain ⟨k, hk⟩ := List.mem_iff_getElem?.1 ha
    have hlt : k < P.length := by rw [← h.lenA]; exact (List.getElem?_eq_some_iff.1 hk).1
    exact row_cells (h.also k _ a (List.getElem?_eq_getElem hlt) hk) hg
theorem cellsP_T {T T' : Nat → Nat} : ∀ (i : Nat) (P : List Pl) (AS : List Value), (∀ k, k < i + P.length → T k = T' k) → cellsP T i P AS = cellsP T' i P AS
  | i, [], _, _ => by simp [cellsP]
  | i, p :: P, [], _ => by simp [cellsP]
  | i, p :: P, a :: AS, h => by
    simp only [cellsP]
    rw [h i (by simp), cellsP_T (i + 1) P AS fun k hk => h k (by simp only [List.length_cons]; omega)]
theorem MRep.turn {T T' : Nat → Nat} {B m : Nat} {w : World} {pv : Value} {AS : List Value} {P : List Pl} (h : MRep T B m w pv AS P) (hT : ∀ k, k < P.length → T k = T' k) : MRep T' B m w pv AS P :=
  ⟨h.box, h.mB, by have := h.row; rwa [cellsP_T 0 P AS (fun k hk => hT k (by omega))] at this, h.lenA, h.also, h.ap1, h.ap2, h.apm⟩
theorem kids_fun {S : Nat → Prop} {w : World} {l : List RX} {g : Nat} (h : RepLS S w l g 0) : ∃ K : Nat → Value, ∀ (k : Nat) (hk : k < l.length), RepS S w l[k] (K k) ∧
    ∃ (kd x y z u : Int) (ko : Option Addr) (kn kc : Nat), K k = .agg #[.int .i64 kd, .int .u64 x, .int .u64 y, .int .u64 z, .int .u64 u, .slice ko kn kc] ∧ w.cell? ⟨g, k * 6, none⟩ = some (.int .i64 kd) ∧ w.cell? ⟨g, k * 6 + 1, none⟩ = some (.int .u64 x) ∧ w.cell? ⟨g, k * 6 + 2, none⟩ = some (.int .u64 y) ∧ w.cell? ⟨g, k * 6 + 3, none⟩ = some (.int .u64 z) ∧ w.cell? ⟨g, k * 6 + 4, none⟩ = some (.int .u64 u) ∧ w.cell? ⟨g, k * 6 + 5, none⟩ = some (.slice ko kn kc) := by
  have : ∀ k : Nat, ∃ v : Value, ∀ hk : k < l.length, RepS S w l[k] v ∧ ∃ (kd x y z u : Int) (ko : Option Addr) (kn kc : Nat), v = .agg #[.int .i64 kd, .int .u64 x, .int .u64 y, .int .u64 z, .int .u64 u, .slice ko kn kc] ∧ w.cell? ⟨g, k * 6, none⟩ = some (.int .i64 kd) ∧ w.cell? ⟨g, k * 6 + 1, none⟩ = some (.int .u64 x) ∧ w.cell? ⟨g, k * 6 + 2, none⟩ = some (.int .u64 y) ∧ w.cell? ⟨g, k * 6 + 3, none⟩ = some (.int .u64 z) ∧ w.cell? ⟨g, k * 6 + 4, none⟩ = some (.int .u64 u) ∧ w.cell? ⟨g, k * 6 + 5, none⟩ = some (.slice ko kn kc) := by
    intro k
    by_cases hk : k < l.length
    · obtain ⟨kd, x, y, z, u, kv, hR, c0, c1, c2, c3, c4, c5⟩ := h.at_ k hk
      rw [Nat.zero_add] at c0 c1 c2 c3 c4 c5
      obtain ⟨ko, kn, kc, rfl⟩ := hR.slice
      exact ⟨_, fun _ => ⟨hR, _, _, _, _, _, _, _, _, rfl, c0, c1, c2, c3, c4, c5⟩⟩
    · exact ⟨undef, fun h => absurd h hk⟩
  exact ⟨fun k => Classical.choose (this k), fun k hk => Classical.choose_spec (this k) hk⟩
end Go.Proofs.YtochckefnjobhaaDoor
