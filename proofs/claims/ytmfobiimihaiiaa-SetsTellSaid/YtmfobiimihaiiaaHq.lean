/- Plain mathematics: the least sets of a grammar, and the document's example. -/
import Derived.Test.YtmfobiimihaiiaaHf
namespace Go.Proofs.Ytmfobiimihaiiaa

/-- More is told where there is more, of lists of a length. -/
def MonoN (n : Nat) (evs : List Ev) : Prop := ∀ e ∈ evs, ∀ a b : List Nat, a.length = n → b.length = n → LeS a b → Sub (e.2 a) (e.2 b)
theorem reachS_leastN {evs : List Ev} {n : Nat} {a b M : List Nat} (h : ReachS evs a b) (hl : a.length = n) (hlM : M.length = n) (ha : LeS a M) (hm : MonoN n evs) (hM : ClosedS evs M) : LeS b M := by
  induction h with
  | refl => exact ha
  | step hr hp ih =>
    rename_i L e
    intro i
    unfold stepS
    rw [List.getD_eq_getElem?_getD, List.getElem?_set]
    split
    · rename_i e'
      subst e'
      split
      · exact or_sub (ih _) (sub_trans (hm _ hp _ _ (by rw [reachS_length hr, hl]) hlM ih) (hM _ hp))
      · exact zero_sub _
    · rw [← List.getD_eq_getElem?_getD]; exact ih i
theorem LeastS.leN {evs : List Ev} {n : Nat} {L M : List Nat} (h : LeastS evs n L) (hm : MonoN n evs) (hl : M.length = n) (hM : ClosedS evs M) : LeS L M :=
  reachS_leastN h.1 (by simp) hl (none_leS n M) hm hM
theorem ext_leS {a b : List Nat} (hl : a.length = b.length) (h1 : LeS a b) (h2 : LeS b a) : a = b := by
  refine List.ext_getElem hl fun i x y => ?_
  have e := sub_antisymm (h1 i) (h2 i)
  rw [List.getD_eq_getElem?_getD, List.getD_eq_getElem?_getD, List.getElem?_eq_getElem x, List.getElem?_eq_getElem y] at e
  exact e
theorem LeastS.sameN {evs : List Ev} {n : Nat} {L M : List Nat} (h : LeastS evs n L) (h2 : LeastS evs n M) (hm : MonoN n evs) : L = M :=
  ext_leS (by rw [h.length, h2.length]) (h.leN hm h2.length h2.2.1) (h2.leN hm h.length h.2.1)

theorem evF_mono (nt : Nat) (E : List Bool) (ps : List PD) (n : Nat) : MonoN n (evF nt E ps) := by
  intro e he a b ha hb hab
  obtain ⟨p, _, rfl⟩ := List.mem_map.1 he
  exact ofRow_mono nt E hab (by rw [ha, hb]) p.rs (sub_refl 0)
theorem leS_refl (a : List Nat) : LeS a a := fun _ => sub_refl _
theorem mem_evW {nt : Nat} {E : List Bool} {F : List Nat} {st : Int} {ps : List PD} {e : Ev} (h : e ∈ evW nt E F st ps) :
    e = (st.toNat, fun _ => bitN 63) ∨ ∃ p ∈ ps, ∃ k, k < p.rs.length ∧ p.rs.getD k 0 < 0 ∧ e = ((-1 - p.rs.getD k 0).toNat, fun L => ofRow nt E F (p.rs.drop (k + 1)) (L.getD p.sort.toNat 0)) := by
  rcases List.mem_cons.1 h with h | h
  · exact .inl h
  · obtain ⟨p, hp, h⟩ := List.mem_flatMap.1 h
    obtain ⟨k, hk, h⟩ := List.mem_flatMap.1 h
    unfold evSym at h
    split at h
    · rename_i hn
      exact .inr ⟨p, hp, k, by simpa using hk, hn, by simpa using h⟩
    · simp at h
theorem evW_mono (nt : Nat) (E : List Bool) (F : List Nat) (st : Int) (ps : List PD) (n : Nat) : MonoN n (evW nt E F st ps) := by
  intro e he a b _ _ hab
  rcases mem_evW he with rfl | ⟨p, _, k, _, _, rfl⟩
  · exact sub_refl _
  · exact ofRow_mono nt E (leS_refl F) rfl _ (hab _)

/-- The example's grammar. -/
def gW : GD := ⟨[⟨#[97]⟩], [], [⟨#[83]⟩], [⟨⟨#[112]⟩, 0, [0, -1], 0⟩, ⟨⟨#[113]⟩, 0, [], 0⟩], 0⟩
theorem gW_valid : validB gW = true := by decide +kernel

theorem one_of {α : Type} {l : List α} (h : l.length = 1) (d : α) : l = [l.getD 0 d] := by
  match l, h with
  | [x], _ => rfl
theorem leastW_E {k : Bool} {E : List Bool} (h : Least k gW.prods 1 E) : E = [true] := by
  have h1 := h.2 ⟨⟨#[113]⟩, 0, [], 0⟩ (by simp [gW]) (by simp)
  rw [one_of h.length false]
  exact congrArg (fun b => [b]) h1
theorem leastW_F {F : List Nat} (h : LeastS (evF 1 [true] gW.prods) 1 F) : F = [1] := by
  refine ext_leS h.length (h.leN (evF_mono _ _ _ _) rfl ?_) ?_
  · intro e he
    simp only [evF, gW, List.map_cons, List.map_nil, List.mem_cons, List.not_mem_nil, or_false] at he
    rcases he with rfl | rfl <;> decide
  · intro i
    match i with
    | 0 => exact h.2.1 (0, fun L => ofRow 1 [true] L [0, -1] 0) (by simp [evF, gW])
    | i + 1 => exact zero_sub _
theorem leastW_W {L : List Nat} (h : LeastS (evW 1 [true] [1] 0 gW.prods) 1 L) : L = [9223372036854775808] := by
  have hb : bitN 63 = 9223372036854775808 := by decide
  refine ext_leS h.length (h.leN (evW_mono _ _ _ _ _ _) rfl ?_) ?_
  · intro e he
    rcases mem_evW he with rfl | ⟨p, hp, k, hk, hn, rfl⟩
    · decide
    · simp only [gW, List.mem_cons, List.not_mem_nil, or_false] at hp
      rcases hp with rfl | rfl
      · match k, hk with
        | 0, _ => exact absurd hn (by decide)
        | 1, _ => decide
      · exact absurd hk (Nat.not_lt_zero k)
  · intro i
    match i with
    | 0 => rw [← hb]; exact h.2.1 (0, fun _ => bitN 63) (by simp [evW])
    | i + 1 => exact zero_sub _
end Go.Proofs.Ytmfobiimihaiiaa
