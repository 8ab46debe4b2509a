/- Plain mathematics: a production more makes no set less. -/
import Derived.Test.YtmfobiimihaiiaaMf
namespace Go.Proofs.Ytmfobiimihaiiaa

theorem ofRow_monoE (nt : Nat) {E E' : List Bool} {F F' : List Nat} (hE : LeB E E') (h : LeS F F') (hl : F.length = F'.length) : ∀ (l : List Int) {b b' : Nat}, Sub b b' → Sub (ofRow nt E F l b) (ofRow nt E' F' l b')
  | [], b, b', hb => hb
  | s :: l, b, b', hb => by
    have ih := ofRow_monoE nt hE h hl l hb
    unfold ofRow
    split
    · exact sub_refl _
    · rw [← hl]
      split
      · exact sub_refl _
      · refine or_sub (sub_trans (h _) (sub_or_left _ _)) ?_
        split
        · rename_i he
          rw [if_pos (hE _ he)]
          exact sub_trans ih (sub_or_right _ _)
        · exact zero_sub _

theorem more_bool {k : Bool} {ps qs : List PD} {n : Nat} {E E' : List Bool} (hs : ∀ p ∈ ps, p ∈ qs) (h : Least k ps n E) (h' : Least k qs n E') : LeB E E' :=
  h.le fun p hp => h'.2 p (hs p hp)
theorem more_first {nt n : Nat} {ps qs : List PD} {E E' : List Bool} {F F' : List Nat} (hs : ∀ p ∈ ps, p ∈ qs) (hE : LeB E E') (h : LeastS (evF nt E ps) n F) (h' : LeastS (evF nt E' qs) n F') : LeS F F' := by
  refine h.leN (evF_mono _ _ _ _) h'.length ?_
  intro e he
  obtain ⟨p, hp, rfl⟩ := List.mem_map.1 he
  exact sub_trans (ofRow_monoE nt hE (leS_refl F') rfl p.rs (sub_refl 0)) (h'.2.1 _ (List.mem_map.2 ⟨p, hs p hp, rfl⟩))
theorem mem_evW' {nt : Nat} {E : List Bool} {F : List Nat} {st : Int} {ps : List PD} {p : PD} (hp : p ∈ ps) {k : Nat} (hk : k < p.rs.length) (hn : p.rs.getD k 0 < 0) :
    ((-1 - p.rs.getD k 0).toNat, fun L : List Nat => ofRow nt E F (p.rs.drop (k + 1)) (L.getD p.sort.toNat 0)) ∈ evW nt E F st ps := by
  refine List.mem_cons_of_mem _ (List.mem_flatMap.2 ⟨p, hp, List.mem_flatMap.2 ⟨k, by simpa using hk, ?_⟩⟩)
  unfold evSym
  rw [if_pos hn]
  simp
theorem more_follow {nt n : Nat} {ps qs : List PD} {E E' : List Bool} {F F' L L' : List Nat} {st : Int} (hs : ∀ p ∈ ps, p ∈ qs) (hE : LeB E E') (hF : LeS F F') (hl : F.length = F'.length) (h : LeastS (evW nt E F st ps) n L) (h' : LeastS (evW nt E' F' st qs) n L') : LeS L L' := by
  refine h.leN (evW_mono _ _ _ _ _ _) h'.length ?_
  intro e he
  rcases mem_evW he with rfl | ⟨p, hp, k, hk, hn, rfl⟩
  · exact h'.2.1 (st.toNat, fun _ => bitN 63) List.mem_cons_self
  · exact sub_trans (ofRow_monoE nt hE hF hl _ (sub_refl _)) (h'.2.1 _ (mem_evW' (hs p hp) hk hn))

end Go.Proofs.Ytmfobiimihaiiaa
