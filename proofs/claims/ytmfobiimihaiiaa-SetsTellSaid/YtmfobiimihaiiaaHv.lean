/- sets.grow, of sets. -/
import Derived.Test.YtmfobiimihaiiaaHu
namespace Go.Proofs.Ytmfobiimihaiiaa
open Go Go.RowKit Go.Lib Go.Joins

/-- How much there may be yet, of sets in memory. -/
def roomV : Value → Nat
  | .int _ n => top - n.toNat
  | _ => 0
def rooms : Option Obj → Nat
  | some (.cells cs _ _) => (cs.toList.map roomV).sum
  | _ => 0
theorem rooms_list (L : List Nat) (t : TypeId) (fr : Nat × Nat) : rooms (some (.cells (sets L) t fr)) = room L := by
  show ((L.map u64).map roomV).sum = (L.map fun a => top - a).sum
  rw [List.map_map]
  rfl

set_option maxRecDepth 100000 in
set_option maxHeartbeats 2000000 in
theorem growS {W : World} {lb n tf : Nat} {caps : Array Value} {evs : List Ev} (eg : ∀ args w, (callFunc tf args).run Try.prog w = .ok (.enter tf args) w) (hl : W.heap[lb]? = some (.cells (sets (List.replicate n 0)) 30))
    (tell : Hid (∀ (W' : World) (Bl Bj Bc : Nat) (L : List Nat), Far (fun k => k = lb) W W' → GStS W' lb Bl Bj Bc n L false → (∀ x ∈ L, x < top) → W.heap.size ≤ Bc →
      Calls Try.prog tf (#[.func (.func 54) #[] #[.pointer (some ⟨Bj, 0, none⟩), .pointer (some ⟨Bl, 0, none⟩), .pointer (some ⟨Bc, 0, none⟩)]] ++ caps) W' fun e W'' =>
        (∃ v, e = .returned v) ∧ ∃ L' c, GStS W'' lb Bl Bj Bc n L' c ∧ Far (fun k => k = lb ∨ k = Bc) W' W'' ∧ PassedS evs evs L L' c)) :
    Calls Try.prog 34 #[.slice (some ⟨lb, 0, none⟩) n n, .func (.func 35) #[] #[], .func (.func tf) #[] caps] W fun e W' =>
      e = .returned (.slice (some ⟨lb, 0, none⟩) n n) ∧ ∃ L, LeastS evs n L ∧ W'.heap[lb]? = some (.cells (sets L) 30) ∧ Far (fun k => k = lb) W W' := by
  have hlb : lb < W.heap.size := (Array.getElem?_eq_some_iff.1 hl).1
  go_enter Try.func34, Try.ntmps34
  go_wp2
  obtain ⟨W2, hW2⟩ : ∃ W2, W2 = (W.alloc (.cells #[.slice (some ⟨lb, 0, none⟩) n n] 36)).alloc (.cells #[.func (.func 35) #[] #[]] 57) := ⟨_, rfl⟩
  have hB2 : Below W.heap.size W W2 := by rw [hW2]; exact ((Below.refl _ _).alloc (Nat.le_refl _) _).alloc (by simp) _
  have b1 : W2.heap[W.heap.size]? = some (.cells #[.slice (some ⟨lb, 0, none⟩) n n] 36) := by
    rw [hW2]; exact (Below.heap_alloc _ _ _ (by simp)).trans (new_block W _)
  have b2 : W2.heap[W.heap.size + 1]? = some (.cells #[.func (.func 35) #[] #[]] 57) := by
    rw [hW2]
    have := new_block (W.alloc (.cells #[.slice (some ⟨lb, 0, none⟩) n n] 36)) (.cells #[.func (.func 35) #[] #[]] 57)
    rwa [World.size_alloc] at this
  have b3 := (hB2.block lb hlb).trans hl
  have s2 := hB2.size
  rw [← hW2]
  clear hW2
  have hbl : W.heap.size ≠ lb := by omega
  generalize hBl : W.heap.size = Bl at *
  refine wp_scope_label (fun a' w' => ∃ (u7 u8 u9 u10 u11 u12 : Value), a' = { tmps := #[.slice (some ⟨lb, 0, none⟩) n n, .func (.func 35) #[] #[], .func (.func tf) #[] caps, .pointer (some ⟨Bl, 0, none⟩), .pointer (some ⟨Bl + 1, 0, none⟩), undef, .slice none 0 0, u7, u8, u9, u10, u11, u12], defers := [] } ∧
      ∃ L, w'.heap[lb]? = some (.cells (sets L) 30) ∧ L.length = n ∧ w'.heap[Bl]? = some (.cells #[.slice (some ⟨lb, 0, none⟩) n n] 36) ∧ w'.heap[Bl + 1]? = some (.cells #[.func (.func 35) #[] #[]] 57) ∧
        ReachS evs (List.replicate n 0) L ∧ (∀ x ∈ L, x < top) ∧ Far (fun k => k = lb) W w')
    (fun _ w' => rooms w'.heap[lb]?) ?_ ?_
  · exact ⟨_, _, _, _, _, _, rfl, _, b3, by simp, b1, b2, .refl, by (intro x hx; rw [List.eq_of_mem_replicate hx]; decide), (Far.ofBelow (by rw [hBl]; exact hB2))⟩
  · clear b1 b2 b3 s2 hB2 hl
    rintro a' w' ⟨u7, u8, u9, u10, u11, u12, rfl, L, b3, hL, b1, b2, hR, hLt, hF⟩
    have hw2 := hF.size
    obtain ⟨w1, hw1⟩ : ∃ w1, w1 = w'.alloc (.cells #[.bool false] 4) := ⟨_, rfl⟩
    have hB1 : Below w'.heap.size w' w1 := by rw [hw1]; exact (Below.refl _ _).alloc (Nat.le_refl _) _
    have kp : ∀ {b : Nat} {o : Obj}, w'.heap[b]? = some o → w1.heap[b]? = some o := fun ho => (hB1.block _ (Array.getElem?_eq_some_iff.1 ho).1).trans ho
    have c4 : w1.heap[w'.heap.size]? = some (.cells #[.bool false] 4) := by rw [hw1]; exact new_block w' _
    have hlt := (Array.getElem?_eq_some_iff.1 b3).1
    have hW1 : Far (fun k => k = lb) W w1 := hF.on (Far.ofBelow (S := fun _ => False) hB1) (fun i h => h.elim)
    have HP := hid (tell.out w1 Bl (Bl + 1) w'.heap.size L hW1 ⟨kp b3, kp b1, kp b2, c4, hL, by omega⟩ hLt (by omega))
    have fl := rooms_list L 30 (0, 0)
    have HB := hid b3
    have HB1 := hid (kp b3)
    have HR := hid hR
    have hbl2 := (Array.getElem?_eq_some_iff.1 b1).1
    have hbl3 := (Array.getElem?_eq_some_iff.1 b2).1
    clear hR b1 b2 b3 c4 hB1 hL
    go_wp2_with fail
    rw [← hw1]
    clear hw1
    refine HP.out.mono ?_
    rintro e w2 ⟨⟨v, rfl⟩, L', c, hS, hFF, hPa⟩
    have d1 := cell_of_block hS.chg 0
    have d2 := cell_of_block hS.var 0
    simp only [List.getElem?_toArray, List.getElem?_cons_zero] at d1 d2
    have hF2 : Far (fun k => k = lb) W w2 := hW1.on hFF (by
      rintro i (rfl | rfl)
      · exact .inl rfl
      · right; have := hF.size; omega)
    cases c
    · obtain ⟨rfl, hcl⟩ := passedS_closed hPa
      go_wp2
      simp only [Exit.jump]
      go_ret
      exact ⟨rfl, _, ⟨HR.out, hcl, hLt⟩, hS.list, hF2⟩
    · go_wp2
      go_step3
      refine ⟨rfl, ⟨_, _, _, _, _, _, rfl, L', hS.list, hS.len, hS.var, hS.join, reachS_trans HR.out hPa.1, hPa.2.2.1, hF2⟩, ?_⟩
      rw [hS.list, HB.out, rooms_list, rooms_list]
      exact hPa.2.2.2.2.1 rfl

end Go.Proofs.Ytmfobiimihaiiaa
