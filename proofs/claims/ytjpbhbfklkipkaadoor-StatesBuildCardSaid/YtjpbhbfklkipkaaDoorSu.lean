/- A kernel's number. -/
import Derived.Test.YtjpbhbfklkipkaaDoorSt
namespace Go.Proofs.YtjpbhbfklkipkaaDoor
open Go Go.RowKit Go.Lib
open X14 (It numX)
open Go.Maps (Keyed)
set_option linter.unusedVariables false
set_option linter.unusedSimpArgs false
theorem num_some {k : List It} {ker : List (List It)} {i : Nat} (hk : k ≠ []) (h : ker.idxOf? k = some i) : ker[i]? = some k ∧ numX k ker = ((i : Int), ker) := by
  obtain ⟨hi, hp, _⟩ := List.findIdx?_eq_some_iff_getElem.1 h
  refine ⟨by rw [List.getElem?_eq_getElem hi, beq_iff_eq.1 hp], ?_⟩
  unfold X14.numX
  rw [if_neg hk, h]
theorem num_none {k : List It} {ker : List (List It)} (hk : k ≠ []) (h : ker.idxOf? k = none) : k ∉ ker ∧ numX k ker = ((ker.length : Int), ker ++ [k]) := by
  refine ⟨fun hm => ?_, ?_⟩
  · have := List.findIdx?_eq_none_iff.1 h k hm
    simp at this
  · unfold X14.numX
    rw [if_neg hk, h]
def NumP (k : List It) (B : Nat) (W : World) (bA bN bM bG bR : Nat) (gc : Array Value) (nv : Value) (K : List KR) (N : List NR) (F : List (Nat × List It)) (rv : Value) (xs : List Value) (mi : Item) (e : Ending) (w' : World) : Prop :=
  ∃ K' kv', e = .returned (.int .i64 (numX k (kers K)).1) ∧ kers K' = (numX k (kers K)).2 ∧ BF B W w' bA bN bM bG bR gc kv' nv K' N F rv xs mi
theorem kers_len (K : List KR) : (kers K).length = K.length := by unfold kers; rw [List.length_map]
section
variable {B : Nat} {W w w' : World} {bA bN bM bG bR : Nat} {gc : Array Value} {kv nv : Value} {K : List KR} {N : List NR} {F : List (Nat × List It)} {rv : Value} {xs : List Value} {mi : Item}
/-- A kernel's number is put into the map. -/
theorem foot_put {l : List Item} (h : Foot B W w l) {L L' : List (Value × Value)} (i : Nat) (hx : l[i]? = some (mapI 9 bM L)) (hm : MapIs Tryd.prog 9 w' bM L') (hg : w.grownBy w' (some bM)) : Foot B W w' (l.set i (mapI 9 bM L')) :=
  h.upd i hx (mapI 9 bM L') (Touch.grown hg) hm fun b hb => by
    have hb' : b = bM := by
      have : b ∈ [bM] := hb
      simpa using this
    subst hb'
    exact ⟨.inl hb, hm.lt⟩
theorem foot_cell {l : List Item} (h : Foot B W w l) {b k : Nat} {cs : Array Value} {e : TypeId} {v : Value} (i : Nat) (hx : l[i]? = some (blkI b (.cells cs e (0, 0)))) : Foot B W (w.setCell ⟨b, k, none⟩ v) (l.set i (blkI b (.cells (cs.setIfInBounds k v) e (0, 0)))) :=
  h.upd i hx (blkI b (.cells (cs.setIfInBounds k v) e (0, 0))) (Touch.set w b k v) (heap_setCell_same w b k cs e v (h.ok i _ hx)) fun c hc => by
    have hb' : c = b := by
      have : c ∈ [b] := hc
      simpa using this
    subst hb'
    exact ⟨.inl hc, by have := (h.lt i _ hx c hc).2; simpa using this⟩
end
set_option maxRecDepth 100000 in
set_option maxHeartbeats 8000000 in
theorem numberOf_any {B Bt : Nat} {W w : World} {bA bN bM bG bR : Nat} {gc : Array Value} {kv nv : Value} {K : List KR} {N : List NR} {F : List (Nat × List It)} {rv : Value} {xs : List Value} {mi : Item} {v : Value} {k : List It}
    (h : BF B W w bA bN bM bG bR gc kv nv K N F rv xs mi) (hv : KerAt F v k) (hr : ∀ x ∈ k, inR x) (hl : k.length ≤ 2000) (hK : K.length ≤ 100000) (ht : Tab Bt W) (hBt : Bt ≤ B) :
    Calls Tryd.prog 34 #[v, .pointer (some ⟨bN, 0, none⟩), .pointer (some ⟨bA, 0, none⟩)] w (NumP k B W bA bN bM bG bR gc nv K N F rv xs mi) := by
  have HH := hid h
  have HR := hid hr
  have hit := hv.items h.froz (by omega)
  by_cases hk : k = []
  · have hv0 : v = .slice none 0 0 := by
      rcases hv with ⟨e, _⟩ | ⟨_, _, _, e, _⟩
      · exact e
      · exact absurd hk e
    subst hk hv0
    clear h hv hit
    go_enter Tryd.func34, Tryd.ntmps34
    go_wp2_with fail
    go_ret
    refine ⟨K, kv, ?_, ?_, HH.out⟩
    · unfold X14.numX; rw [if_pos rfl]; rfl
    · unfold X14.numX; rw [if_pos rfl]
  · obtain ⟨g, c, rfl, hkF⟩ : ∃ g c, v = .slice (some ⟨g, 0, none⟩) k.length c ∧ (g, k) ∈ F := by
      rcases hv with ⟨_, e⟩ | ⟨g, c, e, _, hF⟩
      · exact absurd e hk
      · exact ⟨g, c, e, hF⟩
    have hkl : 0 < k.length := List.length_pos_iff.2 hk
    have htw : Tab B w := Tab.up (ht.on (h.bel.mono hBt)) hBt
    have KA := hid (keyOf_any hit hr (by omega) htw h.size)
    have HKF := hid hkF
    obtain ⟨n, hn⟩ : ∃ n, k.length = n := ⟨_, rfl⟩
    have HN := hid hn
    rw [hn] at KA hkl hl ⊢
    have t0 : ((n : Int) == 0) = false := by rw [beq_eq_false_iff_ne]; omega
    have t1 : ¬ (n : Int) = 0 := by omega
    clear h hv hit hkF htw hn
    go_enter Tryd.func34, Tryd.ntmps34
    go_wp2_with fail
    refine KA.out.mono ?_
    rintro e w2 ⟨rfl, hb2⟩
    have HF2 := hid (HH.out.below hb2)
    have cN : w2.cell? ⟨bN, 0, none⟩ = some (.map (some bM)) := cell1 HF2.out.boxN
    have hkey := key9 HR.out (by rw [HN.out]; omega)
    clear hb2 KA
    cases hidx : (kers K).idxOf? k with
    | some i =>
      obtain ⟨h1, h2⟩ := num_some hk hidx
      have HNX := hid h2
      have HME := hid (kmap_some h1)
      clear h1 h2 hidx
      unfold keyV at HME hkey
      go_wp2_with (at_lookup; refine wpList_look_some rfl (.tmp 14) (.tmp 15) 78 rfl keyed9 Tryd.underlying78 rfl HF2.out.map_ (.string ⟨(keyI k).toArray⟩) (.int .i64 (i : Int)) (.string (keyI k)) rfl hkey HME.out ?_)
      go_ret
      refine ⟨K, kv, ?_, ?_, HF2.out⟩
      · rw [HNX.out]; rfl
      · rw [HNX.out]
    | none =>
      obtain ⟨h1, h2⟩ := num_none hk hidx
      have HNX := hid h2
      have HNN := hid (kmap_none h1)
      clear h1 h2 hidx
      have hrow := HF2.out.rowK
      obtain ⟨ko, kc, rfl⟩ := own_shape hrow
      rw [List.length_map] at HH HF2 hrow
      have cA : w2.cell? ⟨bA, 0, none⟩ = some (.slice ko K.length kc) := Lib.cell_of_heap HF2.out.boxA 0
      have HRW := hid hrow
      clear hrow
      unfold keyV at HNN hkey
      go_wp2_with (first | (at_lookup; refine wpList_look_none rfl (.tmp 14) (.tmp 15) 78 rfl keyed9 Tryd.underlying78 rfl HF2.out.map_ (.string ⟨(keyI k).toArray⟩) (.int .i64 0) (.string (keyI k)) rfl hkey (zero3 _) HNN.out ?_) | (at_mapUpdate; refine wpList_put rfl (.tmp 24) (.tmp 25) (.tmp 26) 78 (.inl rfl) keyed9 Tryd.underlying78 rfl HF2.out.map_ (.string ⟨(keyI k).toArray⟩) (.int .i64 (K.length : Int)) (.string (keyI k)) rfl rfl hkey HNN.out ?_))
      intro w3 hm3 hg3
      have hm4 : MapIs Tryd.prog 9 w3 bM (kmap (kers K ++ [k])) := by rw [kmap_push, kers_len]; exact hm3
      have F3 := foot_put HF2.out.foot 2 rfl hm4 hg3
      have cA : w3.cell? ⟨bA, 0, none⟩ = some (.slice ko K.length kc) := Lib.cell_of_heap (F3.ok 0 _ rfl) 0
      obtain ⟨wq, eq⟩ : ∃ wq, w3.alloc (.cells #[.slice (some ⟨g, 0, none⟩) n c] 28) = wq := ⟨_, rfl⟩
      have hbq : Below w3.heap.size w3 wq := by rw [← eq]; exact (Below.refl _ _).alloc (Nat.le_refl _) _
      have HNQ := hid (show wq.heap[w3.heap.size]? = some (.cells #[.slice (some ⟨g, 0, none⟩) n c] 28 (0, 0)) from by rw [← eq]; exact new_block _ _)
      have HF4 := hid (F3.below hbq)
      have hdq : B ≤ wq.heap.size := Nat.le_trans HF4.out.le HF4.out.bel.size
      have HROW := hid (show wq.ownsRow B 28 1 (.slice ko K.length kc) (K.map kval).length (K.map kval) from HF4.out.ok 3 _ rfl)
      have hKl : (K.map kval).length ≤ 1000000 := by rw [List.length_map]; omega
      clear hm3 hg3 hm4 F3 hbq
      go_wp2_with (at_builtin; refine wpList_push1 rfl (.tmp 28) (.tmp 30) 46 28 rfl (.slice none 0 0) 24 Tryd.underlying46 info28 rfl (by decide) B (.slice ko K.length kc) (K.map kval) rfl HROW.out w3.heap.size rfl (.slice (some ⟨g, 0, none⟩) n c) HNQ.out rfl hKl hdq ?_)
      intro v7 w7 hown7 hg7 hat7
      have F7 := HF4.out.push 3 (ys := K.map kval ++ [.slice (some ⟨g, 0, none⟩) n c]) rfl (by rw [List.length_append, List.length_map]; exact hown7) hg7 hat7
      have nA : w7.heap[bA]? = some (.cells #[.slice ko K.length kc, nv] 49 (0, 0)) := F7.ok 0 _ rfl
      have cA7 : w7.cell? ⟨bA, 0, none⟩ = some (.slice ko K.length kc) := Lib.cell_of_heap nA 0
      have fA7 := Lib.frozen_of_heap nA 0
      have HF8 := hid (foot_cell (k := 0) (v := v7) F7 0 rfl)
      obtain ⟨o7, c7, rfl⟩ := own_shape hown7
      clear hown7 hg7 hat7 F7 nA eq cA
      go_wp2_with fail
      go_ret
      refine ⟨K ++ [(g, c, k)], .slice o7 (K.length + 1) c7, ?_, ?_, ?_, fun q hq => ?_⟩
      rotate_left 2
      · have e1 : kers (K ++ [(g, c, k)]) = kers K ++ [k] := by simp [kers]
        have e2 : (K ++ [(g, c, k)]).map kval = K.map kval ++ [.slice (some ⟨g, 0, none⟩) n c] := by rw [← HN.out]; simp [kval]
        unfold bItems
        rw [e1, e2]
        exact HF8.out
      · rcases List.mem_append.1 hq with hq | hq
        · exact HH.out.inF q hq
        · obtain rfl : q = (g, c, k) := by simpa using hq
          exact HKF.out
      · rw [HNX.out, kers_len]; rfl
      · rw [HNX.out]; simp [kers]
end Go.Proofs.YtjpbhbfklkipkaaDoor
