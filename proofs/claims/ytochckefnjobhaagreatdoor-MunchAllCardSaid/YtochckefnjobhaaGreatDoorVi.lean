/- MunchAll: the walk. -/
import Derived.Test.YtochckefnjobhaaGreatDoorVg
import Derived.Test.YtochckefnjobhaaGreatDoorWo
namespace Go.Proofs.YtochckefnjobhaaGreatDoor
open Go Go.RowKit Go.Lib
open X5 (Aut)
open X7 (M64)
set_option linter.unusedVariables false
set_option linter.unusedSimpArgs false
theorem pcells_get : ∀ (l : List (Nat × Int)) (i : Nat) (h : i < l.length), (pcells l)[i * 2]? = some (.int .u64 (l[i].1 : Int)) ∧ (pcells l)[i * 2 + 1]? = some (.int .i64 l[i].2)
 | p :: l, 0, _ => ⟨rfl, rfl⟩
 | p :: l, i + 1, h => by
  have := pcells_get l i (by simpa using h)
  have e : pcells (p :: l) = .int .u64 (p.1 : Int) :: .int .i64 p.2 :: pcells l := rfl
  rw [e, show (i + 1) * 2 = i * 2 + 1 + 1 by omega, show i * 2 + 1 + 1 + 1 = (i * 2 + 1) + 1 + 1 by omega]
  simpa using this
theorem own_len {w : World} {B n sz : Nat} {e : TypeId} {v : Value} {xs : List Value} (h : w.ownsRow B e sz v n xs) : n ≤ maxLen := by
 rcases h.2 with ⟨_, h0⟩ | ⟨g, cap, cur, h1, hB, hg, h2, h3, _⟩
 ·omega
 ·omega
theorem pieces_own {w : World} {B c : Nat} {e : TypeId} {o : Option Addr} {l : List (Nat × Int)} (h : w.ownsRow B e 2 (.slice o l.length c) l.length (pcells l)) {i : Nat} (hi : i < l.length) : ∃ g, o = some ⟨g, 0, none⟩ ∧ g < w.heap.size ∧ w.cell? ⟨g, i * 2, none⟩ = some (.int .u64 (l[i].1 : Int)) ∧ w.cell? ⟨g, i * 2 + 1, none⟩ = some (.int .i64 l[i].2) := by
 obtain ⟨k0, k1⟩ := pcells_get l i hi
 rcases h.2 with ⟨h1, h0⟩ | ⟨g, cap, cur, h1, hB, hg, h2, h3, h4, h5⟩
 ·omega
 ·injection h1 with h1
  subst h1
  refine ⟨g, rfl, (Array.getElem?_eq_some_iff.1 hg).1, ?_, ?_⟩
  ·rw [Lib.cell_of_heap hg, ← Array.getElem?_toList, ← List.getElem?_take_of_lt (show i * 2 < l.length * 2 by omega), h5, k0]
  ·rw [Lib.cell_of_heap hg, ← Array.getElem?_toList, ← List.getElem?_take_of_lt (show i * 2 + 1 < l.length * 2 by omega), h5, k1]
set_option maxRecDepth 100000 in
set_option maxHeartbeats 16000000 in
theorem alls_walk {D : Aut} {d0 : Array Value} (w : World) (hL : Lies D d0 w) (s : ByteArray) (hs : s.size ≤ maxLen) (may : Nat) (hmay : may < M64) (v : Value) (l : List (Int × Int)) (hv : OverAt w v l) (hl : l.length ≤ maxLen) {Bt : Nat} (ht : Tab Bt w) (hBt : Bt ≤ w.heap.size) :
  Calls Tryz.prog 6 #[.agg d0, .string s, .int .u64 (may : Int), v] w fun e w' => e = .returned (.bool true) ∧ Below w.heap.size w w' := by
 obtain ⟨wa, ea, hxa, hba⟩ := boxed w d0
 obtain ⟨vo, vc, rfl⟩ : ∃ vo vc, v = .slice vo l.length vc := by obtain ⟨ro, rc, e, _⟩ := hv; exact ⟨_, _, e⟩
 have HV := hid (hv.below hba)
 have HLM := hid hl
 clear hv hl
 have HL := hid (hL.below hba)
 have HX := hid hxa
 have HB := hid hba
 have K := hid (works07 wa (ht.on (hba.mono hBt)) (Nat.le_trans hBt hba.size))
 have HD := hid hL.sz
 have HSM := hid hs
 clear hL ht hxa hba hs
 go_enter Tryz.func6, Tryz.ntmps6
 go_wp2_with fail
 refine K.out.mono ?_
 rintro e w1 ⟨rfl, hb⟩
 clear K ea
 have HB1 := hid (HB.out.trans (hb.mono HB.out.size))
 have HL := hid (HL.out.below hb)
 have HX := hid (HX.out.below hb)
 have HV := hid (HV.out.below hb)
 have K := hid (few_any w1 HL.out s HSM.out vo l.length vc HLM.out)
 clear hb
 go_wp2_with fail
 refine wp_load30' (.tmp 4) rfl w.heap.size rfl d0 HX.out HD.out.1 ?_
 go_wp2_with fail
 refine K.out.mono ?_
 rintro e w2 ⟨b, rfl, hbl, hb⟩
 clear K
 have HB2 := hid (HB1.out.trans (hb.mono HB1.out.size))
 have HL := hid (HL.out.below hb)
 have HX := hid (HX.out.below hb)
 have HV := hid (HV.out.below hb)
 clear hb
 cases b with
 | false =>
  clear hbl
  go_wp2_with fail
  go_ret
  exact ⟨rfl, HB2.out⟩
 | true =>
  have HLT := hid (hbl rfl)
  have hs40 := HLT.out.2.1
  clear hbl
  have hl40 := HLT.out.2.2
  have hl40 := HLT.out.2.2
  have K := hid (all_any w2 HL.out s (by omega) may hmay _ l HV.out (by omega))
  have KR := hid (fun (wq : World) (hq : Lies D d0 wq) (hvq : OverAt wq _ l) => allR_any wq hq s (by omega) may hmay (.slice vo l.length vc) l hvq (by omega))
  obtain ⟨L, hLL⟩ : ∃ L, (X7.allT D (LL s) may l).1 = L := ⟨_, rfl⟩
  obtain ⟨ed, hed⟩ : ∃ ed, (X7.allT D (LL s) may l).2 = ed := ⟨_, rfl⟩
  rw [hLL, hed] at K KR
  clear hLL hed
  go_wp2_with fail
  refine wp_load30' (.tmp 4) rfl w.heap.size rfl d0 HX.out HD.out.1 ?_
  go_wp2_with fail
  refine K.out.mono ?_
  rintro e w3 ⟨po, pcc, rfl, hrow, hb⟩
  clear K
  have HB3 := hid (HB2.out.trans (hb.mono HB2.out.size))
  have HL := hid (HL.out.below hb)
  have HX := hid (HX.out.below hb)
  have HV := hid (HV.out.below hb)
  have HROW := hid hrow
  have hLm := own_len hrow
  unfold maxLen at hLm
  clear hb hrow
  have KO := hid (ofD_any w3 HL.out)
  go_wp2_with fail
  refine wp_load30' (.tmp 4) rfl w.heap.size rfl d0 HX.out HD.out.1 ?_
  go_wp2_with fail
  refine KO.out.mono ?_
  rintro e w4 ⟨rfl, hb⟩
  clear KO
  have HB4 := hid (HB3.out.trans (hb.mono HB3.out.size))
  have HL := hid (HL.out.below hb)
  have HV := hid (HV.out.below hb)
  have HROW := hid (own2_below HROW.out hb)
  clear hb
  go_wp2_with fail
  refine (KR.out w4 HL.out HV.out).mono ?_
  rintro e w5 ⟨qo, qcc, rfl, hrow, hb⟩
  clear KR
  have HB5 := hid (HB4.out.trans (hb.mono HB4.out.size))
  have HROW := hid (own2_below HROW.out hb)
  have HROR := hid hrow
  clear hb hrow HL HV HX
  go_wp2_with fail
  go_loopw [15] (fun t15 wr => ∃ k : Nat, k ≤ L.length ∧ t15 = .int .i64 (k : Int) ∧ Hid (Below w5.heap.size w5 wr)) (fun t15 _ => L.length - (RowKit.intOf t15).toNat)
  case atStart => exact ⟨0, Nat.zero_le _, rfl, hid (Below.refl _ _)⟩
  case round =>
   obtain ⟨k, hk, rfl, HB⟩ := hrel
   have hle := HB.out.size
   by_cases hlt : k < L.length
   ·have h1 : (k : Int) < (L.length : Int) := by omega
    have h2 : (0 : Int) ≤ (k : Int) := by omega
    obtain ⟨g, hpo, hgl, ca, cb⟩ := pieces_own HROW.out hlt
    obtain ⟨q, hqo, hql, cc, cd⟩ := pieces_own HROR.out hlt
    subst hpo
    subst hqo
    obtain ⟨x, hx⟩ : ∃ x : Nat, L[k].1 = x := ⟨_, rfl⟩
    obtain ⟨y, hy⟩ : ∃ y : Int, L[k].2 = y := ⟨_, rfl⟩
    rw [hx] at ca cc
    rw [hy] at cb cd
    have HS0 := hid (fun (w' : World) (h : Below wr.heap.size wr w') => cell_bel (HB.out.trans (h.mono hle)) hgl ca)
    have HS1 := hid (fun (w' : World) (h : Below wr.heap.size wr w') => cell_bel (HB.out.trans (h.mono hle)) hgl cb)
    have HS2 := hid (fun (w' : World) (h : Below wr.heap.size wr w') => cell_bel (HB.out.trans (h.mono hle)) hql cc)
    have HS3 := hid (fun (w' : World) (h : Below wr.heap.size wr w') => cell_bel (HB.out.trans (h.mono hle)) hql cd)
    clear ca cb cc cd hx hy hgl hql
    go_wp2_with fail
    refine wp_region_below (by kernel_rfl) (by kernel_rfl) ?_
    repeat (first
              | (refine BigFrame.wpQuiet_skip (by rfl) ?_; try simp only [Act.put, List.setIfInBounds_toArray, List.set_cons_zero, List.set_cons_succ])
              | (refine BigFrame.wpQuiet_want (by rfl) (fun K hK => ?_)
                 apply Exists.intro
                 refine ⟨fun w' hC => ?_, hK _ ?_⟩
                 · first
                    | (have f0' := HS0.out w' hC
                       have f1' := HS1.out w' hC
                       have f2' := HS2.out w' hC
                       have f3' := HS3.out w' hC
                       unfold Oper.quietAt
                       go_simp
                       first
                         | with_reducible rfl
                         | done)
                 clear hK K
                 try simp only [Act.put, List.setIfInBounds_toArray, List.set_cons_zero, List.set_cons_succ]))
    refine wpQuiet_nil ?_
    intro w6 hb6
    have HB6 := hid (HB.out.trans (hb6.mono hle))
    clear hb6
    go_wp2_with fail
    refine ⟨⟨k + 1, by omega, rfl, HB6⟩, ?_⟩
    show L.length - ((k : Int) + 1).toNat < L.length - ((k : Int)).toNat
    omega
   ·have h1 : ¬ (k : Int) < (L.length : Int) := by omega
    have HE := hid (HB5.out.trans (HB.out.mono HB5.out.size))
    go_wp2_with fail
    go_ret
    exact ⟨rfl, HE.out⟩
end Go.Proofs.YtochckefnjobhaaGreatDoor
