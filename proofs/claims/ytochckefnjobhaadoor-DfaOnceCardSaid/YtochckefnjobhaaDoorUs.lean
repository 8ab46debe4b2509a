/- works: the document's example. -/
import Derived.Test.YtochckefnjobhaaDoorUr
import Derived.Test.YtochckefnjobhaaDoorWf
namespace Go.Proofs.YtochckefnjobhaaDoor
open Go Go.RowKit Go.Lib
open X3 (RX Pl)
open X5 (Aut)
set_option linter.unusedVariables false
set_option linter.unusedSimpArgs false

/-- One regex, by itself. -/
theorem row_only {w : World} {r : X3.RX} {k x y z u : Int} {o : Option Addr} {n c : Nat} (h : RepS (fun g => g < w.heap.size) w r (nodeV k x y z u (.slice o n c))) :
    ∃ wa, w.alloc (.cells #[.int .i64 k, .int .u64 x, .int .u64 y, .int .u64 z, .int .u64 u, .slice o n c] 38) = wa ∧ RowR (fun g => g < wa.heap.size) wa (.slice (some ⟨w.heap.size, 0, none⟩) 1 1) [r] ∧ Below w.heap.size w wa ∧ wa.heap.size = w.heap.size + 1 := by
  have hb : Below w.heap.size w (w.alloc (.cells #[.int .i64 k, .int .u64 x, .int .u64 y, .int .u64 z, .int .u64 u, .slice o n c] 38)) := (Below.refl _ _).alloc (Nat.le_refl _) _
  have hn := new_block w (.cells #[.int .i64 k, .int .u64 x, .int .u64 y, .int .u64 z, .int .u64 u, .slice o n c] 38 (0, 0))
  have hc : ∀ j, _ = _ := fun j => Lib.cell_of_heap hn j
  refine ⟨_, rfl, ⟨.inr ⟨w.heap.size, 1, rfl, by simp, by simp, Nat.le_refl _, ?_⟩⟩, hb, by simp⟩
  exact .cons r _ _ 0 k x y z u _ (rep_next h hb) (hc 0) (hc 1) (hc 2) (hc 3) (hc 4) (hc 5) (.nil _ _)
theorem nvs_at (cs : List Nat) (k : Nat) (hk : k < cs.length) : (nvs cs)[k]? = some (.int .i64 ((cs.getD k 0 : Nat) : Int)) := by
  unfold nvs
  rw [List.getElem?_toArray, List.getElem?_map, List.getElem?_eq_getElem hk, List.getD_eq_getElem?_getD, List.getElem?_eq_getElem hk]
  rfl
theorem wp_load30 {o : Oper} {a : Act} {w : World} {K : Act → World → Prop} {Q : Exit → Act → World → Prop} (p : Operand) (hop : o.op = .load 30 p) (g : Nat) (hp : a.eval p = .pointer (some ⟨g, 0, none⟩)) (cs : Array Value) (hb : w.heap[g]? = some (.cells cs 30 (0, 0))) (h1 : cs.size = 258)
    (hK : K (a.put o.dst (.agg cs)) w) : o.wp Tryd.prog a w K Q :=
  wp_load_row 30 p hop g hp 30 cs (0, 0) _ hb Tryd.underlying30 rfl (by rw [size30, h1]) hK
theorem nvs_all (cs : List Nat) : (nvs cs).all (·.oneCell') = true := nvs_one cs

set_option maxRecDepth 100000 in
set_option maxHeartbeats 16000000 in
theorem works (w : World) {Bt : Nat} (ht : Tab Bt w) (hBt : Bt ≤ w.heap.size) : Calls Tryd.prog 10 #[] w fun e w' => e = .returned (.bool true) ∧ Below w.heap.size w w' := by
  have kP : Hid (∀ w : World, Calls Tryd.prog 23 #[.string { data := #[97, 98] }] w (ParseP w (.inr (.cat [exA, exB])))) := hid fun w => by
    have := parse_any { data := #[97, 98] } w (by decide)
    rw [show LL ({ data := #[97, 98] } : ByteArray) = [97, 98] from rfl, ex_parse1] at this
    exact this
  have HT := hid ht
  clear ht
  go_enter Tryd.func10, Tryd.ntmps10
  go_wp2_with fail
  refine (kP.out _).mono ?_
  intro e w1 hp
  obtain ⟨k, x, y, z, u, o, n, c, _, rfl, hb1, rfl, hR⟩ := parse_gen hp
  clear hp
  obtain ⟨wa, ea, hx, hba, hsa⟩ := box_new hR
  obtain ⟨p0, p1, p2, p3, p4, p5⟩ := cells6 hx.1
  obtain ⟨wc, ec, hRow, hbc, hsc⟩ := row_only hx.2
  have HBC := hid (hb1.trans ((hba.trans (hbc.mono hba.size)).mono hb1.size))
  have HROW := hid hRow
  have KC := hid (classes_any exL wc _ hRow (by decide))
  have HSC := hid (And.intro hsa hsc)
  clear hR hx hba hbc hRow hb1 hsa hsc
  go_wp2_with fail
  clear ea ec p0 p1 p2 p3 p4 p5
  refine KC.out.mono ?_
  rintro e w3 ⟨rfl, hb3⟩
  have hcl : (clsX exL).length = 256 := (cls_good exL).1
  obtain ⟨cs, hcs⟩ : ∃ cs, clsX exL = cs := ⟨_, rfl⟩
  have HX := hid ex_cls
  rw [hcs] at hcl HX ⊢
  have HCL := hid hcl
  obtain ⟨w4, e4⟩ : ∃ w4, (w3.alloc (.cells (nvs zs0) 26)).setRow w3.heap.size (nvs cs) = w4 := ⟨_, rfl⟩
  have HNB := hid (new_block w3 (.cells (nvs zs0) 26))
  have hd4 : w4.heap[w3.heap.size]? = some (.cells (nvs cs) 26 (0, 0)) := by rw [← e4]; exact setRow_heap _ _ (nvs zs0) _ 26 (0, 0) HNB.out
  have hb4 : Below w3.heap.size w3 w4 := by rw [← e4]; exact ans_below (w0 := w3) ((Below.refl _ _).alloc (Nat.le_refl _) _) (Nat.le_refl _)
  have hbc4 : Below wc.heap.size wc w4 := hb3.trans (hb4.mono hb3.size)
  have hbw4 : Below w.heap.size w w4 := HBC.out.trans (hbc4.mono HBC.out.size)
  have KB := hid (dfa_build_any exL w4 _ (HROW.out.below hbc4) ex_sizes (by decide) (HT.out.on (hbw4.mono hBt)) (Nat.le_trans hBt hbw4.size))
  have H4 := hid (And.intro hd4 hbw4)
  have HCS := hid hcs
  clear hd4 hb4 hbc4 hbw4 hb3 KC hcs
  go_wp2_with (first | (with_reducible refine wpList_made26 rfl rfl ?_) | (with_reducible refine wpList_store26 rfl (.tmp 4) (.tmp 14) rfl _ rfl zs0 cs HNB.out rfl zs0_len HCL.out ?_))
  refine KB.out.mono ?_
  rintro e w5 ⟨hb5, ⟨hm | hm, _⟩ | ⟨D, SS, A0, nv, tv, _, rfl, hA0, hS, hD⟩⟩
  · exact absurd hm ex_few
  · exact absurd hm ex_small
  obtain ⟨dcls, NX, TG⟩ := D
  obtain rfl : dcls = _ := hS.cls
  obtain ⟨v0, v1, v2, v3⟩ := sets_valid hS
  have r1 := sets_run hS hA0 [97, 98] ex_runAB
  have r2 := sets_run hS hA0 [97] (ex_runNo (by decide))
  have r3 := sets_run hS hA0 [98] (ex_runNo (by decide))
  have r4 := ex_go hS hA0
  rw [dval_dvc]
  obtain ⟨dc, hdc⟩ : ∃ dc, dvc (clsX exL) nv tv = dc := ⟨_, rfl⟩
  obtain ⟨D, hDD⟩ : ∃ D : Aut, (⟨(clsX exL).map fun (n : Nat) => (n : Int), NX, TG⟩ : Aut) = D := ⟨_, rfl⟩
  have hdv : dval D nv tv = dc := by rw [← hDD, dval_dvc, hdc]
  obtain ⟨no, nc, hno, _⟩ := hD.rows
  obtain ⟨to, tc, hto, _⟩ := hD.tags
  have HS1 := hid (show dc.size = 258 from by rw [← hdc]; exact dvc_size (clsX exL) (cls_good exL).1 nv tv)
  have HS2 := hid (show dc.all (·.oneCell') = true from by rw [← hdc]; exact dvc_one (clsX exL) (nv := nv) (tv := tv) (by rw [hno]; rfl) (by rw [hto]; rfl))
  obtain ⟨w6, e6⟩ : ∃ w6, (w5.alloc (.cells dvz 30)).setRow w5.heap.size dc = w6 := ⟨_, rfl⟩
  have HNB6 := hid (new_block w5 (.cells dvz 30))
  have hd6 : w6.heap[w5.heap.size]? = some (.cells dc 30 (0, 0)) := by rw [← e6]; exact setRow_heap _ _ dvz _ 30 (0, 0) HNB6.out
  have hb6 : Below w5.heap.size w5 w6 := by rw [← e6]; exact ans_below (w0 := w5) ((Below.refl _ _).alloc (Nat.le_refl _) _) (Nat.le_refl _)
  have hD6 := hD.below hb6
  have KV := hid (valid_any hD6 _ v0 v1 v2 v3)
  rw [hDD] at hD6 r1 r2 r3 r4
  rw [hdc] at KV ⊢
  have hc6 : w6.heap[w3.heap.size]? = some (.cells (nvs cs) 26 (0, 0)) := (hb6.block _ (by have := block_lt (Lib.cell_of_heap H4.out.1 0 |>.trans (nvs_at cs 0 (by rw [HCL.out]; decide))); exact Nat.lt_of_lt_of_le this hb5.size)).trans ((hb5.block _ (block_lt (Lib.cell_of_heap H4.out.1 0 |>.trans (nvs_at cs 0 (by rw [HCL.out]; decide))))).trans H4.out.1)
  have c0 : w6.cell? ⟨w3.heap.size, 0, none⟩ = some (.int .i64 0) := by rw [Lib.cell_of_heap hc6, nvs_at cs 0 (by rw [HCL.out]; decide), HX.out.1]; rfl
  have c97 : w6.cell? ⟨w3.heap.size, 97, none⟩ = some (.int .i64 1) := by rw [Lib.cell_of_heap hc6, nvs_at cs 97 (by rw [HCL.out]; decide), HX.out.2.1]; rfl
  have c98 : w6.cell? ⟨w3.heap.size, 98, none⟩ = some (.int .i64 2) := by rw [Lib.cell_of_heap hc6, nvs_at cs 98 (by rw [HCL.out]; decide), HX.out.2.2.1]; rfl
  have c99 : w6.cell? ⟨w3.heap.size, 99, none⟩ = some (.int .i64 0) := by rw [Lib.cell_of_heap hc6, nvs_at cs 99 (by rw [HCL.out]; decide), HX.out.2.2.2]; rfl
  have HD6 := hid (And.intro hd6 hD6)
  have HB6 := hid (H4.out.2.trans ((hb5.trans (hb6.mono hb5.size)).mono H4.out.2.size))
  have HR := hid (And.intro r1 (And.intro r2 (And.intro r3 r4)))
  have HDV := hid hdv
  clear hb5 hS hD hA0 r1 r2 r3 r4 v0 v1 v2 v3 hno hto hd6 hb6 hD6 hc6 hdc hDD hdv e4 KB
  go_wp2_with (first | (with_reducible refine wpList_made30 rfl rfl ?_) | (with_reducible refine wpList_store30 rfl (.tmp 5) (.tmp 18) rfl w5.heap.size rfl dvz dc HNB6.out rfl dvz_size HS1.out HS2.out ?_))
  refine wp_load30 (.tmp 5) rfl w5.heap.size rfl dc HD6.out.1 HS1.out ?_
  go_wp2_with fail
  refine KV.out.mono ?_
  rintro e w7 ⟨rfl, hb7⟩
  clear e6 c0 c97 c98 c99 KV

  have HD7 := hid (And.intro ((hb7.block _ (Array.getElem?_eq_some_iff.1 HD6.out.1).1).trans HD6.out.1) (HD6.out.2.below hb7))
  have HB7 := hid (HB6.out.trans (hb7.mono HB6.out.size))
  have K7 := run_dfa HD7.out.2 { data := #[97, 98] } (by decide)
  rw [HDV.out, show LL ({ data := #[97, 98] } : ByteArray) = [97, 98] from rfl, HR.out.1] at K7
  have K7 := hid K7
  clear hb7
  go_wp2_with fail
  refine wp_load30 (.tmp 5) rfl w5.heap.size rfl dc HD7.out.1 HS1.out ?_
  go_wp2_with fail
  refine K7.out.mono ?_
  rintro e w8 ⟨rfl, hb8⟩
  have HD8 := hid (And.intro ((hb8.block _ (Array.getElem?_eq_some_iff.1 HD7.out.1).1).trans HD7.out.1) (HD7.out.2.below hb8))
  have HB8 := hid (HB7.out.trans (hb8.mono HB7.out.size))
  have K8 := run_dfa HD8.out.2 { data := #[97] } (by decide)
  rw [HDV.out, show LL ({ data := #[97] } : ByteArray) = [97] from rfl, HR.out.2.1] at K8
  have K8 := hid K8
  clear hb8
  go_wp2_with fail
  refine wp_load30 (.tmp 5) rfl w5.heap.size rfl dc HD8.out.1 HS1.out ?_
  go_wp2_with fail
  refine K8.out.mono ?_
  rintro e w9 ⟨rfl, hb9⟩
  have HD9 := hid (And.intro ((hb9.block _ (Array.getElem?_eq_some_iff.1 HD8.out.1).1).trans HD8.out.1) (HD8.out.2.below hb9))
  have HB9 := hid (HB8.out.trans (hb9.mono HB8.out.size))
  have K9 := run_dfa HD9.out.2 { data := #[98] } (by decide)
  rw [HDV.out, show LL ({ data := #[98] } : ByteArray) = [98] from rfl, HR.out.2.2.1] at K9
  have K9 := hid K9
  clear hb9
  go_wp2_with fail
  refine wp_load30 (.tmp 5) rfl w5.heap.size rfl dc HD9.out.1 HS1.out ?_
  go_wp2_with fail
  refine K9.out.mono ?_
  rintro e w10 ⟨rfl, hb10⟩
  have HD10 := hid (And.intro ((hb10.block _ (Array.getElem?_eq_some_iff.1 HD9.out.1).1).trans HD9.out.1) (HD9.out.2.below hb10))
  have HB10 := hid (HB9.out.trans (hb10.mono HB9.out.size))
  have K10 := go_any HD10.out.2 0 97 (by decide)
  rw [HDV.out] at K10
  have h4 := HR.out.2.2.2
  generalize X5.behX D 0 97 = g at *
  have K10 := hid K10
  clear hb10
  go_wp2_with fail
  refine wp_load30 (.tmp 5) rfl w5.heap.size rfl dc HD10.out.1 HS1.out ?_
  go_wp2_with fail
  refine K10.out.mono ?_
  rintro e w11 ⟨rfl, hb11⟩
  have HB11 := hid (HB10.out.trans (hb11.mono HB10.out.size))
  clear hb11
  go_wp2_with fail
  go_ret
  exact ⟨rfl, HB11.out⟩
end Go.Proofs.YtochckefnjobhaaDoor
