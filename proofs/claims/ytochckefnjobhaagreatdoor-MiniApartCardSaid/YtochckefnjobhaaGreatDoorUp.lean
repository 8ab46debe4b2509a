/- dfa.Build: the walk. -/
import Derived.Test.YtochckefnjobhaaGreatDoorUn
namespace Go.Proofs.YtochckefnjobhaaGreatDoor
open Go Go.RowKit Go.Lib
open X3 (RX Pl)
open X5 (Aut)
set_option linter.unusedVariables false
set_option linter.unusedSimpArgs false
def BuiltP2 (l : List RX) (w : World) (e : Ending) (w' : World) : Prop :=
 Below w.heap.size w w' ∧ (((many l ∨ Big l) ∧ e = .returned (.tuple #[.agg dvz, .int .i64 4])) ∨
  (∃ D SS A0 nv tv, ¬ many l ∧ e = .returned (.tuple #[.agg (dval D nv tv), .int .i64 0]) ∧ AtN l [] A0 ∧ Sets l A0 D SS ∧ DAt w' nv tv D ∧ SS.length ≤ 2000))
def OutS (l : List RX) (A0 : List Nat) (DM db mb : Nat) (wM : World) (fv : Value) (i : Nat) (sv : Value) (w : World) : Prop := ∃ SS NX TG SV NV nv tv uv UA, i ≤ SS.length ∧ SS.length ≤ 2000 ∧
 BS l DM db mb wM w fv sv nil1 nv tv nv tv uv SS SS [] NX TG SV NV UA ∧ SetsOk l A0 SS ∧ StOk l SS NX TG i ∧ ∀ q ∈ TG, q < 18446744073709551616
def InS (l : List RX) (A0 : List Nat) (DM db mb : Nat) (wM : World) (fv nv tv : Value) (NX : List (List Int)) (TG : List Nat) (NV : List Value) (i k : Nat) (sv rv : Value) (w : World) : Prop := ∃ SS R SV uv UA A, SS.length ≤ 2000 + k ∧ SS[i]? = some A ∧
 BS l DM db mb wM w fv sv rv nv tv nv tv uv SS SS R NX TG SV NV UA ∧ SetsOk l A0 SS ∧ StOk l SS NX TG i ∧ RowTo l SS R A k
set_option maxRecDepth 100000 in
set_option maxHeartbeats 16000000 in
theorem dfa_build_any2 (l : List RX) (w : World) (v : Value) (h : RowR (fun g => g < w.heap.size) w v l) (hN : ∀ k (hk : k < l.length), l[k].size ≤ 1000000) (hll : l.length ≤ 1000000) {Bt : Nat} (ht : Tab Bt w) (hBt : Bt ≤ w.heap.size) :
  Calls Tryz.prog 48 #[v] w (BuiltP2 l w) := by
 obtain ⟨w0, e0⟩ : ∃ w0, w.alloc (.cells dvz 26) = w0 := ⟨_, rfl⟩
 have hb0 : Below w.heap.size w w0 := by rw [← e0]; exact (Below.refl _ _).alloc (Nat.le_refl _) _
 have hs0 : w0.heap.size = w.heap.size + 1 := by rw [← e0]; simp
 have hr0 : w0.heap[w.heap.size]? = some (.cells dvz 26 (0, 0)) := by rw [← e0]; exact new_block _ _
 have H0 := hid (And.intro hb0 (And.intro hs0 hr0))
 have HR0 := hid (h.below hb0)
 have HT := hid ht
 have KB := hid (build_any _ l w0 v HR0.out (fun g hg => hg) hN hll)
 clear h hN hb0 hs0 hr0 ht
 go_enter Tryz.func48, Tryz.ntmps48
 go_wp2_with (with_reducible refine wpList_made30 rfl rfl ?_)
 clear e0
 refine KB.out.mono ?_
 rintro e w1 ⟨hb1, ⟨hm, rfl⟩ | ⟨hnm, m, T, pv, AS, bv, A0, rfl, hN1⟩⟩
 ·have H1 := hid hb1
  have HM := hid hm
  have HR1 := hid ((hb1.block _ (by have := H0.out.2.1; omega)).trans H0.out.2.2)
  clear hb1 hm
  go_wp2_with (first | (with_reducible refine wpList_none30 rfl rfl ?_) | (with_reducible refine wpList_store30 rfl (.tmp 2) (.tmp 25) rfl w.heap.size rfl dvz dvz HR1.out rfl dvz_size dvz_size dvz_one ?_))
  refine bodyPost_ret (v := .tuple #[.agg dvz, .int .i64 4]) (results30 rfl _ _ w.heap.size dvz 4 rfl rfl (setRow_heap w1 w.heap.size _ dvz 26 (0, 0) HR1.out) dvz_size) rfl ?_
  exact ⟨ans_below (w0 := w0) (H0.out.1.trans (H1.out.mono (by have := H0.out.2.1; omega))) (Nat.le_refl _), .inl ⟨.inl HM.out, rfl⟩⟩
 ·have H1 := hid hb1
  have HNM := hid hnm
  have HN := hid hN1
  have HR1 := hid ((hb1.block _ (by have := H0.out.2.1; omega)).trans H0.out.2.2)
  have HB1 := hid (H0.out.1.trans (hb1.mono (by have := H0.out.2.1; omega)))
  have HRR := hid (HR0.out.below hb1)
  have KC := hid (classes_any l w1 v HRR.out (by have := HNM.out; unfold many at this; omega))
  clear hb1 hnm hN1 KB HR0
  go_wp2_with fail
  refine KC.out.mono ?_
  rintro e w2 ⟨rfl, hb2⟩
  have hdl : (clsX l).length = 256 := (cls_good l).1
  have HDL := hid hdl
  obtain ⟨dc, hdc⟩ : ∃ dc, dvc (clsX l) nil1 nil1 = dc := ⟨_, rfl⟩
  have HDC := hid hdc
  obtain ⟨w3, e3⟩ : ∃ w3, (w2.alloc (.cells dvz 26)).setRow w2.heap.size dc = w3 := ⟨_, rfl⟩
  have HNB := hid (new_block w2 (.cells dvz 26))
  have hd3 : w3.heap[w2.heap.size]? = some (.cells dc 26 (0, 0)) := by rw [← e3]; exact setRow_heap _ _ dvz _ 26 (0, 0) HNB.out
  have hb3 : Below w2.heap.size w2 w3 := by rw [← e3]; exact ans_below (w0 := w2) ((Below.refl _ _).alloc (Nat.le_refl _) _) (Nat.le_refl _)
  have hs3 : w3.heap.size = w2.heap.size + 1 := by rw [← e3, setRow_size]; simp
  have KF := hid (firsts_any (clsX l) hdl w3)
  have H3 := hid (And.intro hd3 (And.intro hb3 hs3))
  have HD1 := hid (show dc.size = 258 from by rw [← hdc]; exact dvc_size (clsX l) hdl nil1 nil1)
  have HD2 := hid (show dc.all (·.oneCell') = true from by rw [← hdc]; exact dvc_one (clsX l) (nv := nil1) (tv := nil1) rfl rfl)
  have HB2 := hid hb2
  clear hdc hd3 hb3 hs3 hb2 KC
  go_wp2_with (first | (with_reducible refine wpList_build30c rfl (.tmp 28) rfl (clsX l) HDL.out rfl dc HDC.out ?_) | (with_reducible refine wpList_made30 rfl rfl ?_) | (with_reducible refine wpList_store30 rfl (.tmp 6) (.tmp 29) rfl w2.heap.size rfl dvz dc HNB.out rfl dvz_size HD1.out HD2.out ?_) | (with_reducible refine wpList_load26c rfl (.tmp 30) rfl w2.heap.size rfl (clsX l) nil1 nil1 dc HDC.out H3.out.1 HDL.out ?_))
  refine KF.out.mono ?_
  rintro e w4 ⟨fv, rfl, hF, hb4⟩
  obtain ⟨fo, fc, rfl⟩ := own_shape hF
  have hb14 : Below w1.heap.size w1 w4 := HB2.out.trans ((H3.out.2.1.trans (hb4.mono H3.out.2.1.size)).mono HB2.out.size)
  have KG := hid (begin_new (HN.out.below hb14))
  have HF4 := hid hF
  have HB4 := hid (And.intro hb4 hb14)
  have HD4 := hid ((hb4.block _ (by have := H3.out.2.2; omega)).trans H3.out.1)
  clear hF hb4 hb14 KF e3
  go_wp2_with fail
  refine KG.out.mono ?_
  rintro e w5 ⟨u, rfl, hU, hb5⟩
  obtain ⟨uo, uc, rfl⟩ : ∃ uo uc, u = .slice uo A0.length uc := by
   rcases hU.2 with ⟨rfl, h0⟩ | ⟨g, cap, cur, rfl, _⟩
   ·exact ⟨none, 0, by rw [h0]⟩
   ·exact ⟨_, _, rfl⟩
  obtain ⟨w6, e6⟩ : ∃ w6, w5.alloc (.cells #[.slice uo A0.length uc] 87) = w6 := ⟨_, rfl⟩
  obtain ⟨w7, e7⟩ : ∃ w7, w6.alloc (.map #[] 0) = w7 := ⟨_, rfl⟩
  have hb6 : Below w5.heap.size w5 w6 := by rw [← e6]; exact (Below.refl _ _).alloc (Nat.le_refl _) _
  have hb7 : Below w6.heap.size w6 w7 := by rw [← e7]; exact (Below.refl _ _).alloc (Nat.le_refl _) _
  have hs6 : w6.heap.size = w5.heap.size + 1 := by rw [← e6]; simp
  have hs7 : w7.heap.size = w6.heap.size + 1 := by rw [← e7]; simp
  have hn7 : w7.heap[w5.heap.size]? = some (.cells #[.slice uo A0.length uc] 87 (0, 0)) := (hb7.block _ (by omega)).trans (by rw [← e6]; exact new_block _ _)
  have c7 : w7.cell? ⟨w5.heap.size, 0, none⟩ = some (.slice uo A0.length uc) := by rw [Lib.cell_of_heap hn7]; rfl
  have hm7 : MapIs Tryz.prog 9 w7 w6.heap.size [] := by rw [← e7]; exact MapIs.made w6
  have hb57 : Below w5.heap.size w5 w7 := hb6.trans (hb7.mono hb6.size)
  have hU7 := owns_kept hU fun g hg => hb57.block g (owns_lt hU g hg).2
  have hA0 : ∀ q ∈ A0, q < 1000000000 := fun q hq => by
   have h1 := At.lt HN.out.at_ HN.out.mw.tl q hq
   have h2 := len_mu (X4.mk l 0 [] []).2.1
   have h3 := HN.out.mu
   omega
  have hlA0 : A0.length ≤ 1000000 := by
   have h1 := At.len HN.out.at_ HN.out.mw.tl
   have h2 := len_mu (X4.mk l 0 [] []).2.1
   have h3 := HN.out.mu
   omega
  have hbA : Below w.heap.size w w7 := HB1.out.trans ((HB4.out.2.trans ((hb5.trans (hb57.mono hb5.size)).mono HB4.out.2.size)).mono HB1.out.size)
  have KK := hid (keyOf_any hU7 hA0 hlA0 (HT.out.on (hbA.mono hBt)) (Nat.le_trans hBt hbA.size))
  have H5 := hid (And.intro hU (And.intro hb5 hb57))
  have H7 := hid (And.intro hn7 (And.intro hm7 (And.intro hs6 hs7)))
  have HOK := hid (And.intro hA0 hlA0)
  have HU7 := hid hU7
  have hmm := @run_makeMap Tryz.prog
  clear hU hb5 hb6 hb7 hs6 hs7 hn7 hm7 hb57 hU7 hA0 hlA0 hbA KG hdl
  go_wp2_with fail
  refine KK.out.mono ?_
  rintro e w8 ⟨rfl, hb8⟩
  have HM8 := hid (H7.out.2.1.below hb8)
  have H8 := hid hb8
  have HLX := hid (key9 A0 HOK.out.1 HOK.out.2)
  clear hb8 e6 e7 hmm c7
  go_wp2_with (refine wpList_put rfl (.tmp 36) (.tmp 40) (.const (.int .i64 0)) 124 (.inr rfl) keyed9 Tryz.underlying124 rfl HM8.out (keyV A0) (.int .i64 0) (.string (keyX A0)) rfl rfl HLX.out (fun p hp => by cases hp) ?_)
  intro w9 hm9 hg9
  have hb19 : Below w1.heap.size w1 w9 := (HB4.out.2.trans ((H5.out.2.1.trans ((H5.out.2.2.trans ((H8.out).mono H5.out.2.2.size)).mono H5.out.2.1.size)).mono HB4.out.2.size)).grown hg9 (by have := HB4.out.2.size; have := H5.out.2.1.size; have := H8.out.size; have := H7.out.2.2; omega) (fun a ha => by injection ha with ha; have := HB4.out.2.size; have := H5.out.2.1.size; have := H7.out.2.2; omega)
  have hne : ∀ g, g < w6.heap.size → w9.heap[g]? = w7.heap[g]? := fun g hg => (hg9.block g (by have := H8.out.size; have := H7.out.2.2; omega) (fun e => by injection e with e; omega)).trans (H8.out.block g (by have := H7.out.2.2; omega))
  have hs46 : w4.heap.size ≤ w5.heap.size := H5.out.2.1.size
  have h5w : ∀ g, g < w5.heap.size → w9.heap[g]? = w5.heap[g]? := fun g hg => (hne g (by have := H7.out.2.2; omega)).trans (H5.out.2.2.block g hg)
  have HBS := hid (BS.init (l := l) (DM := w1.heap.size) (db := w2.heap.size) (sb := w5.heap.size) (mb := w6.heap.size) (F0 := w3.heap.size) (F1 := w4.heap.size) (G0 := w4.heap.size) (G1 := w5.heap.size) (A := A0) hb19 HB2.out.size (by have := H3.out.2.2; omega) (Nat.le_refl _) (Nat.le_refl _) (by have := H7.out.2.2; omega) HB4.out.1.size hs46
   (by rw [HDC.out, h5w _ (by have := H3.out.2.2; have := HB4.out.1.size; omega), H5.out.2.1.block _ (by have := H3.out.2.2; have := HB4.out.1.size; omega)]; exact HD4.out)
   (owns_kept HF4.out fun g hg => by have := (owns_lt HF4.out g hg).2; rw [h5w _ (by omega)]; exact H5.out.2.1.block g this) (fun a ha => (owns_lt HF4.out a ha).2)
   (owns_kept H5.out.1 fun g hg => h5w g (owns_lt H5.out.1 g hg).2) (fun a ha => (owns_lt H5.out.1 a ha).2) (by rw [hne _ (by have := H7.out.2.2; omega)]; exact H7.out.1) hm9)
  have HSO := hid (SetsOk.mk (l := l) (A0 := A0) (SS := [A0]) rfl (by simp) (fun A hA => by
   simp at hA; subst hA
   exact ⟨HN.out.at_.1, At.lt HN.out.at_ HN.out.mw.tl⟩))
  have HST := hid (StOk.mk (l := l) (SS := [A0]) (NX := []) (TG := []) (i := 0) rfl rfl (fun j A x _ hx => by simp at hx) (fun j A hj => by omega))
  clear hb19 hne h5w hs46 hm9 hg9
  have hfl : (Fx l).length ≤ 256 := X5.fs_len (clsX l) 256
  have HFL := hid hfl
  go_wp2_with fail
  go_loopw [8, 10] (fun t8 t10 wr => ∃ i : Nat, t10 = .int .i64 (i : Int) ∧ Hid (OutS l A0 w1.heap.size w2.heap.size w6.heap.size w1 (.slice fo (Fx l).length fc) i t8 wr)) (fun _ t10 _ => 2001 - (RowKit.intOf t10).toNat)
  case atStart => exact ⟨0, rfl, hid ⟨[A0], [], [], [.slice uo A0.length uc], [], nil1, nil1, .slice uo A0.length uc, A0, by simp, by simp, HBS.out, HSO.out, HST.out, by simp⟩⟩
  case round =>
   obtain ⟨i, rfl, HO⟩ := hrel
   obtain ⟨SS, NX, TG, SV, NV, nv, tv, uv, UA, hi, hn2, hbs, hso, hst, htg⟩ := HO.out
   obtain ⟨so, sc, rfl⟩ := own_shape hbs.s
   have hsl := hbs.sl
   have HBo := hid hbs
   have HSo := hid hso
   have HTo := hid hst
   have HGo := hid htg
   have Hi := hid (And.intro hi hn2)
   clear hbs hso hst htg HO HBS HSO HST
   by_cases hlt : i < SV.length
   ·have h1 : (i : Int) < (SV.length : Int) := by omega
    have HSL := hid hsl
    clear hi hn2 hsl
    go_wp2_with fail
    go_loopw [8, 11, 50] (fun t8 t11 t50 wr => ∃ k : Nat, k ≤ (Fx l).length ∧ t50 = .int .i64 (k : Int) ∧ Hid (InS l A0 w1.heap.size w2.heap.size w6.heap.size w1 (.slice fo (Fx l).length fc) nv tv NX TG NV i k t8 t11 wr)) (fun _ _ t50 _ => (Fx l).length - (RowKit.intOf t50).toNat)
    case atStart =>
     obtain ⟨A, hA⟩ : ∃ A, SS[i]? = some A := ⟨_, List.getElem?_eq_getElem (by have := HSL.out; omega)⟩
     exact ⟨0, Nat.zero_le _, rfl, hid ⟨SS, [], SV, uv, UA, A, by have := Hi.out; omega, hA, HBo.out, HSo.out, HTo.out, ⟨rfl, fun c f hc => by omega⟩⟩⟩
    case round =>
     obtain ⟨k, hk, rfl, HI⟩ := hrel
     by_cases hlk : k < (Fx l).length
     ·obtain ⟨SS2, R, SV2, uv2, UA2, A, hlen, hA, hbs, hso, hst, hrt⟩ := HI.out
      obtain ⟨so2, sc2, rfl⟩ := own_shape hbs.s
      obtain ⟨ro, rc, rfl⟩ := own_shape hbs.r
      have hi2 : i < SS2.length := (List.getElem?_eq_some_iff.1 hA).1
      have hsl2 := hbs.sl
      have hrl := hrt.1
      obtain ⟨v1, hv1⟩ : ∃ v1, SV2[i]? = some v1 := ⟨_, List.getElem?_eq_getElem (by omega)⟩
      obtain ⟨f, hf⟩ : ∃ f, (Fx l)[k]? = some f := ⟨_, List.getElem?_eq_getElem hlk⟩
      have hf256 : f < 256 := X5.fs_lt _ _ _ (List.mem_of_getElem? hf)
      obtain ⟨gs, rfl, cs, _⟩ := own_at hbs.s (by omega) hv1
      obtain ⟨gf, rfl, cf, _⟩ := own_at (x := .int .u8 (f : Int)) hbs.f hlk (by rw [List.getElem?_map, hf]; rfl)
      have h5 : (k : Int) < ((Fx l).length : Int) := by omega
      have h6 : (i : Int) < (SV2.length : Int) := by omega
      have h7 : (0 : Int) ≤ (k : Int) := by omega
      have h8 : (0 : Int) ≤ (i : Int) := by omega
      have hOk := hso.okay A (List.mem_of_getElem? hA)
      have KS := hid (step_new (HN.out.below hbs.base) hOk (hbs.each i v1 A hv1 hA) f hf256)
      have HB := hid hbs
      have HS := hid hso
      have HT2 := hid hst
      have HR := hid hrt
      have HA := hid hA
      have HFk := hid hf
      have HI2 := hid (And.intro hi2 (And.intro hsl2 (And.intro hlen hlk)))
      have Hk := hid hk
      have HRL := hid hrl
      clear hbs hso hst hrt hA hf hi2 hsl2 hlen hOk hv1 HI hlt h1 hrl
      go_wp2_with fail
      refine KS.out.mono ?_
      rintro e w10 ⟨rv, B, rfl, hst2, hown, hnil, hb10⟩
      obtain ⟨bo, bc, rfl⟩ := own_shape hown
      have HB2 := hid (HB.out.hold hb10 hown)
      have HSt := hid hst2
      by_cases hB0 : B.length = 0
      ·obtain rfl : B = [] := List.eq_nil_of_length_eq_zero hB0
       have h9 : (((([] : List Nat).length : Nat) : Int) == 0) = true := rfl
       clear hst2 hown hnil hb10 cs cf KS hB0
       obtain ⟨w11, e11⟩ : ∃ w11, w10.alloc (.cells #[.int .i64 (-1)] 3) = w11 := ⟨_, rfl⟩
       have hb11 : Below w10.heap.size w10 w11 := by rw [← e11]; exact (Below.refl _ _).alloc (Nat.le_refl _) _
       have HN11 := hid (show w11.heap[w10.heap.size]? = some (.cells #[.int .i64 (-1)] 3 (0, 0)) from by rw [← e11]; exact new_block _ _)
       have HB3 := hid (HB2.out.grow hb11)
       clear hb11
       go_wp2_with (at_builtin; refine wpList_push1 rfl (.tmp 64) (.tmp 65) 87 3 rfl (.int .i64 0) 8 Tryz.underlying87 info3 rfl (by decide) w1.heap.size (.slice ro R.length rc) R.length (zs R) rfl HB3.out.r w10.heap.size rfl (.int .i64 (-1)) HN11.out rfl (by have := HRL.out; omega) HB3.out.hdm ?_)
       intro v12 w12 hown12 hg12 hat12
       have HI3 : Hid (InS l A0 w1.heap.size w2.heap.size w6.heap.size w1 (.slice (some ⟨gf, 0, none⟩) (Fx l).length fc) nv tv NX TG NV i (k + 1) (.slice (some ⟨gs, 0, none⟩) SV2.length sc2) v12 w12) := hid ⟨SS2, R ++ [-1], SV2, _, _, A, by have := HI2.out; omega, HA.out, HB3.out.row_push hown12 hg12 hat12, HS.out, HT2.out, HR.out.push HFk.out HSt.out (.inl ⟨rfl, rfl⟩)⟩
       clear hown12 hg12 hat12 e11
       go_wp2_with fail
       refine ⟨⟨k + 1, by omega, rfl, HI3⟩, ?_⟩
       show (Fx l).length - ((k : Int) + 1).toNat < (Fx l).length - ((k : Int)).toNat
       omega
      ·have h9 : (((B.length : Nat) : Int) == 0) = false := by rw [beq_eq_false_iff_ne]; omega
       have hOkB := hst2.okay HN.out.mw.tl
       have hBq : ∀ q ∈ B, q < 1000000000 := fun q hq => by
        have g1 := hOkB.2 q hq
        have g2 : (Pm l).length ≤ X3.muL (Pm l) := len_mu _
        have g3 : X3.muL (Pm l) ≤ 100000 := HN.out.mu
        omega
       have hBl : B.length ≤ 1000000 := by
        have g1 := hOkB.len
        have g2 : (Pm l).length ≤ X3.muL (Pm l) := len_mu _
        have g3 : X3.muL (Pm l) ≤ 100000 := HN.out.mu
        omega
       have hb210 : Below w.heap.size w w10 := HB1.out.trans (HB2.out.base.mono HB1.out.size)
       have KK2 := hid (keyOf_any hown hBq hBl (HT.out.on (hb210.mono hBt)) (Nat.le_trans hBt hb210.size))
       have HLB := hid (key9 B hBq hBl)
       have HOB := hid hOkB
       have HB0 := hid hB0
       clear hst2 hown hnil hb10 cs cf KS hB0 hOkB hBq hBl hb210
       go_wp2_with fail
       refine KK2.out.mono ?_
       rintro e w11 ⟨rfl, hb11⟩
       have HB3 := hid (HB2.out.grow hb11)
       clear hb11 KK2
       by_cases hin : B ∈ SS2
       ·obtain ⟨n, hn⟩ := List.mem_iff_getElem?.1 hin
        have HMem := hid (tmap_mem hn)
        have HNn := hid hn
        obtain ⟨w12, e12⟩ : ∃ w12, w11.alloc (.cells #[.int .i64 (n : Int)] 3) = w12 := ⟨_, rfl⟩
        have hb12 : Below w11.heap.size w11 w12 := by rw [← e12]; exact (Below.refl _ _).alloc (Nat.le_refl _) _
        have HN12 := hid (show w12.heap[w11.heap.size]? = some (.cells #[.int .i64 (n : Int)] 3 (0, 0)) from by rw [← e12]; exact new_block _ _)
        have HB4 := hid (HB3.out.grow hb12)
        clear hb12 hin hn
        go_wp2_with (first | (at_lookup; refine wpList_look_some rfl (.tmp 70) (.tmp 71) 124 rfl keyed9 Tryz.underlying124 rfl HB3.out.map (keyV B) (.int .i64 (n : Int)) (.string (keyX B)) rfl HLB.out HMem.out ?_) | (at_builtin; refine wpList_push1 rfl (.tmp 86) (.tmp 88) 87 3 rfl (.int .i64 0) 8 Tryz.underlying87 info3 rfl (by decide) w1.heap.size (.slice ro R.length rc) R.length (zs R) rfl HB4.out.r w11.heap.size rfl (.int .i64 (n : Int)) HN12.out rfl (by have := HRL.out; omega) HB4.out.hdm ?_))
        intro v13 w13 hown13 hg13 hat13
        have HI3 : Hid (InS l A0 w1.heap.size w2.heap.size w6.heap.size w1 (.slice (some ⟨gf, 0, none⟩) (Fx l).length fc) nv tv NX TG NV i (k + 1) (.slice (some ⟨gs, 0, none⟩) SV2.length sc2) v13 w13) := hid ⟨SS2, R ++ [(n : Int)], SV2, _, _, A, by have := HI2.out; omega, HA.out, HB4.out.row_push hown13 hg13 hat13, HS.out, HT2.out, HR.out.push HFk.out HSt.out (.inr ⟨fun e => HB0.out (by rw [e]; rfl), n, rfl, HNn.out⟩)⟩
        clear hown13 hg13 hat13 e12
        go_wp2_with fail
        refine ⟨⟨k + 1, by omega, rfl, HI3⟩, ?_⟩
        show (Fx l).length - ((k : Int) + 1).toNat < (Fx l).length - ((k : Int)).toNat
        omega
       ·have HNone := hid (tmap_none hin)
        have HIn := hid hin
        clear hin
        go_wp2_with (first | (at_lookup; refine wpList_look_none rfl (.tmp 70) (.tmp 71) 124 rfl keyed9 Tryz.underlying124 rfl HB3.out.map (keyV B) (.int .i64 0) (.string (keyX B)) rfl HLB.out (zero3 _) HNone.out ?_) | (at_mapUpdate; refine wpList_put rfl (.tmp 79) (.tmp 80) (.tmp 81) 124 (.inl rfl) keyed9 Tryz.underlying124 rfl HB3.out.map (keyV B) (.int .i64 (SV2.length : Int)) (.string (keyX B)) rfl rfl HLB.out HNone.out ?_))
        intro w12 hm12 hg12
        have HB4 := hid (HB3.out.map_put (M2 := SS2 ++ [B]) (by rw [tmap_push, ← HI2.out.2.1]; exact hm12) hg12)
        obtain ⟨w13, e13⟩ : ∃ w13, w12.alloc (.cells #[.slice bo B.length bc] 87) = w13 := ⟨_, rfl⟩
        have hb13 : Below w12.heap.size w12 w13 := by rw [← e13]; exact (Below.refl _ _).alloc (Nat.le_refl _) _
        have HN13 := hid (show w13.heap[w12.heap.size]? = some (.cells #[.slice bo B.length bc] 87 (0, 0)) from by rw [← e13]; exact new_block _ _)
        have HB5 := hid (HB4.out.grow hb13)
        clear hb13 hm12 hg12
        go_wp2_with (at_builtin; refine wpList_push1 rfl (.tmp 82) (.tmp 84) 23 87 rfl nil1 24 Tryz.underlying23 info56 rfl (by decide) w1.heap.size (.slice (some ⟨gs, 0, none⟩) SV2.length sc2) SV2.length SV2 rfl HB5.out.s w12.heap.size rfl (.slice bo B.length bc) HN13.out rfl (by have := HI2.out; have := HFL.out; omega) HB5.out.hdm ?_)
        intro v14 w14 hown14 hg14 hat14
        have HB6 := hid (HB5.out.set_push hown14 hg14 hat14)
        obtain ⟨w15, e15⟩ : ∃ w15, w14.alloc (.cells #[.int .i64 (SV2.length : Int)] 3) = w15 := ⟨_, rfl⟩
        have hb15 : Below w14.heap.size w14 w15 := by rw [← e15]; exact (Below.refl _ _).alloc (Nat.le_refl _) _
        have HN15 := hid (show w15.heap[w14.heap.size]? = some (.cells #[.int .i64 (SV2.length : Int)] 3 (0, 0)) from by rw [← e15]; exact new_block _ _)
        have HB7 := hid (HB6.out.grow hb15)
        clear hb15 hown14 hg14 hat14 e13
        go_wp2_with (at_builtin; refine wpList_push1 rfl (.tmp 86) (.tmp 88) 87 3 rfl (.int .i64 0) 8 Tryz.underlying87 info3 rfl (by decide) w1.heap.size (.slice ro R.length rc) R.length (zs R) rfl HB7.out.r w14.heap.size rfl (.int .i64 (SV2.length : Int)) HN15.out rfl (by have := HRL.out; omega) HB7.out.hdm ?_)
        intro v16 w16 hown16 hg16 hat16
        have HI3 : Hid (InS l A0 w1.heap.size w2.heap.size w6.heap.size w1 (.slice (some ⟨gf, 0, none⟩) (Fx l).length fc) nv tv NX TG NV i (k + 1) v14 v16 w16) := hid ⟨SS2 ++ [B], R ++ [(SV2.length : Int)], SV2 ++ [.slice bo B.length bc], _, _, A, by have := HI2.out; rw [List.length_append]; show SS2.length + 1 ≤ _; omega,
         by rw [List.getElem?_append_left HI2.out.1]; exact HA.out, HB7.out.row_push hown16 hg16 hat16, HS.out.push HOB.out HIn.out, HT2.out.more (Nat.le_of_lt HI2.out.1) (List.prefix_append _ _),
         (HR.out.more (List.prefix_append _ _)).push HFk.out HSt.out (.inr ⟨fun e => HB0.out (by rw [e]; rfl), SV2.length, rfl, by rw [HI2.out.2.1]; simp⟩)⟩
        clear hown16 hg16 hat16 e15
        go_wp2_with fail
        refine ⟨⟨k + 1, by omega, rfl, HI3⟩, ?_⟩
        show (Fx l).length - ((k : Int) + 1).toNat < (Fx l).length - ((k : Int)).toNat
        omega
     ·obtain rfl : k = (Fx l).length := by omega
      obtain ⟨SS2, R, SV2, uv2, UA2, A, hlen, hA, hbs, hso, hst, hrt⟩ := HI.out
      obtain ⟨so2, sc2, rfl⟩ := own_shape hbs.s
      obtain ⟨ro, rc, rfl⟩ := own_shape hbs.r
      have hi2 : i < SS2.length := (List.getElem?_eq_some_iff.1 hA).1
      have hsl2 := hbs.sl
      have hrl := hrt.1
      have h5 : ¬ ((Fx l).length : Int) < ((Fx l).length : Int) := by omega
      have hrw : wr.heap[w.heap.size]? = some (.cells dvz 26 (0, 0)) := (hbs.base.block _ (Array.getElem?_eq_some_iff.1 HR1.out).1).trans HR1.out
      have HRW := hid hrw
      have HBW := hid (HB1.out.trans (hbs.base.mono HB1.out.size))
      have HB := hid hbs
      have HS := hid hso
      have HT2 := hid hst
      have HR := hid hrt
      have HA := hid hA
      have hnl : NV.length ≤ 2000 := by have g1 := hbs.nl; have g2 := hst.nl; have g3 := Hi.out; omega
      have HI2 := hid (And.intro hi2 (And.intro hsl2 (And.intro hlen hnl)))
      have HRL := hid hrl
      have c256 := hbs.c256
      clear hbs hso hst hrt hA hi2 hlen HI hlt h1 hrl hlk hk hrw hnl
      by_cases hbig : 2000 < SV2.length
      ·have h6 : (2000 : Int) < (SV2.length : Int) := by omega
       have HBig := hid (show Big l from ⟨SS2, by omega, HS.out.nodup, HS.out.okay⟩)
       clear hbig hsl2
       go_wp2_with (first | (with_reducible refine wpList_none30 rfl rfl ?_) | (with_reducible refine wpList_store30 rfl (.tmp 2) (.tmp 94) rfl w.heap.size rfl dvz dvz HRW.out rfl dvz_size dvz_size dvz_one ?_))
       refine bodyPost_ret (v := .tuple #[.agg dvz, .int .i64 4]) (results30 rfl _ _ w.heap.size dvz 4 rfl rfl (setRow_heap wr w.heap.size _ dvz 26 (0, 0) HRW.out) dvz_size) rfl ?_
       exact ⟨ans_below (w0 := w0) HBW.out (Nat.le_refl _), .inl ⟨.inr HBig.out, rfl⟩⟩
      ·have h6 : ¬ (2000 : Int) < (SV2.length : Int) := by omega
       have HSmall := hid hbig
       clear hbig hsl2
       obtain ⟨w11, e11⟩ : ∃ w11, wr.alloc (.cells #[.slice ro R.length rc] 87) = w11 := ⟨_, rfl⟩
       have hb11 : Below wr.heap.size wr w11 := by rw [← e11]; exact (Below.refl _ _).alloc (Nat.le_refl _) _
       have HN11 := hid (show w11.heap[wr.heap.size]? = some (.cells #[.slice ro R.length rc] 87 (0, 0)) from by rw [← e11]; exact new_block _ _)
       have HB3 := hid (HB.out.grow hb11)
       clear hb11
       go_wp2_with (at_builtin; refine wpList_push1 rfl (.tmp 96) (.tmp 98) 23 87 rfl nil1 24 Tryz.underlying23 info56 rfl (by decide) w1.heap.size nv NV.length NV rfl HB3.out.n wr.heap.size rfl (.slice ro R.length rc) HN11.out rfl (by have := HI2.out; omega) HB3.out.hdm ?_)
       intro v12 w12 hown12 hg12 hat12
       obtain ⟨no, nc, rfl⟩ := own_shape hown12
       have HB4 := hid (HB3.out.next_push hown12 hg12 hat12)
       have c256b := HB4.out.c256
       have f256b := Lib.frozen_of_heap HB4.out.d 256
       obtain ⟨v1, hv1⟩ : ∃ v1, SV2[i]? = some v1 := ⟨_, List.getElem?_eq_getElem (by have := HI2.out; omega)⟩
       obtain ⟨gs, rfl, _, _⟩ := own_at HB.out.s (by have := HI2.out; omega) hv1
       have HVV := hid (And.intro (show i < SV2.length from by have := HI2.out; omega) hv1)
       obtain ⟨w13, e13⟩ : ∃ w13, w12.setCell ⟨w2.heap.size, 256, none⟩ (.slice no (NV.length + 1) nc) = w13 := ⟨_, rfl⟩
       have hB5 := HB4.out.store_next
       rw [e13] at hB5
       obtain ⟨wd, ed⟩ : ∃ wd, w13.drew = wd := ⟨_, rfl⟩
       have hbd : Below w13.heap.size w13 wd := by rw [← ed]; exact (Below.refl _ _).drew
       have HB6 := hid (hB5.grow hbd)
       have HKT := hid (tags_new (HN.out.below HB6.out.base) (HS.out.okay A (List.mem_of_getElem? HA.out)) (HB6.out.each i v1 A hv1 HA.out))
       have KT := hid HKT.out.1
       have h7 : (i : Int) < (SV2.length : Int) := by have := HVV.out.1; omega
       have h8 : (0 : Int) ≤ (i : Int) := by omega
       clear hown12 hg12 hat12 e11 c256 hB5 hbd hv1
       go_wp2_with fail
       refine region_T 11 (fun w' => w'.cell? ⟨w2.heap.size, 257, none⟩ = some tv ∧ w'.cell? ⟨gs, i, none⟩ = some v1) (by kernel_rfl) (by rw [ed]; exact ⟨HB6.out.c257, own_cell HB6.out.s HVV.out.1 HVV.out.2⟩) (fun inv hHeld => ?_)
       rw [ed] at hHeld ⊢
       clear ed e13
       refine anyT_take (i := 0) (oi := { dst := some 101, op := Op.fieldAddr 26 (Operand.tmp 6) 2, type := 0, pos := "dfa.go:85", after := #[], guard := none }) (v := ?_) rfl (by kernel_rfl) (by kernel_rfl) (by kernel_rfl) (by decide) (by decide) (by kernel_rfl) (by kernel_rfl) (fun _ _ _ h => h) (Or.inl ⟨by rfl, ?_⟩) hHeld inv (fun inv => ?_)
       rotate_left
       ·intro w hSw
        try dsimp only at hSw
        go_simp
        try with_reducible rfl
       simp only [Act.put, List.setIfInBounds_toArray, List.set_cons_zero, List.set_cons_succ]
       refine anyT_take (i := 1) (oi := { dst := some 102, op := Op.load 24 (Operand.tmp 101), type := 24, pos := "dfa.go:85", after := #[{ on := 0, ground := Ground.data }], guard := none }) (v := ?_) rfl (by kernel_rfl) (by kernel_rfl) (by kernel_rfl) (by decide) (by decide) (by kernel_rfl) (by kernel_rfl) (fun _ _ _ h => h) (Or.inl ⟨by rfl, ?_⟩) hHeld inv (fun inv => ?_)
       rotate_left
       ·intro w hSw
        try dsimp only at hSw
        go_simp
        try with_reducible rfl
       simp only [Act.put, List.setIfInBounds_toArray, List.set_cons_zero, List.set_cons_succ]
       refine anyT_take (i := 2) (oi := { dst := some 103, op := Op.move (Operand.tmp 4), type := 127, pos := "dfa.go:85", after := #[], guard := none }) (v := ?_) rfl (by kernel_rfl) (by kernel_rfl) (by kernel_rfl) (by decide) (by decide) (by kernel_rfl) (by kernel_rfl) (fun _ _ _ h => h) (Or.inl ⟨by rfl, ?_⟩) hHeld inv (fun inv => ?_)
       rotate_left
       ·intro w hSw
        try dsimp only at hSw
        go_simp
        try with_reducible rfl
       simp only [Act.put, List.setIfInBounds_toArray, List.set_cons_zero, List.set_cons_succ]
       refine anyT_take (i := 3) (oi := { dst := some 104, op := Op.move (Operand.tmp 8), type := 23, pos := "dfa.go:85", after := #[], guard := none }) (v := ?_) rfl (by kernel_rfl) (by kernel_rfl) (by kernel_rfl) (by decide) (by decide) (by kernel_rfl) (by kernel_rfl) (fun _ _ _ h => h) (Or.inl ⟨by rfl, ?_⟩) hHeld inv (fun inv => ?_)
       rotate_left
       ·intro w hSw
        try dsimp only at hSw
        go_simp
        try with_reducible rfl
       simp only [Act.put, List.setIfInBounds_toArray, List.set_cons_zero, List.set_cons_succ]
       refine anyT_take (i := 4) (oi := { dst := some 105, op := Op.move (Operand.tmp 10), type := 3, pos := "dfa.go:85", after := #[], guard := none }) (v := ?_) rfl (by kernel_rfl) (by kernel_rfl) (by kernel_rfl) (by decide) (by decide) (by kernel_rfl) (by kernel_rfl) (fun _ _ _ h => h) (Or.inl ⟨by rfl, ?_⟩) hHeld inv (fun inv => ?_)
       rotate_left
       ·intro w hSw
        try dsimp only at hSw
        go_simp
        try with_reducible rfl
       simp only [Act.put, List.setIfInBounds_toArray, List.set_cons_zero, List.set_cons_succ]
       refine anyT_take (i := 5) (oi := { dst := some 106, op := Op.indexAddr 23 (Operand.tmp 104) (Operand.tmp 105), type := 0, pos := "dfa.go:85", after := #[{ on := 3, ground := Ground.data }, { on := 4, ground := Ground.data }], guard := none }) (v := ?_) rfl (by kernel_rfl) (by kernel_rfl) (by kernel_rfl) (by decide) (by decide) (by kernel_rfl) (by kernel_rfl) (fun _ _ _ h => h) (Or.inl ⟨by rfl, ?_⟩) hHeld inv (fun inv => ?_)
       rotate_left
       ·intro w hSw
        try dsimp only at hSw
        go_simp
        try with_reducible rfl
       simp only [Act.put, List.setIfInBounds_toArray, List.set_cons_zero, List.set_cons_succ]
       refine anyT_take (i := 6) (oi := { dst := some 107, op := Op.load 87 (Operand.tmp 106), type := 87, pos := "dfa.go:85", after := #[{ on := 5, ground := Ground.data }], guard := none }) (v := ?_) rfl (by kernel_rfl) (by kernel_rfl) (by kernel_rfl) (by decide) (by decide) (by kernel_rfl) (by kernel_rfl) (fun _ _ _ h => h) (Or.inl ⟨by rfl, ?_⟩) hHeld inv (fun inv => ?_)
       rotate_left
       ·intro w hSw
        try dsimp only at hSw
        go_simp
        try with_reducible rfl
       simp only [Act.put, List.setIfInBounds_toArray, List.set_cons_zero, List.set_cons_succ]
       refine anyT_next (i := 7) (o := { dst := some 108, op := Op.call { callee := Callee.value (Operand.func 79), args := #[Operand.tmp 103, Operand.tmp 107], argTypes := #[127, 87] }, type := 54, pos := "dfa.go:85", after := #[{ on := 2, ground := Ground.data }, { on := 6, ground := Ground.data }], guard := none }) (by kernel_rfl) rfl (by decide) inv (fun inv K' hK => ?_)
       go_simp
       refine KT.out.mono ?_
       rintro e wd ⟨rfl, rfl⟩
       go_wp2_with fail
       refine hK.out _ _ hHeld ?_
       clear hK K'
       try simp only [Act.put, List.setIfInBounds_toArray, List.set_cons_zero, List.set_cons_succ]
       obtain ⟨w16, e16⟩ : ∃ w16, wd.alloc (.cells #[.int .u64 ((X4.tagsX (Tm l) A : Nat) : Int)] 54) = w16 := ⟨_, rfl⟩
       have hb16 : Below wd.heap.size wd w16 := by rw [← e16]; exact (Below.refl _ _).alloc (Nat.le_refl _) _
       have HN16 := hid (show w16.heap[wd.heap.size]? = some (.cells #[.int .u64 ((X4.tagsX (Tm l) A : Nat) : Int)] 54 (0, 0)) from by rw [← e16]; exact new_block _ _)
       have HB7 := hid (HB6.out.grow hb16)
       clear hb16
       refine anyT_next (i := 8) (o := { dst := some 109, op := Op.buildSlice 24 1 #[(0, Operand.tmp 108)], type := 24, pos := "dfa.go:85", after := #[{ on := 7, ground := Ground.data }], guard := none }) (by kernel_rfl) rfl (by decide) inv (fun inv K' hK => ?_)
       go_simp
       refine hK.out _ _ ⟨HB7.out.c257, own_cell HB7.out.s HVV.out.1 HVV.out.2⟩ ?_
       clear hK K'
       try simp only [Act.put, List.setIfInBounds_toArray, List.set_cons_zero, List.set_cons_succ]
       refine anyT_next (i := 9) (o := { dst := some 110, op := Op.call { callee := Callee.builtin Builtin.append, args := #[Operand.tmp 102, Operand.tmp 109], argTypes := #[24, 24] }, type := 24, pos := "dfa.go:85", after := #[{ on := 1, ground := Ground.data }, { on := 8, ground := Ground.data }, { on := 7, ground := Ground.chain }], guard := none }) (by kernel_rfl) rfl (by decide) inv (fun inv K' hK => ?_)
       simp only [Region.wanted]
       rw [if_pos trivial]
       refine wp_push1 (.tmp 102) (.tmp 109) 24 54 rfl (.int .u64 0) 8 Tryz.underlying24 info43 rfl (by decide) w1.heap.size tv TG.length (u64s TG) rfl HB7.out.t wd.heap.size rfl (.int .u64 ((X4.tagsX (Tm l) A : Nat) : Int)) HN16.out rfl (by have := HT2.out.tl; have := Hi.out; omega) HB7.out.hdm ?_
       intro v17 w17 hown17 hg17 hat17
       obtain ⟨tgo, tgc, rfl⟩ := own_shape hown17
       have HB8 := hid (HB7.out.tag_push hown17 hg17 hat17)
       have c257b := HB8.out.c257
       have f257b := Lib.frozen_of_heap HB8.out.d 257
       clear hown17 hg17 hat17
       refine hK.out _ _ ⟨HB8.out.c257, own_cell HB8.out.s HVV.out.1 HVV.out.2⟩ ?_
       clear hK K'
       try simp only [Act.put, List.setIfInBounds_toArray, List.set_cons_zero, List.set_cons_succ]
       refine anyT_take (i := 10) (oi := { dst := some 111, op := Op.fieldAddr 26 (Operand.tmp 6) 2, type := 0, pos := "dfa.go:85", after := #[{ on := 0, ground := Ground.phase }, { on := 1, ground := Ground.phase }, { on := 2, ground := Ground.phase }, { on := 3, ground := Ground.phase }, { on := 4, ground := Ground.phase }, { on := 5, ground := Ground.phase }, { on := 6, ground := Ground.phase }, { on := 7, ground := Ground.phase }, { on := 8, ground := Ground.phase }, { on := 9, ground := Ground.phase }], guard := none }) (v := ?_) rfl (by kernel_rfl) (by kernel_rfl) (by kernel_rfl) (by decide) (by decide) (by kernel_rfl) (by kernel_rfl) (fun _ _ _ h => h) (Or.inl ⟨by rfl, ?_⟩) ⟨HB8.out.c257, own_cell HB8.out.s HVV.out.1 HVV.out.2⟩ inv (fun inv => ?_)
       rotate_left
       ·intro w hSw
        try dsimp only at hSw
        go_simp
        try with_reducible rfl
       simp only [Act.put, List.setIfInBounds_toArray, List.set_cons_zero, List.set_cons_succ]
       refine anyT_one (i := 11) (o := { dst := none, op := Op.store 24 (Operand.tmp 111) (Operand.tmp 110), type := 0, pos := "dfa.go:85", after := #[{ on := 10, ground := Ground.data }, { on := 9, ground := Ground.data }, { on := 9, ground := Ground.chain }, { on := 0, ground := Ground.phase }, { on := 1, ground := Ground.phase }, { on := 2, ground := Ground.phase }, { on := 3, ground := Ground.phase }, { on := 4, ground := Ground.phase }, { on := 5, ground := Ground.phase }, { on := 6, ground := Ground.phase }, { on := 7, ground := Ground.phase }, { on := 8, ground := Ground.phase }, { on := 9, ground := Ground.phase }], guard := none }) (by kernel_rfl) rfl (fun K' hK => ?_)
       go_simp
       refine hK.out _ _ (fun h => absurd h (by decide)) ?_
       clear hK K'
       try simp only [Act.put, List.setIfInBounds_toArray, List.set_cons_zero, List.set_cons_succ]
       refine anyT_done (by kernel_rfl) ?_ _
       have HO2 : Hid (OutS l A0 w1.heap.size w2.heap.size w6.heap.size w1 (.slice fo (Fx l).length fc) (i + 1) (.slice (some ⟨gs, 0, none⟩) SV2.length sc2) (w17.setCell ⟨w2.heap.size, 257, none⟩ (.slice tgo (TG.length + 1) tgc))) :=
        hid ⟨SS2, NX ++ [R], TG ++ [X4.tagsX (Tm l) A], SV2, NV ++ [.slice ro R.length rc], _, _, _, _, HI2.out.1, by have := HI2.out; have := HSmall.out; omega, HB8.out.store_tags, HS.out, HT2.out.push HA.out HR.out, fun q hq => by
         rcases List.mem_append.1 hq with h1 | h1
         ·exact HGo.out q h1
         ·simp at h1; subst h1; exact HKT.out.2⟩
       clear c257b f257b c256b f256b hHeld inv
       go_wp2_with fail
       refine ⟨⟨i + 1, rfl, HO2⟩, ?_⟩
       show 2001 - ((i : Int) + 1).toNat < 2001 - ((i : Int)).toNat
       have := Hi.out
       omega
   ·have h1 : ¬ (i : Int) < (SV.length : Int) := by omega
    obtain rfl : i = SS.length := by omega
    obtain ⟨d2, hd2⟩ : ∃ d2, dvc (clsX l) nv tv = d2 := ⟨_, rfl⟩
    obtain ⟨no, nc, hno⟩ := own_shape HBo.out.n
    obtain ⟨tgo, tgc, hto⟩ := own_shape HBo.out.t
    have HS1 := hid (show d2.size = 258 from by rw [← hd2]; exact dvc_size (clsX l) HDL.out nv tv)
    have HS2 := hid (show d2.all (·.oneCell') = true from by rw [← hd2]; exact dvc_one (clsX l) (nv := nv) (tv := tv) (by rw [hno]; rfl) (by rw [hto]; rfl))
    have HD2b := hid (show wr.heap[w2.heap.size]? = some (.cells d2 26 (0, 0)) from by rw [← hd2]; exact HBo.out.d)
    have HRW := hid ((HBo.out.base.block _ (Array.getElem?_eq_some_iff.1 HR1.out).1).trans HR1.out)
    have HBW := hid (HB1.out.trans (HBo.out.base.mono HB1.out.size))
    have HDD := hid hd2
    have hsz1 : w.heap.size < w1.heap.size := (Array.getElem?_eq_some_iff.1 HR1.out).1
    clear hd2 hno hto hsl hi hn2
    go_wp2_with (first | (with_reducible refine wpList_load30 rfl (.tmp 6) rfl w2.heap.size rfl d2 HD2b.out HS1.out ?_) | (with_reducible refine wpList_store30 rfl (.tmp 2) (.tmp 112) rfl w.heap.size rfl dvz d2 HRW.out rfl dvz_size HS1.out HS2.out ?_))
    refine bodyPost_ret (v := .tuple #[.agg d2, .int .i64 0]) (results30 rfl _ _ w.heap.size d2 0 rfl rfl (setRow_heap wr w.heap.size _ d2 26 (0, 0) HRW.out) HS1.out) rfl ?_
    have hE := built_end (HBo.out.other (w' := wr.setRow w.heap.size d2) (fun g hg => setRow_other _ _ _ _ (by omega)) (by rw [setRow_size]; exact Nat.le_refl _)) HSo.out HTo.out HGo.out (by have := Hi.out; omega)
    exact ⟨ans_below (w0 := w0) HBW.out (Nat.le_refl _), .inr ⟨_, SS, A0, nv, tv, HNM.out, by rw [dval_dvc, HDD.out], HN.out.at_, hE.1, hE.2, by have := Hi.out; omega⟩⟩
theorem dfa_build_any (l : List RX) (w : World) (v : Value) (h : RowR (fun g => g < w.heap.size) w v l) (hN : ∀ k (hk : k < l.length), l[k].size ≤ 1000000) (hll : l.length ≤ 1000000) {Bt : Nat} (ht : Tab Bt w) (hBt : Bt ≤ w.heap.size) :
  Calls Tryz.prog 48 #[v] w (BuiltP l w) :=
 (dfa_build_any2 l w v h hN hll ht hBt).mono fun e w' ⟨hb, hr⟩ => ⟨hb, hr.imp id fun ⟨D, SS, A0, nv, tv, h1, h2, h3, h4, h5, _⟩ => ⟨D, SS, A0, nv, tv, h1, h2, h3, h4, h5⟩⟩
end Go.Proofs.YtochckefnjobhaaGreatDoor
