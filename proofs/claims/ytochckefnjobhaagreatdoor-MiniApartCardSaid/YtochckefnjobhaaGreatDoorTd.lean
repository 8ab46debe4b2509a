/- The document's telling apart: all pairs, round by round. -/
import Derived.Test.YtochckefnjobhaaGreatDoorTc
namespace Go.Proofs.YtochckefnjobhaaGreatDoor
open Go Go.RowKit Go.Lib
open X5 (Aut)
open X8 (setF)
set_option linter.unusedVariables false
set_option linter.unusedSimpArgs false
theorem info37 : (Tryz.prog.info? 37).map (fun i => (i.zero, i.size, i.bytes)) = some (some nil1, 1, 24) := by kernel_rfl
theorem own_cellF {w : World} {B n c g k : Nat} {e : TypeId} {xs : List Value} {x : Value} (h : w.ownsRow B e 1 (.slice (some ⟨g, 0, none⟩) n c) n xs) (hk : k < n) (hx : xs[k]? = some x) : w.cell? ⟨g, k, none⟩ = some x ∧ g < w.heap.size := by
 obtain ⟨g', e, h1, h2⟩ := own_at h hk hx
 injection e with e
 injection e with e
 subst e
 exact ⟨h1, h2⟩
theorem FarAt.cell {w : World} {B n m c fo : Nat} {G : List Nat} {F : Nat → Nat → Bool} (h : FarAt w B n (.slice (some ⟨fo, 0, none⟩) m c) G F) {i : Nat} (hi : i < G.length) : ∃ b, w.cell? ⟨fo, i, none⟩ = some (.slice (some ⟨b, 0, none⟩) n n) ∧ G[i]? = some b ∧ B ≤ b ∧ b < w.heap.size ∧ fo < w.heap.size ∧ (∀ k, k < n → w.cell? ⟨b, k, none⟩ = some (.bool (F i k))) ∧ ∀ k, w.frozen? ⟨b, k, none⟩ = false := by
 obtain ⟨o, c', b, e, h1, h2, h3, h4, h5, h6, h7, h8, h9⟩ := h.get hi
 injection e with e
 injection e with e
 injection e with e
 subst e
 exact ⟨b, h3, h4, h5, h6, h2, h8, h9⟩
theorem FarAt.mono {w : World} {B B' n : Nat} {v : Value} {G : List Nat} {F : Nat → Nat → Bool} (h : FarAt w B n v G F) (hB : B' ≤ B) : FarAt w B' n v G F :=
 ⟨⟨h.own.1, h.own.2.imp id fun ⟨g, cap, cur, e1, e2, e3⟩ => ⟨g, cap, cur, e1, Nat.le_trans hB e2, e3⟩⟩, fun b hb => ⟨Nat.le_trans hB (h.lt b hb).1, (h.lt b hb).2⟩, h.nd, h.off, h.row⟩
def ApartP (D : Aut) (K n N : Nat) (w : World) (e : Ending) (w' : World) : Prop := ∃ o c G F, e = .returned (.slice o N c) ∧ FarAt w' w.heap.size N (.slice o N c) G F ∧ G.length = N ∧
 (∀ p q, p < N → q < N → (F p q = true ↔ ¬ X6.Eqv K D (X8.pl n p) D (X8.pl n q))) ∧ Below w.heap.size w w'
set_option maxRecDepth 100000 in
set_option maxHeartbeats 32000000 in
theorem apart_any {w : World} {D : Aut} {K : Nat} {dd : Array Value} (hL : Lies D dd w) (hD : X6.Ok D K) (hK : K ≤ 1000000) (hn : D.next.length ≤ 100000) :
  Calls Tryz.prog 14 #[.agg dd] w (ApartP D K D.next.length (D.next.length + 1) w) := by
 obtain ⟨wa, ea⟩ : ∃ wa, w.alloc (.cells dd 34) = wa := ⟨_, rfl⟩
 have hba : Below w.heap.size w wa := by rw [← ea]; exact (Below.refl _ _).alloc (Nat.le_refl _) _
 have hd : wa.heap[w.heap.size]? = some (.cells dd 34 (0, 0)) := by rw [← ea]; exact new_block _ _
 have hsa : wa.heap.size = w.heap.size + 1 := by rw [← ea]; simp
 have HX := hid hd
 have HBA := hid hba
 have HSA := hid (show w.heap.size < wa.heap.size by omega)
 have HSZ := hid hL.sz
 have hLa := hL.below hba
 have HL := hid hLa
 obtain ⟨nv, tv, hdv, h⟩ := hLa
 obtain ⟨no, nc, rfl, _⟩ := h.rows
 have c256 : wa.cell? ⟨w.heap.size, 256, none⟩ = some (.slice no D.next.length nc) := by rw [Lib.cell_of_heap hd, hdv, dcell_next h.len]
 have hpos : 0 < D.next.length := List.length_pos_iff.2 hD.some_
 have HOK := hid hD
 have HRK := hid (hD.rows 0 hpos)
 obtain ⟨n, hnn⟩ : ∃ n, D.next.length = n := ⟨_, rfl⟩
 have HNN := hid hnn
 have htl : D.tags.length = n := by rw [hD.tags]; exact hnn
 have HTL := hid htl
 rw [hnn] at hn hpos c256 ⊢
 obtain ⟨N, hN⟩ : ∃ N, n + 1 = N := ⟨_, rfl⟩
 have HN := hid hN
 have hNi : (n : Int) + 1 = (N : Int) := by omega
 have hN1 : N ≤ 100001 := by omega
 have hN0 : 0 < N := by omega
 have HNI := hid hNi
 rw [hN]
 clear hL h hdv hd hba hsa hD hnn htl hNi hN
 go_enter Tryz.func14, Tryz.ntmps14
 go_wp2_with fail
 clear ea c256
 go_loopw [4, 5] (fun t4 t5 wr => ∃ (G : List Nat) (o : Option Addr) (c : Nat), G.length ≤ N ∧ t5 = .int .i64 (G.length : Int) ∧ t4 = .slice o G.length c ∧ Hid (FarAt wr wa.heap.size N (.slice o G.length c) G fun _ _ => false) ∧ Hid (Below wa.heap.size wa wr)) (fun _ t5 _ => N - (RowKit.intOf t5).toNat)
 case atStart => exact ⟨[], none, 0, Nat.zero_le _, rfl, rfl, hid (FarAt.nil_ _ _ _ _), hid (Below.refl _ _)⟩
 case round =>
  obtain ⟨G, o, c, hG, rfl, rfl, HF, HB⟩ := hrel
  have hle := HB.out.size
  have HXr := hid ((HB.out.block _ HSA.out).trans HX.out)
  by_cases hlt : G.length < N
  ·have h1 : (G.length : Int) ≤ (n : Int) := by have := HN.out; omega
   obtain ⟨w2, e2⟩ : ∃ w2, wr.alloc (.cells (Array.replicate N (.bool false)) 4) = w2 := ⟨_, rfl⟩
   have hm : (Instr.makeSlice 37 (.int .i64 ((n : Int) + 1)) (.int .i64 ((n : Int) + 1))).run Tryz.prog wr = .ok (.slice (some ⟨wr.heap.size, 0, none⟩) N N) w2 := by rw [← e2, HNI.out]; exact made_bools N (by omega) wr
   obtain ⟨w3, e3⟩ : ∃ w3, w2.alloc (.cells #[.slice (some ⟨wr.heap.size, 0, none⟩) N N] 37) = w3 := ⟨_, rfl⟩
   have hb2 : Below wr.heap.size wr w2 := by rw [← e2]; exact (Below.refl _ _).alloc (Nat.le_refl _) _
   have hb3 : Below w2.heap.size w2 w3 := by rw [← e3]; exact (Below.refl _ _).alloc (Nat.le_refl _) _
   have hn2 : w2.heap[wr.heap.size]? = some (.cells (Array.replicate N (.bool false)) 4 (0, 0)) := by rw [← e2]; exact new_block _ _
   have HN2 := hid (show w3.heap[wr.heap.size]? = some (.cells (rowF N fun _ => false) 4 (0, 0)) from (hb3.block _ (Array.getElem?_eq_some_iff.1 hn2).1).trans (by rw [← rowF_false]; exact hn2))
   have HN3 := hid (show w3.heap[w2.heap.size]? = some (.cells #[.slice (some ⟨wr.heap.size, 0, none⟩) N N] 37 (0, 0)) from by rw [← e3]; exact new_block _ _)
   have HB23 := hid (hb2.trans (hb3.mono hb2.size))
   have HO3 := hid (HF.out.below HB23.out).own
   have hB3 : wa.heap.size ≤ w3.heap.size := Nat.le_trans hle HB23.out.size
   clear hb2 hb3 hn2
   go_wp2_with (at_builtin; refine wpList_push1 rfl (.tmp 19) (.tmp 23) 32 37 rfl nil1 24 Tryz.underlying32 info37 rfl (by decide) wa.heap.size (.slice o G.length c) G.length (G.map fun b => .slice (some ⟨b, 0, none⟩) N N) rfl HO3.out w2.heap.size rfl (.slice (some ⟨wr.heap.size, 0, none⟩) N N) HN3.out rfl (by omega) hB3 ?_)
   intro v4 w4 hown hg hat
   obtain ⟨o4, c4, rfl⟩ := own_shape hown
   have HF4 := hid (HF.out.push HB23.out hle (Nat.le_refl _) HN2.out hown hg hat)
   have HB4 := hid ((HB.out.trans (HB23.out.mono hle)).grown hg hB3 (fun k e => (owns_lt HO3.out k e).1))
   clear hown hg hat e2 e3 hm
   go_wp2_with fail
   refine ⟨⟨G ++ [wr.heap.size], o4, c4, by rw [List.length_append]; exact hlt, by rw [List.length_append]; rfl, by rw [List.length_append]; rfl, by rw [List.length_append]; exact HF4, HB4⟩, ?_⟩
   show N - ((G.length : Int) + 1).toNat < N - ((G.length : Int)).toNat
   omega
  ·have h1 : ¬ (G.length : Int) ≤ (n : Int) := by have := HN.out; omega
   have hGn : G.length = N := by omega
   have HLr := hid (HL.out.below HB.out)
   have K7 := hid (tagged_any HLr.out (by rw [HTL.out]; exact hpos) (by rw [HTL.out]; omega))
   rw [HTL.out, HN.out] at K7
   have HGN := hid hGn
   rw [hGn] at HF h1 ⊢
   clear hGn hlt hG
   go_wp2_with fail
   refine wp_load34 (.tmp 1) rfl w.heap.size rfl dd HXr.out HSZ.out.1 ?_
   go_wp2_with fail
   refine K7.out.mono ?_
   rintro e w5 ⟨tv, rfl, hown, hb⟩
   clear K7
   obtain ⟨to, tc, rfl⟩ := own_shape hown
   obtain ⟨tb, hto, _, _⟩ := own_at hown hN0 (x := .int .u64 (X8.tau8 D 0 : Int)) (by rw [List.getElem?_map, X8.tau_get HOK.out (by omega)]; rfl)
   subst hto
   have hF5 := HF.out.below hb
   obtain ⟨fo, fc, _, hv, _⟩ := hF5.get (i := 0) (by rw [HGN.out]; exact hN0)
   injection hv with hv1 hv2 hv3
   subst hv1
   clear hv2 hv3
   have HTG := hid hown
   have HF5 := hid hF5
   have HB5 := hid (HB.out.trans (hb.mono hle))
   have HGl := hid (show ∀ b ∈ G, wa.heap.size ≤ b ∧ b < wr.heap.size from HF.out.lt)
   have HKEEP := hid (show ∀ (x : World), Touch G w5 x → Below wa.heap.size wa x ∧ Lies D dd x ∧ x.heap[w.heap.size]? = some (.cells dd 34 (0, 0)) ∧ x.ownsRow wr.heap.size 54 1 (.slice (some ⟨tb, 0, none⟩) N tc) N ((D.tags ++ [0]).map fun t : Nat => Value.int .u64 (t : Int)) from fun x hx => by
    have hbx := hx.bel HB5.out (Nat.le_refl _) (fun b hb => (HGl.out b hb).1)
    refine ⟨hbx, HL.out.below hbx, (hbx.block _ HSA.out).trans HX.out, owns_kept HTG.out fun g hg => hx.block g (owns_lt HTG.out g hg).2 fun hm => ?_⟩
    have h1 := (HGl.out g hm).2
    have h2 := (owns_lt HTG.out g hg).1
    omega)
   have HT5 := hid (show Touch G w5 w5 from (Touch.below (Below.refl _ _)).mono (by simp))
   clear hb hown hF5 HF
   go_wp2_with fail
   go_loopw [7, 8, 9, 10] (fun t7 t8 t9 t10 wx => ∃ (r : Nat) (F : Nat → Nat → Bool), r ≤ N + 1 ∧ t7 = .int .i64 (r : Int) ∧ Hid (FarAt wx wa.heap.size N (.slice (some ⟨fo, 0, none⟩) N c) G F) ∧ Hid (X8.InvP K D F r 0 0) ∧ Hid (Touch G w5 wx)) (fun t7 _ _ _ _ => N + 1 - (RowKit.intOf t7).toNat)
   case atStart => exact ⟨0, fun _ _ => false, Nat.zero_le _, rfl, HF5, hid (X8.InvP.none_ K D), HT5⟩
   case round =>
    clear HF5 HT5
    obtain ⟨r, F, hr, rfl, HF, HI, HT⟩ := hrel
    by_cases hlr : r ≤ N
    ·have h2 : (r : Int) ≤ (n : Int) + 1 := by have := HNI.out; omega
     go_wp2_with fail
     go_loopw [8, 9, 10] (fun t8 t9 t10 wx => ∃ (i : Nat) (F : Nat → Nat → Bool), i ≤ N ∧ t8 = .int .i64 (i : Int) ∧ Hid (FarAt wx wa.heap.size N (.slice (some ⟨fo, 0, none⟩) N c) G F) ∧ Hid (X8.InvP K D F r i 0) ∧ Hid (Touch G w5 wx)) (fun t8 _ _ _ => N - (RowKit.intOf t8).toNat)
     case atStart => exact ⟨0, F, Nat.zero_le _, rfl, HF, HI, HT⟩
     case round =>
      clear HF HI HT
      obtain ⟨i, F, hi, rfl, HF, HI, HT⟩ := hrel
      by_cases hli : i < N
      ·have h3 : (i : Int) ≤ (n : Int) := by have := HNI.out; omega
       go_wp2_with fail
       go_loopw [9, 10] (fun t9 t10 wx => ∃ (k : Nat) (F : Nat → Nat → Bool), k ≤ N ∧ t9 = .int .i64 (k : Int) ∧ Hid (FarAt wx wa.heap.size N (.slice (some ⟨fo, 0, none⟩) N c) G F) ∧ Hid (X8.InvP K D F r i k) ∧ Hid (Touch G w5 wx)) (fun t9 _ _ => N - (RowKit.intOf t9).toNat)
       case atStart => exact ⟨0, F, Nat.zero_le _, rfl, HF, HI, HT⟩
       case round =>
        clear HF HI HT
        obtain ⟨k, F, hk, rfl, HF, HI, HT⟩ := hrel
        by_cases hlk : k < N
        ·have h4 : (k : Int) ≤ (n : Int) := by have := HNI.out; omega
         have i0 : (0 : Int) ≤ (i : Int) := by omega
         have i1 : (i : Int) < (N : Int) := by omega
         have k0 : (0 : Int) ≤ (k : Int) := by omega
         have k1 : (k : Int) < (N : Int) := by omega
         obtain ⟨_, _, _, htx⟩ := HKEEP.out wr HT.out
         obtain ⟨ci, htb⟩ := own_cellF htx hli (x := .int .u64 (X8.tau8 D i : Int)) (by rw [List.getElem?_map, X8.tau_get HOK.out (by rw [HNN.out, HN.out]; exact hli)]; rfl)
         obtain ⟨ck, _⟩ := own_cellF htx hlk (x := .int .u64 (X8.tau8 D k : Int)) (by rw [List.getElem?_map, X8.tau_get HOK.out (by rw [HNN.out, HN.out]; exact hlk)]; rfl)
         obtain ⟨ti, hti⟩ : ∃ t, X8.tau8 D i = t := ⟨_, rfl⟩
         obtain ⟨tk, htk⟩ : ∃ t, X8.tau8 D k = t := ⟨_, rfl⟩
         rw [hti] at ci
         rw [htk] at ck
         have HS0 := hid (fun (w' : World) (h : Below wr.heap.size wr w') => cell_bel h htb ci)
         have HS1 := hid (fun (w' : World) (h : Below wr.heap.size wr w') => cell_bel h htb ck)
         have HTE := hid (And.intro hti htk)
         clear htx ci ck htb hti htk
         go_wp2_with fail
         refine wp_region_below (by kernel_rfl) (by kernel_rfl) ?_
         repeat (first
                   | (refine BigFrame.wpQuiet_skip (by rfl) ?_; try simp only [Act.put, List.setIfInBounds_toArray, List.set_cons_zero, List.set_cons_succ])
                   | (refine BigFrame.wpQuiet_want (by rfl) (fun K hK => ?_)
                      apply Exists.intro
                      refine ⟨fun w' hC => ?_, hK _ ?_⟩
                      · first
                         | (have f0' := HS0.out w' hC
                            have f1' := HS1.out w' hC
                            unfold Oper.quietAt
                            go_simp
                            first
                              | with_reducible rfl
                              | done)
                      clear hK K
                      try simp only [Act.put, List.setIfInBounds_toArray, List.set_cons_zero, List.set_cons_succ]))
         refine wpQuiet_nil ?_
         intro w6 hb6
         have HF6 := hid (HF.out.below hb6)
         have HT6 := hid (HT.out.trans ((Touch.below hb6).mono (by simp)))
         clear hb6 HF HT HS0 HS1
         by_cases hte : ti = tk
         ·have t0 : ((ti : Int) != (tk : Int)) = false := by simp [hte]
          have t1 : ((ti : Int) == (tk : Int)) = true := by simp [hte]
          have HIC := hid (HI.out.tagEq (by rw [HTE.out.1, HTE.out.2]; exact hte))
          have HF7 := HF6
          have HT7 := HT6
          rw [t0]
          clear HF6 HT6 HI hte
          go_wp2_with fail
          go_loopw [10] (fun t10 wx => ∃ (e : Nat) (F : Nat → Nat → Bool), e ≤ K ∧ t10 = .int .i64 (e : Int) ∧ Hid (FarAt wx wa.heap.size N (.slice (some ⟨fo, 0, none⟩) N c) G F) ∧ Hid (X8.InvC K D F r i k e) ∧ Hid (Touch G w5 wx)) (fun t10 _ => K - (RowKit.intOf t10).toNat)
          case atStart => exact ⟨0, _, Nat.zero_le _, rfl, HF7, HIC, HT7⟩
          case round =>
           clear HF7 HIC HT7
           obtain ⟨e, F, he, rfl, HF, HI, HT⟩ := hrel
           obtain ⟨hbx, hlx, hxx, _⟩ := HKEEP.out wr HT.out
           have hsx := hlx.sz
           have HLX := hid hlx
           have HXX := hid hxx
           obtain ⟨nv, tv, hdv, hda⟩ := hlx
           obtain ⟨rb, roff, ro, rc, nrc, hnv, hrb, crow, _⟩ := rowsAt_get hda.rows (i := 0) (rowOf_get (by rw [HNN.out]; exact hpos))
           subst hnv
           rw [HRK.out, Nat.add_zero] at crow
           have c256 : wr.cell? ⟨w.heap.size, 256, none⟩ = some (.slice (some ⟨rb, roff, none⟩) n nrc) := by rw [Lib.cell_of_heap hxx, hdv, dcell_next hda.len, HNN.out]
           have n0 : (0 : Int) < (n : Int) := by omega
           have n1 : 0 < n := hpos
           obtain ⟨fb, cfo, hGi, hfB, hfb, hfo, cfb, ffb⟩ := HF.out.cell (i := i) (by rw [HGN.out]; exact hli)
           have cfk := cfb k hlk
           have ffk := ffb k
           have HGI := hid hGi
           have HFB := hid (And.intro hfb hfo)
           clear hbx hxx hda hdv hGi hfB hfb hfo cfb ffb hrb hsx
           have e0 : (0 : Int) ≤ (e : Int) := by omega
           by_cases hce : e < K
           ·have g1 : (e : Int) < (K : Int) := by omega
            have g2 : decide ((e : Int) < (K : Int)) = true := decide_eq_true g1
            obtain ⟨x, hx⟩ : ∃ x, F i k = x := ⟨_, rfl⟩
            rw [hx] at cfk
            cases x with
            | true =>
             have HD := hid (HI.out.done (.inr hx))
             clear hx HI
             go_wp2_with fail
             refine ⟨⟨k + 1, F, by omega, rfl, HF, HD, HT⟩, ?_⟩
             show N - ((k : Int) + 1).toNat < N - ((k : Int)).toNat
             omega
            | false =>
             obtain ⟨p, hp⟩ : ∃ p, X8.to8 D i e = p := ⟨_, rfl⟩
             obtain ⟨q, hq⟩ : ∃ q, X8.to8 D k e = q := ⟨_, rfl⟩
             have hpl : p < N := by rw [← hp, ← HN.out, ← HNN.out]; exact (X8.to8_ok HOK.out i e).2
             have hql : q < N := by rw [← hq, ← HN.out, ← HNN.out]; exact (X8.to8_ok HOK.out k e).2
             have HST := HI.out.step HOK.out hce hx
             rw [hp, hq] at HST
             have HST := hid HST
             have p0 : (0 : Int) ≤ (p : Int) := by omega
             have p1 : (p : Int) < (N : Int) := by omega
             have q0 : (0 : Int) ≤ (q : Int) := by omega
             have q1 : (q : Int) < (N : Int) := by omega
             obtain ⟨fp, cfp, _, _, hfp, _, cfq, _⟩ := HF.out.cell (i := p) (by rw [HGN.out]; exact hpl)
             have cfq := cfq q hql
             obtain ⟨y, hy⟩ : ∃ y, F p q = y := ⟨_, rfl⟩
             rw [hy] at cfq HST
             obtain ⟨we, ewe⟩ : ∃ we, wr.drew = we := ⟨_, rfl⟩
             have hbe : Below wr.heap.size wr we := by rw [← ewe]; exact (Below.refl _ _).drew
             have hblk := (Array.getElem?_eq_some_iff.1 HXX.out).1
             have hS : ∀ w', Below wr.heap.size wr w' → w'.heap[w.heap.size]? = some (.cells dd 34 (0, 0)) ∧ w'.cell? ⟨fo, i, none⟩ = some (.slice (some ⟨fb, 0, none⟩) N N) ∧ w'.cell? ⟨fo, p, none⟩ = some (.slice (some ⟨fp, 0, none⟩) N N) ∧ w'.cell? ⟨fp, q, none⟩ = some (.bool y) := fun w' h => ⟨(h.block _ hblk).trans HXX.out, cell_bel h HFB.out.2 cfo, cell_bel h HFB.out.2 cfp, cell_bel h hfp cfq⟩
             have HS := hid hS
             have HH0 := hS we hbe
             have HBE := hid hbe
             have HCK := hid (And.intro cfk ffk)
             have hleE := hbe.size
             have KA := hid (fun (x : World) (hx : Below wr.heap.size wr x) => toR_any (HLX.out.below hx) HOK.out i e hce)
             have KB := hid (fun (x : World) (hx : Below wr.heap.size wr x) => toR_any (HLX.out.below hx) HOK.out k e hce)
             rw [hp] at KA
             rw [hq] at KB
             clear hp hq hS hbe hblk cfp hfp cfq HI hy hx
             go_wp2_with fail
             refine region_T 19 (fun w' => w'.heap[w.heap.size]? = some (.cells dd 34 (0, 0)) ∧ w'.cell? ⟨fo, i, none⟩ = some (.slice (some ⟨fb, 0, none⟩) N N) ∧ w'.cell? ⟨fo, p, none⟩ = some (.slice (some ⟨fp, 0, none⟩) N N) ∧ w'.cell? ⟨fp, q, none⟩ = some (.bool y)) (by kernel_rfl) (by rw [ewe]; exact HH0) (fun inv hHeld => ?_)
             rw [ewe]
             clear hHeld ewe cfo cfk ffk crow c256
             refine anyT_take (i := 0) (oi := { dst := some 77, op := Go.Op.move (Go.Operand.tmp 4), type := 32, pos := "ref.go:49", after := #[], guard := none }) (v := ?_) rfl (by kernel_rfl) (by kernel_rfl) (by kernel_rfl) (by decide) (by decide) (by kernel_rfl) (by kernel_rfl) (fun _ _ _ h => h) (Or.inl ⟨by rfl, ?_⟩) HH0 inv (fun inv => ?_)
             rotate_left
             ·intro w hSw
              try dsimp only at hSw
              go_simp
              try with_reducible rfl
             simp only [Act.put, List.setIfInBounds_toArray, List.set_cons_zero, List.set_cons_succ]
             refine anyT_take (i := 1) (oi := { dst := some 78, op := Go.Op.move (Go.Operand.tmp 8), type := 3, pos := "ref.go:49", after := #[], guard := none }) (v := ?_) rfl (by kernel_rfl) (by kernel_rfl) (by kernel_rfl) (by decide) (by decide) (by kernel_rfl) (by kernel_rfl) (fun _ _ _ h => h) (Or.inl ⟨by rfl, ?_⟩) HH0 inv (fun inv => ?_)
             rotate_left
             ·intro w hSw
              try dsimp only at hSw
              go_simp
              try with_reducible rfl
             simp only [Act.put, List.setIfInBounds_toArray, List.set_cons_zero, List.set_cons_succ]
             refine anyT_take (i := 2) (oi := { dst := some 79, op := Go.Op.indexAddr 32 (Go.Operand.tmp 77) (Go.Operand.tmp 78), type := 0, pos := "ref.go:49", after := #[{ on := 0, ground := Go.Ground.data }, { on := 1, ground := Go.Ground.data }], guard := none }) (v := ?_) rfl (by kernel_rfl) (by kernel_rfl) (by kernel_rfl) (by decide) (by decide) (by kernel_rfl) (by kernel_rfl) (fun _ _ _ h => h) (Or.inl ⟨by rfl, ?_⟩) HH0 inv (fun inv => ?_)
             rotate_left
             ·intro w hSw
              try dsimp only at hSw
              go_simp
              try with_reducible rfl
             simp only [Act.put, List.setIfInBounds_toArray, List.set_cons_zero, List.set_cons_succ]
             refine anyT_take (i := 3) (oi := { dst := some 80, op := Go.Op.load 37 (Go.Operand.tmp 79), type := 37, pos := "ref.go:49", after := #[{ on := 2, ground := Go.Ground.data }], guard := none }) (v := ?_) rfl (by kernel_rfl) (by kernel_rfl) (by kernel_rfl) (by decide) (by decide) (by kernel_rfl) (by kernel_rfl) (fun _ _ _ h => h) (Or.inl ⟨by rfl, ?_⟩) HH0 inv (fun inv => ?_)
             rotate_left
             ·intro w hSw
              try dsimp only at hSw
              go_simp
              try with_reducible rfl
             simp only [Act.put, List.setIfInBounds_toArray, List.set_cons_zero, List.set_cons_succ]
             refine anyT_take (i := 4) (oi := { dst := some 81, op := Go.Op.move (Go.Operand.tmp 9), type := 3, pos := "ref.go:49", after := #[], guard := none }) (v := ?_) rfl (by kernel_rfl) (by kernel_rfl) (by kernel_rfl) (by decide) (by decide) (by kernel_rfl) (by kernel_rfl) (fun _ _ _ h => h) (Or.inl ⟨by rfl, ?_⟩) HH0 inv (fun inv => ?_)
             rotate_left
             ·intro w hSw
              try dsimp only at hSw
              go_simp
              try with_reducible rfl
             simp only [Act.put, List.setIfInBounds_toArray, List.set_cons_zero, List.set_cons_succ]
             refine anyT_take (i := 5) (oi := { dst := some 82, op := Go.Op.move (Go.Operand.tmp 4), type := 32, pos := "ref.go:49", after := #[], guard := none }) (v := ?_) rfl (by kernel_rfl) (by kernel_rfl) (by kernel_rfl) (by decide) (by decide) (by kernel_rfl) (by kernel_rfl) (fun _ _ _ h => h) (Or.inl ⟨by rfl, ?_⟩) HH0 inv (fun inv => ?_)
             rotate_left
             ·intro w hSw
              try dsimp only at hSw
              go_simp
              try with_reducible rfl
             simp only [Act.put, List.setIfInBounds_toArray, List.set_cons_zero, List.set_cons_succ]
             refine anyT_take (i := 6) (oi := { dst := some 83, op := Go.Op.load 34 (Go.Operand.tmp 1), type := 34, pos := "ref.go:49", after := #[], guard := none }) (v := .agg dd) rfl (by kernel_rfl) (by kernel_rfl) (by kernel_rfl) (by decide) (by decide) (by kernel_rfl) (by kernel_rfl) (fun _ _ _ h => h) (Or.inl ⟨by rfl, fun w' hSw => exec_load34 (.tmp 1) rfl w.heap.size rfl dd hSw.1 HSZ.out.1⟩) HH0 inv (fun inv => ?_)
             simp only [Act.put, List.setIfInBounds_toArray, List.set_cons_zero, List.set_cons_succ]
             refine anyT_take (i := 7) (oi := { dst := some 84, op := Go.Op.move (Go.Operand.tmp 8), type := 3, pos := "ref.go:49", after := #[], guard := none }) (v := ?_) rfl (by kernel_rfl) (by kernel_rfl) (by kernel_rfl) (by decide) (by decide) (by kernel_rfl) (by kernel_rfl) (fun _ _ _ h => h) (Or.inl ⟨by rfl, ?_⟩) HH0 inv (fun inv => ?_)
             rotate_left
             ·intro w hSw
              try dsimp only at hSw
              go_simp
              try with_reducible rfl
             simp only [Act.put, List.setIfInBounds_toArray, List.set_cons_zero, List.set_cons_succ]
             refine anyT_take (i := 8) (oi := { dst := some 85, op := Go.Op.move (Go.Operand.tmp 10), type := 3, pos := "ref.go:49", after := #[], guard := none }) (v := ?_) rfl (by kernel_rfl) (by kernel_rfl) (by kernel_rfl) (by decide) (by decide) (by kernel_rfl) (by kernel_rfl) (fun _ _ _ h => h) (Or.inl ⟨by rfl, ?_⟩) HH0 inv (fun inv => ?_)
             rotate_left
             ·intro w hSw
              try dsimp only at hSw
              go_simp
              try with_reducible rfl
             simp only [Act.put, List.setIfInBounds_toArray, List.set_cons_zero, List.set_cons_succ]
             refine anyT_take (i := 12) (oi := { dst := some 89, op := Go.Op.load 34 (Go.Operand.tmp 1), type := 34, pos := "ref.go:49", after := #[], guard := none }) (v := .agg dd) rfl (by kernel_rfl) (by kernel_rfl) (by kernel_rfl) (by decide) (by decide) (by kernel_rfl) (by kernel_rfl) (fun _ _ _ h => h) (Or.inl ⟨by rfl, fun w' hSw => exec_load34 (.tmp 1) rfl w.heap.size rfl dd hSw.1 HSZ.out.1⟩) HH0 inv (fun inv => ?_)
             simp only [Act.put, List.setIfInBounds_toArray, List.set_cons_zero, List.set_cons_succ]
             refine anyT_take (i := 13) (oi := { dst := some 90, op := Go.Op.move (Go.Operand.tmp 9), type := 3, pos := "ref.go:49", after := #[], guard := none }) (v := ?_) rfl (by kernel_rfl) (by kernel_rfl) (by kernel_rfl) (by decide) (by decide) (by kernel_rfl) (by kernel_rfl) (fun _ _ _ h => h) (Or.inl ⟨by rfl, ?_⟩) HH0 inv (fun inv => ?_)
             rotate_left
             ·intro w hSw
              try dsimp only at hSw
              go_simp
              try with_reducible rfl
             simp only [Act.put, List.setIfInBounds_toArray, List.set_cons_zero, List.set_cons_succ]
             refine anyT_take (i := 14) (oi := { dst := some 91, op := Go.Op.move (Go.Operand.tmp 10), type := 3, pos := "ref.go:49", after := #[], guard := none }) (v := ?_) rfl (by kernel_rfl) (by kernel_rfl) (by kernel_rfl) (by decide) (by decide) (by kernel_rfl) (by kernel_rfl) (fun _ _ _ h => h) (Or.inl ⟨by rfl, ?_⟩) HH0 inv (fun inv => ?_)
             rotate_left
             ·intro w hSw
              try dsimp only at hSw
              go_simp
              try with_reducible rfl
             simp only [Act.put, List.setIfInBounds_toArray, List.set_cons_zero, List.set_cons_succ]
             refine anyT_next (i := 9) (o := { dst := some 86, op := Go.Op.call { callee := Go.Callee.value (Go.Operand.func 46), args := #[Go.Operand.tmp 83, Go.Operand.tmp 84, Go.Operand.tmp 85], argTypes := #[34, 3, 3] }, type := 3, pos := "ref.go:49", after := #[{ on := 6, ground := Go.Ground.data }, { on := 7, ground := Go.Ground.data }, { on := 8, ground := Go.Ground.data }], guard := none }) (by kernel_rfl) rfl (by decide) inv (fun inv K' hK => ?_)
             go_simp
             refine (KA.out we HBE.out).mono ?_
             rintro e1 w6 ⟨rfl, hb6⟩
             have HB6 := hid (HBE.out.trans (hb6.mono hleE))
             have HH1 := HS.out w6 HB6.out
             have hle6 := HB6.out.size
             refine hK.out _ _ HH1 ?_
             clear hK K' HH0 hb6
             try simp only [Act.put, List.setIfInBounds_toArray, List.set_cons_zero, List.set_cons_succ]
             refine anyT_take (i := 10) (oi := { dst := some 87, op := Go.Op.indexAddr 32 (Go.Operand.tmp 82) (Go.Operand.tmp 86), type := 0, pos := "ref.go:49", after := #[{ on := 5, ground := Go.Ground.data }, { on := 9, ground := Go.Ground.data }], guard := none }) (v := ?_) rfl (by kernel_rfl) (by kernel_rfl) (by kernel_rfl) (by decide) (by decide) (by kernel_rfl) (by kernel_rfl) (fun _ _ _ h => h) (Or.inl ⟨by rfl, ?_⟩) HH1 inv (fun inv => ?_)
             rotate_left
             ·intro w hSw
              try dsimp only at hSw
              go_simp
              try with_reducible rfl
             simp only [Act.put, List.setIfInBounds_toArray, List.set_cons_zero, List.set_cons_succ]
             refine anyT_take (i := 11) (oi := { dst := some 88, op := Go.Op.load 37 (Go.Operand.tmp 87), type := 37, pos := "ref.go:49", after := #[{ on := 10, ground := Go.Ground.data }], guard := none }) (v := ?_) rfl (by kernel_rfl) (by kernel_rfl) (by kernel_rfl) (by decide) (by decide) (by kernel_rfl) (by kernel_rfl) (fun _ _ _ h => h) (Or.inl ⟨by rfl, ?_⟩) HH1 inv (fun inv => ?_)
             rotate_left
             ·intro w hSw
              try dsimp only at hSw
              go_simp
              try with_reducible rfl
             simp only [Act.put, List.setIfInBounds_toArray, List.set_cons_zero, List.set_cons_succ]
             refine anyT_next (i := 15) (o := { dst := some 92, op := Go.Op.call { callee := Go.Callee.value (Go.Operand.func 46), args := #[Go.Operand.tmp 89, Go.Operand.tmp 90, Go.Operand.tmp 91], argTypes := #[34, 3, 3] }, type := 3, pos := "ref.go:49", after := #[{ on := 12, ground := Go.Ground.data }, { on := 13, ground := Go.Ground.data }, { on := 14, ground := Go.Ground.data }, { on := 9, ground := Go.Ground.chain }], guard := none }) (by kernel_rfl) rfl (by decide) inv (fun inv K' hK => ?_)
             go_simp
             refine (KB.out w6 HB6.out).mono ?_
             rintro e1 w7 ⟨rfl, hb7⟩
             have HB7 := hid (HB6.out.trans (hb7.mono hle6))
             have HH2 := HS.out w7 HB7.out
             refine hK.out _ _ HH2 ?_
             clear hK K' HH1 hb7
             try simp only [Act.put, List.setIfInBounds_toArray, List.set_cons_zero, List.set_cons_succ]
             refine anyT_take (i := 16) (oi := { dst := some 93, op := Go.Op.indexAddr 37 (Go.Operand.tmp 88) (Go.Operand.tmp 92), type := 0, pos := "ref.go:49", after := #[{ on := 11, ground := Go.Ground.data }, { on := 15, ground := Go.Ground.data }], guard := none }) (v := ?_) rfl (by kernel_rfl) (by kernel_rfl) (by kernel_rfl) (by decide) (by decide) (by kernel_rfl) (by kernel_rfl) (fun _ _ _ h => h) (Or.inl ⟨by rfl, ?_⟩) HH2 inv (fun inv => ?_)
             rotate_left
             ·intro w hSw
              try dsimp only at hSw
              go_simp
              try with_reducible rfl
             simp only [Act.put, List.setIfInBounds_toArray, List.set_cons_zero, List.set_cons_succ]
             refine anyT_take (i := 17) (oi := { dst := some 94, op := Go.Op.load 4 (Go.Operand.tmp 93), type := 4, pos := "ref.go:49", after := #[{ on := 16, ground := Go.Ground.data }], guard := none }) (v := ?_) rfl (by kernel_rfl) (by kernel_rfl) (by kernel_rfl) (by decide) (by decide) (by kernel_rfl) (by kernel_rfl) (fun _ _ _ h => h) (Or.inl ⟨by rfl, ?_⟩) HH2 inv (fun inv => ?_)
             rotate_left
             ·intro w hSw
              try dsimp only at hSw
              go_simp
              try with_reducible rfl
             simp only [Act.put, List.setIfInBounds_toArray, List.set_cons_zero, List.set_cons_succ]
             refine anyT_take (i := 18) (oi := { dst := some 95, op := Go.Op.indexAddr 37 (Go.Operand.tmp 80) (Go.Operand.tmp 81), type := 0, pos := "ref.go:49", after := #[{ on := 3, ground := Go.Ground.data }, { on := 4, ground := Go.Ground.data }, { on := 0, ground := Go.Ground.phase }, { on := 1, ground := Go.Ground.phase }, { on := 2, ground := Go.Ground.phase }, { on := 3, ground := Go.Ground.phase }, { on := 4, ground := Go.Ground.phase }, { on := 5, ground := Go.Ground.phase }, { on := 6, ground := Go.Ground.phase }, { on := 7, ground := Go.Ground.phase }, { on := 8, ground := Go.Ground.phase }, { on := 9, ground := Go.Ground.phase }, { on := 10, ground := Go.Ground.phase }, { on := 11, ground := Go.Ground.phase }, { on := 12, ground := Go.Ground.phase }, { on := 13, ground := Go.Ground.phase }, { on := 14, ground := Go.Ground.phase }, { on := 15, ground := Go.Ground.phase }, { on := 16, ground := Go.Ground.phase }, { on := 17, ground := Go.Ground.phase }], guard := none }) (v := ?_) rfl (by kernel_rfl) (by kernel_rfl) (by kernel_rfl) (by decide) (by decide) (by kernel_rfl) (by kernel_rfl) (fun _ _ _ h => h) (Or.inl ⟨by rfl, ?_⟩) HH2 inv (fun inv => ?_)
             rotate_left
             ·intro w hSw
              try dsimp only at hSw
              go_simp
              try with_reducible rfl
             simp only [Act.put, List.setIfInBounds_toArray, List.set_cons_zero, List.set_cons_succ]
             have s1 := cell_bel HB7.out HFB.out.1 HCK.out.1
             have s2 : w7.frozen? ⟨fb, k, none⟩ = false := (World.frozen?_of_block (a := ⟨fb, k, none⟩) (HB7.out.block fb HFB.out.1)).trans HCK.out.2
             obtain ⟨w8, e8⟩ : ∃ w8, w7.setCell ⟨fb, k, none⟩ (.bool y) = w8 := ⟨_, rfl⟩
             have HF8 := hid (show FarAt w8 wa.heap.size N (.slice (some ⟨fo, 0, none⟩) N c) G (setF F i k y) from by rw [← e8]; exact (HF.out.below HB7.out).set HGI.out y)
             have HT8 := hid (show Touch G w5 w8 from by
              rw [← e8]
              exact (HT.out.trans ((Touch.below HB7.out).mono (by simp))).trans ((Touch.set w7 fb k (.bool y)).mono (fun g hg => by rw [List.mem_singleton.1 hg]; exact List.mem_of_getElem? HGI.out)))
             refine anyT_one (i := 19) (o := { dst := none, op := Go.Op.store 4 (Go.Operand.tmp 95) (Go.Operand.tmp 94), type := 0, pos := "ref.go:49", after := #[{ on := 18, ground := Go.Ground.data }, { on := 17, ground := Go.Ground.data }, { on := 15, ground := Go.Ground.chain }, { on := 0, ground := Go.Ground.phase }, { on := 1, ground := Go.Ground.phase }, { on := 2, ground := Go.Ground.phase }, { on := 3, ground := Go.Ground.phase }, { on := 4, ground := Go.Ground.phase }, { on := 5, ground := Go.Ground.phase }, { on := 6, ground := Go.Ground.phase }, { on := 7, ground := Go.Ground.phase }, { on := 8, ground := Go.Ground.phase }, { on := 9, ground := Go.Ground.phase }, { on := 10, ground := Go.Ground.phase }, { on := 11, ground := Go.Ground.phase }, { on := 12, ground := Go.Ground.phase }, { on := 13, ground := Go.Ground.phase }, { on := 14, ground := Go.Ground.phase }, { on := 15, ground := Go.Ground.phase }, { on := 16, ground := Go.Ground.phase }, { on := 17, ground := Go.Ground.phase }], guard := none }) (by kernel_rfl) rfl (fun K' hK => ?_)
             go_simp
             refine hK.out _ _ (fun h => absurd h (by decide)) ?_
             clear hK K'
             try simp only [Act.put, List.setIfInBounds_toArray, List.set_cons_zero, List.set_cons_succ]
             refine anyT_done (by kernel_rfl) ?_ _
             try rw [e8]
             clear e8 s1 s2 HH2
             go_wp2_with fail
             refine ⟨⟨e + 1, setF F i k y, by omega, rfl, HF8, HST, HT8⟩, ?_⟩
             show K - ((e : Int) + 1).toNat < K - ((e : Int)).toNat
             omega
           ·have g1 : ¬ (e : Int) < (K : Int) := by omega
            have g2 : decide ((e : Int) < (K : Int)) = false := decide_eq_false g1
            have HD := hid (HI.out.done (.inl (by omega)))
            clear HI
            go_wp2_with fail
            refine ⟨⟨k + 1, F, by omega, rfl, HF, HD, HT⟩, ?_⟩
            show N - ((k : Int) + 1).toNat < N - ((k : Int)).toNat
            omega
         ·have t0 : ((ti : Int) != (tk : Int)) = true := by simp; omega
          have t1 : ((ti : Int) == (tk : Int)) = false := by rw [beq_eq_false_iff_ne]; omega
          have HIC := hid (HI.out.tagNe (by rw [HTE.out.1, HTE.out.2]; exact hte))
          obtain ⟨fb, cfo, hGi, hfB, hfb, hfo, cfb, ffb⟩ := HF6.out.cell (i := i) (by rw [HGN.out]; exact hli)
          have cfk := cfb k hlk
          have ffk := ffb k
          obtain ⟨x, hx⟩ : ∃ x, F i k = x := ⟨_, rfl⟩
          rw [hx] at cfk
          obtain ⟨w7, e7⟩ : ∃ w7, w6.setCell ⟨fb, k, none⟩ (.bool true) = w7 := ⟨_, rfl⟩
          have HF7 := hid (show FarAt w7 wa.heap.size N (.slice (some ⟨fo, 0, none⟩) N c) G (setF F i k true) from by rw [← e7]; exact HF6.out.set hGi true)
          have HT7 := hid (show Touch G w5 w7 from by
           rw [← e7]
           exact HT6.out.trans ((Touch.set w6 fb k (.bool true)).mono (fun g hg => by rw [List.mem_singleton.1 hg]; exact List.mem_of_getElem? hGi)))
          have hne : ¬ (ti : Int) = (tk : Int) := by omega
          rw [t0]
          clear HF6 HT6 HI hGi hfB hfb hfo cfb ffb hx hte
          go_wp2_with fail
          try rw [e7]
          clear e7 cfo cfk ffk
          go_loopw [10] (fun t10 wx => ∃ (e : Nat) (F : Nat → Nat → Bool), e ≤ K ∧ t10 = .int .i64 (e : Int) ∧ Hid (FarAt wx wa.heap.size N (.slice (some ⟨fo, 0, none⟩) N c) G F) ∧ Hid (X8.InvC K D F r i k e) ∧ Hid (Touch G w5 wx)) (fun t10 _ => K - (RowKit.intOf t10).toNat)
          case atStart => exact ⟨0, _, Nat.zero_le _, rfl, HF7, HIC, HT7⟩
          case round =>
           clear HF7 HIC HT7
           obtain ⟨e, F, he, rfl, HF, HI, HT⟩ := hrel
           obtain ⟨hbx, hlx, hxx, _⟩ := HKEEP.out wr HT.out
           have hsx := hlx.sz
           have HLX := hid hlx
           have HXX := hid hxx
           obtain ⟨nv, tv, hdv, hda⟩ := hlx
           obtain ⟨rb, roff, ro, rc, nrc, hnv, hrb, crow, _⟩ := rowsAt_get hda.rows (i := 0) (rowOf_get (by rw [HNN.out]; exact hpos))
           subst hnv
           rw [HRK.out, Nat.add_zero] at crow
           have c256 : wr.cell? ⟨w.heap.size, 256, none⟩ = some (.slice (some ⟨rb, roff, none⟩) n nrc) := by rw [Lib.cell_of_heap hxx, hdv, dcell_next hda.len, HNN.out]
           have n0 : (0 : Int) < (n : Int) := by omega
           have n1 : 0 < n := hpos
           obtain ⟨fb, cfo, hGi, hfB, hfb, hfo, cfb, ffb⟩ := HF.out.cell (i := i) (by rw [HGN.out]; exact hli)
           have cfk := cfb k hlk
           have ffk := ffb k
           have HGI := hid hGi
           have HFB := hid (And.intro hfb hfo)
           clear hbx hxx hda hdv hGi hfB hfb hfo cfb ffb hrb hsx
           have e0 : (0 : Int) ≤ (e : Int) := by omega
           by_cases hce : e < K
           ·have g1 : (e : Int) < (K : Int) := by omega
            have g2 : decide ((e : Int) < (K : Int)) = true := decide_eq_true g1
            obtain ⟨x, hx⟩ : ∃ x, F i k = x := ⟨_, rfl⟩
            rw [hx] at cfk
            cases x with
            | true =>
             have HD := hid (HI.out.done (.inr hx))
             clear hx HI
             go_wp2_with fail
             refine ⟨⟨k + 1, F, by omega, rfl, HF, HD, HT⟩, ?_⟩
             show N - ((k : Int) + 1).toNat < N - ((k : Int)).toNat
             omega
            | false =>
             obtain ⟨p, hp⟩ : ∃ p, X8.to8 D i e = p := ⟨_, rfl⟩
             obtain ⟨q, hq⟩ : ∃ q, X8.to8 D k e = q := ⟨_, rfl⟩
             have hpl : p < N := by rw [← hp, ← HN.out, ← HNN.out]; exact (X8.to8_ok HOK.out i e).2
             have hql : q < N := by rw [← hq, ← HN.out, ← HNN.out]; exact (X8.to8_ok HOK.out k e).2
             have HST := HI.out.step HOK.out hce hx
             rw [hp, hq] at HST
             have HST := hid HST
             have p0 : (0 : Int) ≤ (p : Int) := by omega
             have p1 : (p : Int) < (N : Int) := by omega
             have q0 : (0 : Int) ≤ (q : Int) := by omega
             have q1 : (q : Int) < (N : Int) := by omega
             obtain ⟨fp, cfp, _, _, hfp, _, cfq, _⟩ := HF.out.cell (i := p) (by rw [HGN.out]; exact hpl)
             have cfq := cfq q hql
             obtain ⟨y, hy⟩ : ∃ y, F p q = y := ⟨_, rfl⟩
             rw [hy] at cfq HST
             obtain ⟨we, ewe⟩ : ∃ we, wr.drew = we := ⟨_, rfl⟩
             have hbe : Below wr.heap.size wr we := by rw [← ewe]; exact (Below.refl _ _).drew
             have hblk := (Array.getElem?_eq_some_iff.1 HXX.out).1
             have hS : ∀ w', Below wr.heap.size wr w' → w'.heap[w.heap.size]? = some (.cells dd 34 (0, 0)) ∧ w'.cell? ⟨fo, i, none⟩ = some (.slice (some ⟨fb, 0, none⟩) N N) ∧ w'.cell? ⟨fo, p, none⟩ = some (.slice (some ⟨fp, 0, none⟩) N N) ∧ w'.cell? ⟨fp, q, none⟩ = some (.bool y) := fun w' h => ⟨(h.block _ hblk).trans HXX.out, cell_bel h HFB.out.2 cfo, cell_bel h HFB.out.2 cfp, cell_bel h hfp cfq⟩
             have HS := hid hS
             have HH0 := hS we hbe
             have HBE := hid hbe
             have HCK := hid (And.intro cfk ffk)
             have hleE := hbe.size
             have KA := hid (fun (x : World) (hx : Below wr.heap.size wr x) => toR_any (HLX.out.below hx) HOK.out i e hce)
             have KB := hid (fun (x : World) (hx : Below wr.heap.size wr x) => toR_any (HLX.out.below hx) HOK.out k e hce)
             rw [hp] at KA
             rw [hq] at KB
             clear hp hq hS hbe hblk cfp hfp cfq HI hy hx
             go_wp2_with fail
             refine region_T 19 (fun w' => w'.heap[w.heap.size]? = some (.cells dd 34 (0, 0)) ∧ w'.cell? ⟨fo, i, none⟩ = some (.slice (some ⟨fb, 0, none⟩) N N) ∧ w'.cell? ⟨fo, p, none⟩ = some (.slice (some ⟨fp, 0, none⟩) N N) ∧ w'.cell? ⟨fp, q, none⟩ = some (.bool y)) (by kernel_rfl) (by rw [ewe]; exact HH0) (fun inv hHeld => ?_)
             rw [ewe]
             clear hHeld ewe cfo cfk ffk crow c256
             refine anyT_take (i := 0) (oi := { dst := some 77, op := Go.Op.move (Go.Operand.tmp 4), type := 32, pos := "ref.go:49", after := #[], guard := none }) (v := ?_) rfl (by kernel_rfl) (by kernel_rfl) (by kernel_rfl) (by decide) (by decide) (by kernel_rfl) (by kernel_rfl) (fun _ _ _ h => h) (Or.inl ⟨by rfl, ?_⟩) HH0 inv (fun inv => ?_)
             rotate_left
             ·intro w hSw
              try dsimp only at hSw
              go_simp
              try with_reducible rfl
             simp only [Act.put, List.setIfInBounds_toArray, List.set_cons_zero, List.set_cons_succ]
             refine anyT_take (i := 1) (oi := { dst := some 78, op := Go.Op.move (Go.Operand.tmp 8), type := 3, pos := "ref.go:49", after := #[], guard := none }) (v := ?_) rfl (by kernel_rfl) (by kernel_rfl) (by kernel_rfl) (by decide) (by decide) (by kernel_rfl) (by kernel_rfl) (fun _ _ _ h => h) (Or.inl ⟨by rfl, ?_⟩) HH0 inv (fun inv => ?_)
             rotate_left
             ·intro w hSw
              try dsimp only at hSw
              go_simp
              try with_reducible rfl
             simp only [Act.put, List.setIfInBounds_toArray, List.set_cons_zero, List.set_cons_succ]
             refine anyT_take (i := 2) (oi := { dst := some 79, op := Go.Op.indexAddr 32 (Go.Operand.tmp 77) (Go.Operand.tmp 78), type := 0, pos := "ref.go:49", after := #[{ on := 0, ground := Go.Ground.data }, { on := 1, ground := Go.Ground.data }], guard := none }) (v := ?_) rfl (by kernel_rfl) (by kernel_rfl) (by kernel_rfl) (by decide) (by decide) (by kernel_rfl) (by kernel_rfl) (fun _ _ _ h => h) (Or.inl ⟨by rfl, ?_⟩) HH0 inv (fun inv => ?_)
             rotate_left
             ·intro w hSw
              try dsimp only at hSw
              go_simp
              try with_reducible rfl
             simp only [Act.put, List.setIfInBounds_toArray, List.set_cons_zero, List.set_cons_succ]
             refine anyT_take (i := 3) (oi := { dst := some 80, op := Go.Op.load 37 (Go.Operand.tmp 79), type := 37, pos := "ref.go:49", after := #[{ on := 2, ground := Go.Ground.data }], guard := none }) (v := ?_) rfl (by kernel_rfl) (by kernel_rfl) (by kernel_rfl) (by decide) (by decide) (by kernel_rfl) (by kernel_rfl) (fun _ _ _ h => h) (Or.inl ⟨by rfl, ?_⟩) HH0 inv (fun inv => ?_)
             rotate_left
             ·intro w hSw
              try dsimp only at hSw
              go_simp
              try with_reducible rfl
             simp only [Act.put, List.setIfInBounds_toArray, List.set_cons_zero, List.set_cons_succ]
             refine anyT_take (i := 4) (oi := { dst := some 81, op := Go.Op.move (Go.Operand.tmp 9), type := 3, pos := "ref.go:49", after := #[], guard := none }) (v := ?_) rfl (by kernel_rfl) (by kernel_rfl) (by kernel_rfl) (by decide) (by decide) (by kernel_rfl) (by kernel_rfl) (fun _ _ _ h => h) (Or.inl ⟨by rfl, ?_⟩) HH0 inv (fun inv => ?_)
             rotate_left
             ·intro w hSw
              try dsimp only at hSw
              go_simp
              try with_reducible rfl
             simp only [Act.put, List.setIfInBounds_toArray, List.set_cons_zero, List.set_cons_succ]
             refine anyT_take (i := 5) (oi := { dst := some 82, op := Go.Op.move (Go.Operand.tmp 4), type := 32, pos := "ref.go:49", after := #[], guard := none }) (v := ?_) rfl (by kernel_rfl) (by kernel_rfl) (by kernel_rfl) (by decide) (by decide) (by kernel_rfl) (by kernel_rfl) (fun _ _ _ h => h) (Or.inl ⟨by rfl, ?_⟩) HH0 inv (fun inv => ?_)
             rotate_left
             ·intro w hSw
              try dsimp only at hSw
              go_simp
              try with_reducible rfl
             simp only [Act.put, List.setIfInBounds_toArray, List.set_cons_zero, List.set_cons_succ]
             refine anyT_take (i := 6) (oi := { dst := some 83, op := Go.Op.load 34 (Go.Operand.tmp 1), type := 34, pos := "ref.go:49", after := #[], guard := none }) (v := .agg dd) rfl (by kernel_rfl) (by kernel_rfl) (by kernel_rfl) (by decide) (by decide) (by kernel_rfl) (by kernel_rfl) (fun _ _ _ h => h) (Or.inl ⟨by rfl, fun w' hSw => exec_load34 (.tmp 1) rfl w.heap.size rfl dd hSw.1 HSZ.out.1⟩) HH0 inv (fun inv => ?_)
             simp only [Act.put, List.setIfInBounds_toArray, List.set_cons_zero, List.set_cons_succ]
             refine anyT_take (i := 7) (oi := { dst := some 84, op := Go.Op.move (Go.Operand.tmp 8), type := 3, pos := "ref.go:49", after := #[], guard := none }) (v := ?_) rfl (by kernel_rfl) (by kernel_rfl) (by kernel_rfl) (by decide) (by decide) (by kernel_rfl) (by kernel_rfl) (fun _ _ _ h => h) (Or.inl ⟨by rfl, ?_⟩) HH0 inv (fun inv => ?_)
             rotate_left
             ·intro w hSw
              try dsimp only at hSw
              go_simp
              try with_reducible rfl
             simp only [Act.put, List.setIfInBounds_toArray, List.set_cons_zero, List.set_cons_succ]
             refine anyT_take (i := 8) (oi := { dst := some 85, op := Go.Op.move (Go.Operand.tmp 10), type := 3, pos := "ref.go:49", after := #[], guard := none }) (v := ?_) rfl (by kernel_rfl) (by kernel_rfl) (by kernel_rfl) (by decide) (by decide) (by kernel_rfl) (by kernel_rfl) (fun _ _ _ h => h) (Or.inl ⟨by rfl, ?_⟩) HH0 inv (fun inv => ?_)
             rotate_left
             ·intro w hSw
              try dsimp only at hSw
              go_simp
              try with_reducible rfl
             simp only [Act.put, List.setIfInBounds_toArray, List.set_cons_zero, List.set_cons_succ]
             refine anyT_take (i := 12) (oi := { dst := some 89, op := Go.Op.load 34 (Go.Operand.tmp 1), type := 34, pos := "ref.go:49", after := #[], guard := none }) (v := .agg dd) rfl (by kernel_rfl) (by kernel_rfl) (by kernel_rfl) (by decide) (by decide) (by kernel_rfl) (by kernel_rfl) (fun _ _ _ h => h) (Or.inl ⟨by rfl, fun w' hSw => exec_load34 (.tmp 1) rfl w.heap.size rfl dd hSw.1 HSZ.out.1⟩) HH0 inv (fun inv => ?_)
             simp only [Act.put, List.setIfInBounds_toArray, List.set_cons_zero, List.set_cons_succ]
             refine anyT_take (i := 13) (oi := { dst := some 90, op := Go.Op.move (Go.Operand.tmp 9), type := 3, pos := "ref.go:49", after := #[], guard := none }) (v := ?_) rfl (by kernel_rfl) (by kernel_rfl) (by kernel_rfl) (by decide) (by decide) (by kernel_rfl) (by kernel_rfl) (fun _ _ _ h => h) (Or.inl ⟨by rfl, ?_⟩) HH0 inv (fun inv => ?_)
             rotate_left
             ·intro w hSw
              try dsimp only at hSw
              go_simp
              try with_reducible rfl
             simp only [Act.put, List.setIfInBounds_toArray, List.set_cons_zero, List.set_cons_succ]
             refine anyT_take (i := 14) (oi := { dst := some 91, op := Go.Op.move (Go.Operand.tmp 10), type := 3, pos := "ref.go:49", after := #[], guard := none }) (v := ?_) rfl (by kernel_rfl) (by kernel_rfl) (by kernel_rfl) (by decide) (by decide) (by kernel_rfl) (by kernel_rfl) (fun _ _ _ h => h) (Or.inl ⟨by rfl, ?_⟩) HH0 inv (fun inv => ?_)
             rotate_left
             ·intro w hSw
              try dsimp only at hSw
              go_simp
              try with_reducible rfl
             simp only [Act.put, List.setIfInBounds_toArray, List.set_cons_zero, List.set_cons_succ]
             refine anyT_next (i := 9) (o := { dst := some 86, op := Go.Op.call { callee := Go.Callee.value (Go.Operand.func 46), args := #[Go.Operand.tmp 83, Go.Operand.tmp 84, Go.Operand.tmp 85], argTypes := #[34, 3, 3] }, type := 3, pos := "ref.go:49", after := #[{ on := 6, ground := Go.Ground.data }, { on := 7, ground := Go.Ground.data }, { on := 8, ground := Go.Ground.data }], guard := none }) (by kernel_rfl) rfl (by decide) inv (fun inv K' hK => ?_)
             go_simp
             refine (KA.out we HBE.out).mono ?_
             rintro e1 w6 ⟨rfl, hb6⟩
             have HB6 := hid (HBE.out.trans (hb6.mono hleE))
             have HH1 := HS.out w6 HB6.out
             have hle6 := HB6.out.size
             refine hK.out _ _ HH1 ?_
             clear hK K' HH0 hb6
             try simp only [Act.put, List.setIfInBounds_toArray, List.set_cons_zero, List.set_cons_succ]
             refine anyT_take (i := 10) (oi := { dst := some 87, op := Go.Op.indexAddr 32 (Go.Operand.tmp 82) (Go.Operand.tmp 86), type := 0, pos := "ref.go:49", after := #[{ on := 5, ground := Go.Ground.data }, { on := 9, ground := Go.Ground.data }], guard := none }) (v := ?_) rfl (by kernel_rfl) (by kernel_rfl) (by kernel_rfl) (by decide) (by decide) (by kernel_rfl) (by kernel_rfl) (fun _ _ _ h => h) (Or.inl ⟨by rfl, ?_⟩) HH1 inv (fun inv => ?_)
             rotate_left
             ·intro w hSw
              try dsimp only at hSw
              go_simp
              try with_reducible rfl
             simp only [Act.put, List.setIfInBounds_toArray, List.set_cons_zero, List.set_cons_succ]
             refine anyT_take (i := 11) (oi := { dst := some 88, op := Go.Op.load 37 (Go.Operand.tmp 87), type := 37, pos := "ref.go:49", after := #[{ on := 10, ground := Go.Ground.data }], guard := none }) (v := ?_) rfl (by kernel_rfl) (by kernel_rfl) (by kernel_rfl) (by decide) (by decide) (by kernel_rfl) (by kernel_rfl) (fun _ _ _ h => h) (Or.inl ⟨by rfl, ?_⟩) HH1 inv (fun inv => ?_)
             rotate_left
             ·intro w hSw
              try dsimp only at hSw
              go_simp
              try with_reducible rfl
             simp only [Act.put, List.setIfInBounds_toArray, List.set_cons_zero, List.set_cons_succ]
             refine anyT_next (i := 15) (o := { dst := some 92, op := Go.Op.call { callee := Go.Callee.value (Go.Operand.func 46), args := #[Go.Operand.tmp 89, Go.Operand.tmp 90, Go.Operand.tmp 91], argTypes := #[34, 3, 3] }, type := 3, pos := "ref.go:49", after := #[{ on := 12, ground := Go.Ground.data }, { on := 13, ground := Go.Ground.data }, { on := 14, ground := Go.Ground.data }, { on := 9, ground := Go.Ground.chain }], guard := none }) (by kernel_rfl) rfl (by decide) inv (fun inv K' hK => ?_)
             go_simp
             refine (KB.out w6 HB6.out).mono ?_
             rintro e1 w7 ⟨rfl, hb7⟩
             have HB7 := hid (HB6.out.trans (hb7.mono hle6))
             have HH2 := HS.out w7 HB7.out
             refine hK.out _ _ HH2 ?_
             clear hK K' HH1 hb7
             try simp only [Act.put, List.setIfInBounds_toArray, List.set_cons_zero, List.set_cons_succ]
             refine anyT_take (i := 16) (oi := { dst := some 93, op := Go.Op.indexAddr 37 (Go.Operand.tmp 88) (Go.Operand.tmp 92), type := 0, pos := "ref.go:49", after := #[{ on := 11, ground := Go.Ground.data }, { on := 15, ground := Go.Ground.data }], guard := none }) (v := ?_) rfl (by kernel_rfl) (by kernel_rfl) (by kernel_rfl) (by decide) (by decide) (by kernel_rfl) (by kernel_rfl) (fun _ _ _ h => h) (Or.inl ⟨by rfl, ?_⟩) HH2 inv (fun inv => ?_)
             rotate_left
             ·intro w hSw
              try dsimp only at hSw
              go_simp
              try with_reducible rfl
             simp only [Act.put, List.setIfInBounds_toArray, List.set_cons_zero, List.set_cons_succ]
             refine anyT_take (i := 17) (oi := { dst := some 94, op := Go.Op.load 4 (Go.Operand.tmp 93), type := 4, pos := "ref.go:49", after := #[{ on := 16, ground := Go.Ground.data }], guard := none }) (v := ?_) rfl (by kernel_rfl) (by kernel_rfl) (by kernel_rfl) (by decide) (by decide) (by kernel_rfl) (by kernel_rfl) (fun _ _ _ h => h) (Or.inl ⟨by rfl, ?_⟩) HH2 inv (fun inv => ?_)
             rotate_left
             ·intro w hSw
              try dsimp only at hSw
              go_simp
              try with_reducible rfl
             simp only [Act.put, List.setIfInBounds_toArray, List.set_cons_zero, List.set_cons_succ]
             refine anyT_take (i := 18) (oi := { dst := some 95, op := Go.Op.indexAddr 37 (Go.Operand.tmp 80) (Go.Operand.tmp 81), type := 0, pos := "ref.go:49", after := #[{ on := 3, ground := Go.Ground.data }, { on := 4, ground := Go.Ground.data }, { on := 0, ground := Go.Ground.phase }, { on := 1, ground := Go.Ground.phase }, { on := 2, ground := Go.Ground.phase }, { on := 3, ground := Go.Ground.phase }, { on := 4, ground := Go.Ground.phase }, { on := 5, ground := Go.Ground.phase }, { on := 6, ground := Go.Ground.phase }, { on := 7, ground := Go.Ground.phase }, { on := 8, ground := Go.Ground.phase }, { on := 9, ground := Go.Ground.phase }, { on := 10, ground := Go.Ground.phase }, { on := 11, ground := Go.Ground.phase }, { on := 12, ground := Go.Ground.phase }, { on := 13, ground := Go.Ground.phase }, { on := 14, ground := Go.Ground.phase }, { on := 15, ground := Go.Ground.phase }, { on := 16, ground := Go.Ground.phase }, { on := 17, ground := Go.Ground.phase }], guard := none }) (v := ?_) rfl (by kernel_rfl) (by kernel_rfl) (by kernel_rfl) (by decide) (by decide) (by kernel_rfl) (by kernel_rfl) (fun _ _ _ h => h) (Or.inl ⟨by rfl, ?_⟩) HH2 inv (fun inv => ?_)
             rotate_left
             ·intro w hSw
              try dsimp only at hSw
              go_simp
              try with_reducible rfl
             simp only [Act.put, List.setIfInBounds_toArray, List.set_cons_zero, List.set_cons_succ]
             have s1 := cell_bel HB7.out HFB.out.1 HCK.out.1
             have s2 : w7.frozen? ⟨fb, k, none⟩ = false := (World.frozen?_of_block (a := ⟨fb, k, none⟩) (HB7.out.block fb HFB.out.1)).trans HCK.out.2
             obtain ⟨w8, e8⟩ : ∃ w8, w7.setCell ⟨fb, k, none⟩ (.bool y) = w8 := ⟨_, rfl⟩
             have HF8 := hid (show FarAt w8 wa.heap.size N (.slice (some ⟨fo, 0, none⟩) N c) G (setF F i k y) from by rw [← e8]; exact (HF.out.below HB7.out).set HGI.out y)
             have HT8 := hid (show Touch G w5 w8 from by
              rw [← e8]
              exact (HT.out.trans ((Touch.below HB7.out).mono (by simp))).trans ((Touch.set w7 fb k (.bool y)).mono (fun g hg => by rw [List.mem_singleton.1 hg]; exact List.mem_of_getElem? HGI.out)))
             refine anyT_one (i := 19) (o := { dst := none, op := Go.Op.store 4 (Go.Operand.tmp 95) (Go.Operand.tmp 94), type := 0, pos := "ref.go:49", after := #[{ on := 18, ground := Go.Ground.data }, { on := 17, ground := Go.Ground.data }, { on := 15, ground := Go.Ground.chain }, { on := 0, ground := Go.Ground.phase }, { on := 1, ground := Go.Ground.phase }, { on := 2, ground := Go.Ground.phase }, { on := 3, ground := Go.Ground.phase }, { on := 4, ground := Go.Ground.phase }, { on := 5, ground := Go.Ground.phase }, { on := 6, ground := Go.Ground.phase }, { on := 7, ground := Go.Ground.phase }, { on := 8, ground := Go.Ground.phase }, { on := 9, ground := Go.Ground.phase }, { on := 10, ground := Go.Ground.phase }, { on := 11, ground := Go.Ground.phase }, { on := 12, ground := Go.Ground.phase }, { on := 13, ground := Go.Ground.phase }, { on := 14, ground := Go.Ground.phase }, { on := 15, ground := Go.Ground.phase }, { on := 16, ground := Go.Ground.phase }, { on := 17, ground := Go.Ground.phase }], guard := none }) (by kernel_rfl) rfl (fun K' hK => ?_)
             go_simp
             refine hK.out _ _ (fun h => absurd h (by decide)) ?_
             clear hK K'
             try simp only [Act.put, List.setIfInBounds_toArray, List.set_cons_zero, List.set_cons_succ]
             refine anyT_done (by kernel_rfl) ?_ _
             try rw [e8]
             clear e8 s1 s2 HH2
             go_wp2_with fail
             refine ⟨⟨e + 1, setF F i k y, by omega, rfl, HF8, HST, HT8⟩, ?_⟩
             show K - ((e : Int) + 1).toNat < K - ((e : Int)).toNat
             omega
           ·have g1 : ¬ (e : Int) < (K : Int) := by omega
            have g2 : decide ((e : Int) < (K : Int)) = false := decide_eq_false g1
            have HD := hid (HI.out.done (.inl (by omega)))
            clear HI
            go_wp2_with fail
            refine ⟨⟨k + 1, F, by omega, rfl, HF, HD, HT⟩, ?_⟩
            show N - ((k : Int) + 1).toNat < N - ((k : Int)).toNat
            omega
        ·have h4 : ¬ (k : Int) ≤ (n : Int) := by have := HNI.out; omega
         obtain rfl : k = N := by omega
         have HD := hid (show X8.InvP K D F r (i + 1) 0 from by have h := HI.out; rw [← HN.out, ← HNN.out] at h; exact h.row)
         clear HI
         go_wp2_with fail
         refine ⟨⟨i + 1, F, by omega, rfl, HF, HD, HT⟩, ?_⟩
         show k - ((i : Int) + 1).toNat < k - ((i : Int)).toNat
         omega
      ·have h3 : ¬ (i : Int) ≤ (n : Int) := by have := HNI.out; omega
       obtain rfl : i = N := by omega
       have HD := hid (show X8.InvP K D F (r + 1) 0 0 from by have h := HI.out; rw [← HN.out, ← HNN.out] at h; exact h.round)
       clear HI
       go_wp2_with fail
       refine ⟨⟨r + 1, F, by omega, rfl, HF, HD, HT⟩, ?_⟩
       show i + 1 - ((r : Int) + 1).toNat < i + 1 - ((r : Int)).toNat
       omega
    ·have h2 : ¬ (r : Int) ≤ (n : Int) + 1 := by have := HNI.out; omega
     have hrN : r = N + 1 := by omega
     have HD := hid (show ∀ p q, p < N → q < N → (F p q = true ↔ ¬ X6.Eqv K D (X8.pl n p) D (X8.pl n q)) from by
      have h := HI.out
      rw [hrN, ← HN.out, ← HNN.out] at h
      rw [← HN.out, ← HNN.out]
      exact h.told HOK.out)
     have HE := hid ((HKEEP.out wr HT.out).1)
     clear HI
     go_wp2_with fail
     go_ret
     exact ⟨_, c, G, F, rfl, HF.out.mono (Nat.le_of_lt HSA.out), HGN.out, HD.out, HBA.out.trans (HE.out.mono (Nat.le_of_lt HSA.out))⟩
end Go.Proofs.YtochckefnjobhaaGreatDoor
