/- The document's round: once through all. -/
import Derived.Test.YticmnfmijdgmbaaGreatDoorGb
import Derived.Test.YticmnfmijdgmbaaGreatDoorYa
import Derived.Test.YticmnfmijdgmbaaGreatDoorQKq
import Derived.Test.YticmnfmijdgmbaaGreatDoorQKo
namespace Go.Proofs.YticmnfmijdgmbaaGreatDoor
open Go Go.RowKit Go.Lib
open X14 (It iterB BuiltOk rightX behX sortX)
open S13 (u64 bitN top Sub E0 F0 cutV run_cut cut_at)
open S13.X15 (Pl updA stC findX BaseA RX MetUp askX places cxB)
set_option linter.unusedVariables false
set_option linter.unusedSimpArgs false
def RightD (l : List Int) (w : World) (e : Ending) (w' : World) : Prop := ∃ o c, e = .returned (.slice o l.length c) ∧ l.length ≤ c ∧ IntsAt w' (.slice o l.length c) l ∧ Below w.heap.size w w'
set_option maxRecDepth 100000 in
set_option maxHeartbeats 2000000 in
theorem RRightD_any {G : GD} {gv : Value} {w : World} (h : Gram w gv G) (hv : validB G = true) (a : Int) (h1 : -1 ≤ a) (h2 : a < (G.prods.length : Int)) :
  Calls Tryz.prog 26 #[gv, .int .i64 a] w (RightD (rightX G a) w) := by
 obtain ⟨tv, ov, sv, pv, tf, rv, h⟩ := h
 obtain ⟨W1, B, hW1, hB, c0, c1, c2, c3, c4, hG, hb, hsz⟩ := gr_box h
 obtain ⟨s0, s1, _⟩ := valid_start hv
 have hgv := h.eq
 subst hgv hB
 have e1 := hW1.symm
 have HB2 := hid hb
 have HG2 := hid hG
 by_cases hx : a = -1
 ·subst hx
  obtain ⟨W3, e3⟩ : ∃ W3, W1.alloc (.cells #[.int .i64 (-1 - G.start)] 61) = W3 := ⟨_, rfl⟩
  have hb3 : Below W1.heap.size W1 W3 := by rw [← e3]; exact (Below.refl _ _).alloc (Nat.le_refl _) _
  have HN3 := hid (show W3.heap[W1.heap.size]? = some (.cells #[.int .i64 (-1 - G.start)] 61 (0, 0)) from by rw [← e3]; exact heap_alloc_new _ _)
  have HB3 := hid (HB2.out.trans (hb3.mono HB2.out.size))
  have HS := hid (And.intro s0 s1)
  clear hW1 hb hb3 hG h
  go_enter Tryz.func26, Tryz.ntmps26
  go_wp2_with fail
  go_ret
  refine ⟨_, _, rfl, Nat.le_refl _, ⟨⟨_, _, rfl, by show (1 : Nat) ≤ 9223372036854775807; decide, fun _ => ⟨_, 0, rfl, fun i hi => ?_⟩⟩, fun y hy => ?_⟩, HB3.out⟩
  ·obtain rfl : i = 0 := by have : i < 1 := hi; omega
   exact Lib.cell_of_heap HN3.out 0
  ·obtain rfl : y = -1 - G.start := by simpa [rightX] using hy
   have := HS.out
   omega
 ·obtain ⟨p, rfl⟩ : ∃ p : Nat, a = (p : Int) := ⟨a.toNat, by omega⟩
  have hp : p < G.prods.length := by omega
  have HR := hid (show rightX G (p : Int) = (G.prods.getD p default).rs from by unfold rightX; rw [if_neg hx, Int.toNat_natCast])
  have HI := hid (HG2.out.rights p hp)
  obtain ⟨pa, pc, rfl, hpn, hpc⟩ := HG2.out.prods
  obtain ⟨pb, po, rfl, hpq⟩ := hpc (by omega)
  obtain ⟨_, _, q2, _⟩ := hpq p hp
  obtain ⟨ra, rc, hrv, _⟩ := (HG2.out.rights p hp).1
  obtain ⟨rn, hrn⟩ : ∃ rn, (G.prods.getD p default).rs.length = rn := ⟨_, rfl⟩
  have HRN := hid hrn
  rw [hrn] at hrv
  have HRV := hid hrv
  rw [hrv] at q2
  have p0 : (0 : Int) ≤ (p : Int) := by omega
  clear hW1 hb hG h hpq hrv hrn
  go_enter Tryz.func26, Tryz.ntmps26
  go_wp2_with fail
  go_ret
  have hcap := HG2.out.caps p hp _ _ _ HRV.out
  have hrl : (rightX G (p : Int)).length = rn := by rw [HR.out]; exact HRN.out
  refine ⟨ra, rc, by rw [hrl]; rfl, by rw [hrl]; exact hcap, ?_, HB2.out⟩
  rw [HR.out, HRN.out]
  have := HI.out
  rw [HRV.out] at this
  exact this
section
variable {B n : Nat} {W w w' : World} {l1 l2 m m' : List Item} {GB : List Nat} {C : Nat → List It} {A : Pl → Nat}
theorem ft_new (h : Foot B W w (l1 ++ (bI GB C A n ++ (l2 ++ m)))) {o : Obj} (hb : Below w.heap.size w w') (hn : w'.heap[w.heap.size]? = some o) : Foot B W w' (l1 ++ (bI GB C A n ++ (l2 ++ (m ++ [blkI w.heap.size o])))) := by
 have := h.add (blkI w.heap.size o) hb hn (fun b hb2 => by
  have : b ∈ [w.heap.size] := hb2
  obtain rfl : b = w.heap.size := by simpa using this
  exact ⟨Nat.le_refl _, (Array.getElem?_eq_some_iff.1 hn).1⟩)
 simpa only [List.append_assoc] using this
theorem ft_drop (h : Foot B W w (l1 ++ (bI GB C A n ++ (l2 ++ (m ++ m'))))) : Foot B W w (l1 ++ (bI GB C A n ++ (l2 ++ m))) := by
 have h2 : Foot B W w ((l1 ++ (bI GB C A n ++ (l2 ++ m))) ++ m') := by simpa only [List.append_assoc] using h
 exact foot_drops h2
theorem ft_drop0 (h : Foot B W w (l1 ++ (bI GB C A n ++ (l2 ++ m)))) : Foot B W w (l1 ++ (bI GB C A n ++ l2)) := by
 have h2 : Foot B W w ((l1 ++ (bI GB C A n ++ l2)) ++ m) := by simpa only [List.append_assoc] using h
 exact foot_drops h2
theorem ft_box (h : Foot B W w (l1 ++ (bI GB C A n ++ (l2 ++ m)))) {y : Item} (hy : y ∈ m) : y.ok w := foot_mem h (by simp [hy])
end
def RoundP (G : GD) (n : Nat) (W : World) (A0 : Pl → Nat) (GB : List Nat) (PRE l2 : List Item) (e : Ending) (w' : World) : Prop :=
 ∃ A c, e = .returned (.bool c) ∧ RX (askX (cxB G n (E0 G) (F0 G))) (places (cxB G n (E0 G) (F0 G)) n) (0, (-1, 0)) (bitN 63) A0 A c ∧ (c = false → MetUp (cxB G n (E0 G) (F0 G)) A0 n 0) ∧ Foot W.heap.size W w' (PRE ++ (bI GB (cxB G n (E0 G) (F0 G)).C A n ++ l2))
def MetP (G : GD) (n : Nat) (A0 : Pl → Nat) (ch : Bool) (i k : Nat) (xp : Int) (d : Nat) (s : Int) (s0 mv p : Nat) : Prop := ch = false → MetUp (cxB G n (E0 G) (F0 G)) A0 i k ∧ s0 = A0 (i, (xp, (d : Int))) ∧ ∀ (p' : Nat) (q : Nat), p' < p → ((cxB G n (E0 G) (F0 G)).C i)[p']? = some ((q : Int), (0 : Int)) → sortX G q = -1 - s → Sub mv (A0 (i, ((q : Int), 0)))
def MetC (G : GD) (n : Nat) (A0 : Pl → Nat) (c : Bool) (i k : Nat) : Prop := c = false → MetUp (cxB G n (E0 G) (F0 G)) A0 i k
set_option maxRecDepth 100000 in
set_option maxHeartbeats 32000000 in
theorem round_any {n rb rf rc : Nat} {W w : World} {G : GD} {gv av : Value} {F : List (Nat × List It)} {GB : List Nat} {LL : List (Value × Value)} {r0 l2 : List Item} {A0 : Pl → Nat} (hG : Gram W gv G) (ha : AutAt W av (iterB G n).ker (iterB G n).nx) (hV : validB G = true) (hok : BuiltOk G n)
  (hF : Foot W.heap.size W w ((queI W.heap.size 2 (.slice (some ⟨rb, rf, none⟩) n rc) n (rcells LL) :: frozI F :: r0) ++ (bI GB (cxB G n (E0 G) (F0 G)).C A0 n ++ l2))) (hR : RefR (cxB G n (E0 G) (F0 G)).C n F GB LL)
  (hA : BaseA (askX (cxB G n (E0 G) (F0 G))) (places (cxB G n (E0 G) (F0 G)) n) (0, (-1, 0)) (bitN 63) A0 []) :
  Calls Tryz.prog 50 #[gv, av, .slice (some ⟨rb, rf, none⟩) n rc] w (RoundP G n W A0 GB (queI W.heap.size 2 (.slice (some ⟨rb, rf, none⟩) n rc) n (rcells LL) :: frozI F :: r0) l2) := by
 have HGr := hid hG
 have HAV := hid ha
 have HVAL := hid hV
 have HOK := hid hok
 have HRR := hid hR
 have HA := hid hA
 have HNX := hid (NxOk.built hok)
 have HGB := hid (fun (i : Nat) (x : It) (s : Int) (hi : i < n) (hx : x ∈ (cxB G n (E0 G) (F0 G)).C i) (hb : behX G x = some s) => S13.X15.go_built (E := E0 G) (F := F0 G) hok (symOk hV) hi hx hb)
 have HCX := hid (S13.X15.cx_ok (E := E0 G) hok (symOk hV) (S13.f0_least hV).2.2)
 have HCL := hid (cx_len hV n (E0 G) (F0 G))
 have HND := hid (show ∀ i, ((cxB G n (E0 G) (F0 G)).C i).Nodup from fun i => X14.Rise.nodup (X14.closeX_is G _).1)
 have hn1 : n ≤ 2000 := built_le hok
 have hn0 : 0 < n := S13.X15.n_pos hok
 have hkl := hok.inv.2.2
 have hnl := (X14.iterB_at G n).2
 obtain ⟨kv, nv, rfl, hkv, hnv⟩ := ha
 obtain ⟨ko, kc, rfl, _⟩ := hkv.len
 obtain ⟨no, nc, rfl, _⟩ := hnv.len
 rw [hkl, hnl] at HAV ⊢
 obtain ⟨tv, ov, sv, pv, tf, rv, h⟩ := hG
 have HGA := hid h
 have hgv := h.eq
 subst hgv
 obtain ⟨np, hnp⟩ : ∃ np, G.prods.length = np := ⟨_, rfl⟩
 obtain ⟨pa, pc, hpv, hpn, hpx⟩ := h.prods
 rw [hnp] at hpv hpn hpx
 subst hpv
 obtain ⟨PRE, hPRE⟩ : ∃ PRE, (queI W.heap.size 2 (.slice (some ⟨rb, rf, none⟩) n rc) n (rcells LL) :: frozI F :: r0) = PRE := ⟨_, rfl⟩
 have HCE := hid (show ∀ (wx : World) (m : List Item), Foot W.heap.size W wx (PRE ++ m) → ∀ i, i < n → ∃ g c, wx.cell? ⟨rb, rf + i * 2, none⟩ = some (.slice (some ⟨g, 0, none⟩) ((cxB G n (E0 G) (F0 G)).C i).length c) ∧ wx.cell? ⟨rb, rf + i * 2 + 1, none⟩ = some (.slice (some ⟨GB.getD i 0, 0, none⟩) ((cxB G n (E0 G) (F0 G)).C i).length ((cxB G n (E0 G) (F0 G)).C i).length) ∧ RowH wx g ((cxB G n (E0 G) (F0 G)).C i) ∧ (g, (cxB G n (E0 G) (F0 G)).C i) ∈ F from fun wx m hf i hi => by
  rw [← hPRE] at hf
  obtain ⟨g, c, h1, h2⟩ := hR.at_ i hi
  obtain ⟨g', c', k1, k2, k3⟩ := ref_cells (foot_drops hf) hR hi
  obtain ⟨q0, q1⟩ := rcells_get h1
  have hq : ownsT _ W.heap.size 2 (.slice (some ⟨rb, rf, none⟩) n rc) n (rcells LL) := hf.ok 0 _ rfl
  have hz : (frozI F).ok _ := hf.ok 1 _ rfl
  obtain ⟨hl, ⟨e, _⟩ | ⟨g3, off, cap, e, _, _, _, _, h3, _⟩⟩ := hq
  ·cases e
  ·injection e with e1 e2 e3
   injection e1 with e1
   injection e1 with e1 e4
   subst e1
   subst e4
   exact ⟨g, c, h3 _ _ q0, k2, hz _ h2, h2⟩)
 have HFZ := hid (show ∀ (wx : World) (m : List Item), Foot W.heap.size W wx (PRE ++ m) → ∀ g i, (g, (cxB G n (E0 G) (F0 G)).C i) ∈ F → RowH wx g ((cxB G n (E0 G) (F0 G)).C i) from fun wx m hf g i hgi => by
  rw [← hPRE] at hf
  have hz : (frozI F).ok _ := hf.ok 1 _ rfl
  exact hz _ hgi)
 rw [hPRE] at hF ⊢
 obtain ⟨W1, e1⟩ : ∃ W1, w.alloc (.cells #[tv, ov, sv, .slice pa np pc, .int .i64 G.start] 27) = W1 := ⟨_, rfl⟩
 have n1 : W1.heap[w.heap.size]? = some (.cells #[tv, ov, sv, .slice pa np pc, .int .i64 G.start] 27 (0, 0)) := by rw [← e1]; exact new_block _ _
 have hb1 : Below w.heap.size w W1 := by rw [← e1]; exact (Below.refl _ _).alloc (Nat.le_refl _) _
 obtain ⟨W2, e2⟩ : ∃ W2, W1.alloc (.cells #[.slice ko n kc, .slice no n nc] 38) = W2 := ⟨_, rfl⟩
 have n2 : W2.heap[W1.heap.size]? = some (.cells #[.slice ko n kc, .slice no n nc] 38 (0, 0)) := by rw [← e2]; exact new_block _ _
 have hb2 : Below W1.heap.size W1 W2 := by rw [← e2]; exact (Below.refl _ _).alloc (Nat.le_refl _) _
 have hf1 := ft_new (m := []) (by simpa using hF) hb1 n1
 have hf2 := ft_new hf1 hb2 n2
 obtain ⟨b38, hb38⟩ : ∃ b38, W1.heap.size = b38 := ⟨_, rfl⟩
 rw [hb38] at hf2
 have HF0 : Hid (Foot W.heap.size W W2 (PRE ++ (bI GB (cxB G n (E0 G) (F0 G)).C A0 n ++ (l2 ++ [blkI w.heap.size (.cells #[tv, ov, sv, .slice pa np pc, .int .i64 G.start] 27 (0, 0)), blkI b38 (.cells #[.slice ko n kc, .slice no n nc] 38 (0, 0))])))) := hid hf2
 have HX0 := hid (RX.start hA)
 have HM0 := hid (show MetC G n A0 false 0 0 from fun _ => MetUp.start _ _)
 clear hV hok hR hA hkl hnl hkv hnv h hF n1 hb1 n2 hb2 hf1 hf2 hPRE
 go_enter Tryz.func50, Tryz.ntmps50
 go_wp2_with fail
 try rw [hb38]
 clear e1 e2 hb38
 go_loopw [7, 8, 9, 10, 11, 12, 13, 14, 15, 16, 17, 18, 19, 20, 21] (fun t7 t8 t9 t10 t11 t12 t13 t14 t15 t16 t17 t18 t19 t20 t21 wr => ∃ (i : Nat) (A : Pl → Nat) (ch : Bool), i ≤ n ∧ t8 = .int .i64 (i : Int) ∧ t7 = .bool ch ∧ Hid (RX (askX (cxB G n (E0 G) (F0 G))) (places (cxB G n (E0 G) (F0 G)) n) (0, (-1, 0)) (bitN 63) A0 A ch) ∧ Hid (MetC G n A0 ch i 0) ∧ Hid (Foot W.heap.size W wr (PRE ++ (bI GB (cxB G n (E0 G) (F0 G)).C A n ++ (l2 ++ [blkI w.heap.size (.cells #[tv, ov, sv, .slice pa np pc, .int .i64 G.start] 27 (0, 0)), blkI b38 (.cells #[.slice ko n kc, .slice no n nc] 38 (0, 0))]))))) (fun _ t8 _ _ _ _ _ _ _ _ _ _ _ _ _ _ => n - (RowKit.intOf t8).toNat)
 case atStart => exact ⟨0, A0, false, Nat.zero_le _, rfl, rfl, HX0, HM0, HF0⟩
 case round =>
  clear HX0 HM0 HF0
  obtain ⟨i, A, ch, hin, rfl, rfl, HX, HM, HF⟩ := hrel
  by_cases hli : i < n
  case neg =>
   have m1 : ¬ (i : Int) < (n : Int) := by omega
   obtain rfl : i = n := by omega
   go_wp2_with fail
   go_ret
   exact ⟨A, ch, rfl, HX.out, HM.out, ft_drop0 HF.out⟩
  have m1 : (i : Int) < (n : Int) := by omega
  have m0 : (0 : Int) ≤ (i : Int) := by omega
  obtain ⟨g, c, q0, q1, hrow, hgF⟩ := HCE.out _ _ HF.out i hli
  obtain ⟨N, hN⟩ : ∃ N, ((cxB G n (E0 G) (F0 G)).C i).length = N := ⟨_, rfl⟩
  have HN := hid hN
  have hNle : N ≤ 1573 := by rw [← hN]; exact HCL.out i
  obtain ⟨gi, hgi⟩ : ∃ gi, GB.getD i 0 = gi := ⟨_, rfl⟩
  rw [hN] at q0 q1
  rw [hgi] at q1
  have HGI := hid hgi
  obtain ⟨wc, ec⟩ : ∃ wc, wr.alloc (.cells #[.slice (some ⟨g, 0, none⟩) N c, .slice (some ⟨gi, 0, none⟩) N N] 52) = wc := ⟨_, rfl⟩
  have nc2 : wc.heap[wr.heap.size]? = some (.cells #[.slice (some ⟨g, 0, none⟩) N c, .slice (some ⟨gi, 0, none⟩) N N] 52 (0, 0)) := by rw [← ec]; exact new_block _ _
  have hbc : Below wr.heap.size wr wc := by rw [← ec]; exact (Below.refl _ _).alloc (Nat.le_refl _) _
  have hfc := ft_new HF.out hbc nc2
  obtain ⟨b52, hb52⟩ : ∃ b52, wr.heap.size = b52 := ⟨_, rfl⟩
  rw [hb52] at hfc
  have HFC : Hid (Foot W.heap.size W wc (PRE ++ (bI GB (cxB G n (E0 G) (F0 G)).C A n ++ (l2 ++ [blkI w.heap.size (.cells #[tv, ov, sv, .slice pa np pc, .int .i64 G.start] 27 (0, 0)), blkI b38 (.cells #[.slice ko n kc, .slice no n nc] 38 (0, 0)), blkI b52 (.cells #[.slice (some ⟨g, 0, none⟩) N c, .slice (some ⟨gi, 0, none⟩) N N] 52 (0, 0))])))) := hid hfc
  have HGF := hid hgF
  clear hN hgi hrow hgF nc2 hbc hfc HF
  go_wp2_with fail
  try rw [hb52]
  clear q0 q1 ec hb52
  go_loopw [7, 10, 11, 12, 13, 14, 15, 16, 17, 18, 19, 20, 21] (fun t7 t10 t11 t12 t13 t14 t15 t16 t17 t18 t19 t20 t21 wr => ∃ (k : Nat) (A : Pl → Nat) (ch : Bool), k ≤ N ∧ t10 = .int .i64 (k : Int) ∧ t7 = .bool ch ∧ Hid (RX (askX (cxB G n (E0 G) (F0 G))) (places (cxB G n (E0 G) (F0 G)) n) (0, (-1, 0)) (bitN 63) A0 A ch) ∧ Hid (MetC G n A0 ch i k) ∧ Hid (Foot W.heap.size W wr (PRE ++ (bI GB (cxB G n (E0 G) (F0 G)).C A n ++ (l2 ++ [blkI w.heap.size (.cells #[tv, ov, sv, .slice pa np pc, .int .i64 G.start] 27 (0, 0)), blkI b38 (.cells #[.slice ko n kc, .slice no n nc] 38 (0, 0)), blkI b52 (.cells #[.slice (some ⟨g, 0, none⟩) N c, .slice (some ⟨gi, 0, none⟩) N N] 52 (0, 0))]))))) (fun _ t10 _ _ _ _ _ _ _ _ _ _ _ _ => N - (RowKit.intOf t10).toNat)
  case atStart => exact ⟨0, A, ch, Nat.zero_le _, rfl, rfl, HX, HM, HFC⟩
  case round =>
   clear HX HM HFC
   obtain ⟨k, A, ch, hkN, rfl, rfl, HX, HM, HF⟩ := hrel
   have z52 : w.heap.size = w.heap.size := rfl
   have q0 : wr.cell? ⟨b52, 0, none⟩ = some (.slice (some ⟨g, 0, none⟩) N c) := Lib.cell_of_heap (show wr.heap[b52]? = some (.cells #[.slice (some ⟨g, 0, none⟩) N c, .slice (some ⟨gi, 0, none⟩) N N] 52 (0, 0)) from ft_box HF.out (y := blkI b52 (.cells #[.slice (some ⟨g, 0, none⟩) N c, .slice (some ⟨gi, 0, none⟩) N N] 52 (0, 0))) (by simp)) 0
   clear z52
   by_cases hlt : k < N
   case neg =>
    have j1 : ¬ (k : Int) < (N : Int) := by omega
    have HF9 : Hid (Foot W.heap.size W wr (PRE ++ (bI GB (cxB G n (E0 G) (F0 G)).C A n ++ (l2 ++ [blkI w.heap.size (.cells #[tv, ov, sv, .slice pa np pc, .int .i64 G.start] 27 (0, 0)), blkI b38 (.cells #[.slice ko n kc, .slice no n nc] 38 (0, 0))])))) := hid (ft_drop (m := [blkI w.heap.size (.cells #[tv, ov, sv, .slice pa np pc, .int .i64 G.start] 27 (0, 0)), blkI b38 (.cells #[.slice ko n kc, .slice no n nc] 38 (0, 0))]) (m' := [blkI b52 (.cells #[.slice (some ⟨g, 0, none⟩) N c, .slice (some ⟨gi, 0, none⟩) N N] 52 (0, 0))]) HF.out)
    go_wp2_with fail
    refine ⟨⟨i + 1, A, ch, by omega, by go_num, rfl, HX, hid (show MetC G n A0 ch (i + 1) 0 from fun h => (HM.out h).row (by rw [HN.out]; omega)), HF9⟩, ?_⟩
    simp [RowKit.intOf]
    omega
   have j1 : (k : Int) < (N : Int) := by omega
   have j0 : (0 : Int) ≤ (k : Int) := by omega
   obtain ⟨⟨xp, xd⟩, hx⟩ : ∃ x, ((cxB G n (E0 G) (F0 G)).C i)[k]? = some x := ⟨_, List.getElem?_eq_getElem (by rw [HN.out]; exact hlt)⟩
   have hth := X14.there_iff.1 ((S13.X15.mem_C.1 (List.mem_of_getElem? hx)).there)
   obtain ⟨d, rfl⟩ : ∃ d : Nat, xd = (d : Int) := ⟨xd.toNat, by have h : (0 : Int) ≤ xd := hth.2.2.1; omega⟩
   have hd12 : d ≤ 12 := by
    have h1 := X14.right_le HVAL.out hth.1 hth.2.1
    have h2 : ((d : Nat) : Int) ≤ ((rightX G xp).length : Int) := hth.2.2.2
    have h3 : (rightX G xp).length ≤ 12 := h1
    omega
   have hp0 : -1 ≤ xp := hth.1
   have hp1 : xp < (G.prods.length : Int) := hth.2.1
   have hrow := HFZ.out _ _ HF.out g i HGF.out
   have hxr := hrow k (by rw [HN.out]; exact hlt)
   have hxe : ((cxB G n (E0 G) (F0 G)).C i)[k]'(by rw [HN.out]; exact hlt) = (xp, (d : Int)) := (List.getElem?_eq_some_iff.1 hx).2
   rw [hxe] at hxr
   have r0 := hxr.1
   have r1 := hxr.2.1
   have HXK := hid hx
   have HXC := hid (List.mem_of_getElem? hx)
   obtain ⟨wa, ea⟩ : ∃ z, wr.alloc (.cells #[.int .i64 0, .int .i64 0] 110) = z := ⟨_, rfl⟩
   have na : wa.heap[wr.heap.size]? = some (.cells #[.int .i64 0, .int .i64 0] 110 (0, 0)) := by rw [← ea]; exact new_block _ _
   have hba : Below wr.heap.size wr wa := by rw [← ea]; exact (Below.refl _ _).alloc (Nat.le_refl _) _
   have vc0 : wa.cell? ⟨wr.heap.size, 0, none⟩ = some (.int .i64 0) := Lib.cell_of_heap na 0
   have vf0 := Lib.frozen_of_heap na 0
   obtain ⟨u1, ve0⟩ : ∃ z, wa.setCell ⟨wr.heap.size, 0, none⟩ (.int .i64 xp) = z := ⟨_, rfl⟩
   have m1 : u1.heap[wr.heap.size]? = some (.cells #[.int .i64 xp, .int .i64 0] 110 (0, 0)) := by rw [← ve0]; exact heap_setCell_same _ _ 0 _ 110 _ na
   have vc1 : u1.cell? ⟨wr.heap.size, 1, none⟩ = some (.int .i64 0) := Lib.cell_of_heap m1 1
   have vf1 := Lib.frozen_of_heap m1 1
   obtain ⟨u2, ve1⟩ : ∃ z, u1.setCell ⟨wr.heap.size, 1, none⟩ (.int .i64 (d : Int)) = z := ⟨_, rfl⟩
   have m2 : u2.heap[wr.heap.size]? = some (.cells #[.int .i64 xp, .int .i64 (d : Int)] 110 (0, 0)) := by rw [← ve1]; exact heap_setCell_same _ _ 1 _ 110 _ m1
   have hbu : Below wr.heap.size wr u2 := by
    rw [← ve1, ← ve0]
    exact (hba.setCell (Nat.le_refl _) _).setCell (Nat.le_refl _) _
   have hfx := ft_new HF.out hbu m2
   have KH := RBehind_any (HGr.out.below (ft_new HF.out hbu m2).bel) (xp, (d : Int))
   unfold BehVP itV at KH
   have KH := hid KH
   have hc0 := ft_box hfx (y := blkI w.heap.size (.cells #[tv, ov, sv, .slice pa np pc, .int .i64 G.start] 27 (0, 0))) (by simp)
   have c0 : u2.cell? ⟨w.heap.size, 0, none⟩ = some tv := Lib.cell_of_heap hc0 0
   have c1 : u2.cell? ⟨w.heap.size, 1, none⟩ = some ov := Lib.cell_of_heap hc0 1
   have c2 : u2.cell? ⟨w.heap.size, 2, none⟩ = some sv := Lib.cell_of_heap hc0 2
   have c3 : u2.cell? ⟨w.heap.size, 3, none⟩ = some (.slice pa np pc) := Lib.cell_of_heap hc0 3
   have c4 : u2.cell? ⟨w.heap.size, 4, none⟩ = some (.int .i64 G.start) := Lib.cell_of_heap hc0 4
   have y0 : u2.cell? ⟨wr.heap.size, 0, none⟩ = some (.int .i64 xp) := Lib.cell_of_heap m2 0
   have y1 : u2.cell? ⟨wr.heap.size, 1, none⟩ = some (.int .i64 (d : Int)) := Lib.cell_of_heap m2 1
   have HFX := hid hfx
   clear na m1 m2 hba hbu hfx hc0 hx hth hrow hxr hxe
   go_wp2_with fail
   refine KH.out.mono ?_
   rintro e w6 ⟨rfl, hb6⟩
   obtain ⟨xb, hxb⟩ : ∃ xb, wr.heap.size = xb := ⟨_, rfl⟩
   have hf6 := HFX.out.below hb6
   rw [hxb] at hf6
   try rw [hxb]
   have HF6 : Hid (Foot W.heap.size W w6 (PRE ++ (bI GB (cxB G n (E0 G) (F0 G)).C A n ++ (l2 ++ [blkI w.heap.size (.cells #[tv, ov, sv, .slice pa np pc, .int .i64 G.start] 27 (0, 0)), blkI b38 (.cells #[.slice ko n kc, .slice no n nc] 38 (0, 0)), blkI b52 (.cells #[.slice (some ⟨g, 0, none⟩) N c, .slice (some ⟨gi, 0, none⟩) N N] 52 (0, 0)), blkI xb (.cells #[.int .i64 xp, .int .i64 (d : Int)] 110 (0, 0))])))) := hid hf6
   clear vc0 vf0 vc1 vf1 ve0 ve1 ea r0 r1 KH hb6 hf6 c0 c1 c2 c3 c4 y0 y1 q0 HFX HF hxb
   have hbe : behV G (xp, (d : Int)) = behX G (xp, (d : Int)) := by unfold behV; rw [if_pos HVAL.out]
   rw [hbe]
   cases hbx : behX G (xp, (d : Int)) with
   | none =>
    simp only [Option.getD_none, Option.isSome_none]
    have HF9 : Hid (Foot W.heap.size W w6 (PRE ++ (bI GB (cxB G n (E0 G) (F0 G)).C A n ++ (l2 ++ [blkI w.heap.size (.cells #[tv, ov, sv, .slice pa np pc, .int .i64 G.start] 27 (0, 0)), blkI b38 (.cells #[.slice ko n kc, .slice no n nc] 38 (0, 0)), blkI b52 (.cells #[.slice (some ⟨g, 0, none⟩) N c, .slice (some ⟨gi, 0, none⟩) N N] 52 (0, 0))])))) := hid (ft_drop (m := [blkI w.heap.size (.cells #[tv, ov, sv, .slice pa np pc, .int .i64 G.start] 27 (0, 0)), blkI b38 (.cells #[.slice ko n kc, .slice no n nc] 38 (0, 0)), blkI b52 (.cells #[.slice (some ⟨g, 0, none⟩) N c, .slice (some ⟨gi, 0, none⟩) N N] 52 (0, 0))]) (m' := [blkI xb (.cells #[.int .i64 xp, .int .i64 (d : Int)] 110 (0, 0))]) HF6.out)
    have HM9 := hid (show MetC G n A0 ch i (k + 1) from fun h => (HM.out h).next HXK.out (S13.X15.closed_none hbx))
    go_wp2_with fail
    refine ⟨⟨k + 1, A, ch, by omega, by go_num, rfl, HX, HM9, HF9⟩, ?_⟩
    simp [RowKit.intOf]
    omega
   | some s =>
    simp only [Option.getD_some, Option.isSome_some]
    have hr1 : (rightX G xp)[d]? = some s := by
     unfold X14.behX at hbx
     rw [if_pos (X14.beh_there (by unfold X14.behX; exact hbx))] at hbx
     simpa using hbx
    have HR1 := hid hr1
    have hdl : d + 1 ≤ (rightX G xp).length := (List.getElem?_eq_some_iff.1 hr1).1
    obtain ⟨q, g1, g2, g3, g4, g5⟩ := HGB.out i (xp, (d : Int)) s hli HXC.out hbx
    have HG1 := hid g1
    have HG2 := hid g2
    have HBX := hid hbx
    clear hr1 g1 g2 g3 g5 hbe hbx
    have hc0 := ft_box HF6.out (y := blkI w.heap.size (.cells #[tv, ov, sv, .slice pa np pc, .int .i64 G.start] 27 (0, 0))) (by simp)
    have c0 : w6.cell? ⟨w.heap.size, 0, none⟩ = some tv := Lib.cell_of_heap hc0 0
    have c1 : w6.cell? ⟨w.heap.size, 1, none⟩ = some ov := Lib.cell_of_heap hc0 1
    have c2 : w6.cell? ⟨w.heap.size, 2, none⟩ = some sv := Lib.cell_of_heap hc0 2
    have c3 : w6.cell? ⟨w.heap.size, 3, none⟩ = some (.slice pa np pc) := Lib.cell_of_heap hc0 3
    have c4 : w6.cell? ⟨w.heap.size, 4, none⟩ = some (.int .i64 G.start) := Lib.cell_of_heap hc0 4
    have hxbk := ft_box HF6.out (y := blkI xb (.cells #[.int .i64 xp, .int .i64 (d : Int)] 110 (0, 0))) (by simp)
    have y0 : w6.cell? ⟨xb, 0, none⟩ = some (.int .i64 xp) := Lib.cell_of_heap hxbk 0
    have KR := hid (RRightD_any (HGr.out.below HF6.out.bel) HVAL.out xp hp0 hp1)
    clear hc0 hxbk
    go_wp2_with fail
    refine KR.out.mono ?_
    rintro e w7 ⟨ro, rc2, rfl, hrc, hri, hb7⟩
    have HF7 : Hid (Foot W.heap.size W w7 (PRE ++ (bI GB (cxB G n (E0 G) (F0 G)).C A n ++ (l2 ++ [blkI w.heap.size (.cells #[tv, ov, sv, .slice pa np pc, .int .i64 G.start] 27 (0, 0)), blkI b38 (.cells #[.slice ko n kc, .slice no n nc] 38 (0, 0)), blkI b52 (.cells #[.slice (some ⟨g, 0, none⟩) N c, .slice (some ⟨gi, 0, none⟩) N N] 52 (0, 0)), blkI xb (.cells #[.int .i64 xp, .int .i64 (d : Int)] 110 (0, 0))])))) := hid (HF6.out.below hb7)
    obtain ⟨rl, hrl⟩ : ∃ rl, (rightX G xp).length = rl := ⟨_, rfl⟩
    rw [hrl] at hrc hri hdl ⊢
    have HRL := hid hrl
    obtain ⟨rb2, rof, rfl⟩ : ∃ rb rof, ro = some ⟨rb, rof, none⟩ := by
     obtain ⟨⟨a, c, e1, _, e2⟩, _⟩ := hri
     obtain ⟨b, off, e3, _⟩ := e2 (by omega)
     injection e1 with h1 h2 h3
     exact ⟨b, off, h1.trans e3⟩
    have HRI := hid hri
    have HSR := hid (hri.2 s (List.mem_of_getElem? HR1.out))
    have hb52 := ft_box HF7.out (y := blkI b52 (.cells #[.slice (some ⟨g, 0, none⟩) N c, .slice (some ⟨gi, 0, none⟩) N N] 52 (0, 0))) (by simp)
    have t0 : w7.cell? ⟨b52, 0, none⟩ = some (.slice (some ⟨g, 0, none⟩) N c) := Lib.cell_of_heap hb52 0
    have t1 : w7.cell? ⟨b52, 1, none⟩ = some (.slice (some ⟨gi, 0, none⟩) N N) := Lib.cell_of_heap hb52 1
    have hci := foot_bcell HF7.out hli HXK.out
    rw [HGI.out] at hci
    obtain ⟨s0, hs0⟩ : ∃ s0, A (i, (xp, (d : Int))) = s0 := ⟨_, rfl⟩
    have HS0 := hid hs0
    have hs0t : s0 < top := by rw [← hs0]; exact HX.out.base.low _
    rw [hs0] at hci
    have t2 : w7.cell? ⟨gi, k, none⟩ = some (uv s0) := hci.1
    clear KR hri hb7 c0 c1 c2 c3 c4 y0 hb52 hci hs0 hrl HF6
    by_cases hs : s < 0
    case neg =>
     have z0 : decide (s < 0) = false := decide_eq_false hs
     have z1 : (0 : Int) < (N : Int) := by omega
     have HMQ := hid (show ch = false → MetUp (cxB G n (E0 G) (F0 G)) A0 i k ∧ (s < 0 → ∀ q : Nat, q < (cxB G n (E0 G) (F0 G)).G.prods.length → sortX (cxB G n (E0 G) (F0 G)).G q = -1 - s → Sub (S13.ofRow (cxB G n (E0 G) (F0 G)).G.terms.length (cxB G n (E0 G) (F0 G)).E (cxB G n (E0 G) (F0 G)).F (S13.X15.restX (cxB G n (E0 G) (F0 G)).G (xp, (d : Int))) (A0 (i, (xp, (d : Int))))) (A0 (i, ((q : Int), 0)))) from fun h => ⟨HM.out h, fun h2 => absurd h2 hs⟩)
     go_wp2_with fail
     clear t1 t2
     go_loopw [7, 16] (fun t7 t16 wr => t7 = .bool ch ∧ t16 = .int .i64 0 ∧ w7 = wr) (fun _ _ _ => 0)
     case atStart => exact ⟨rfl, rfl, rfl⟩
     case round =>
      obtain ⟨rfl, rfl, rfl⟩ := hrel
      as_aux_lemma =>
       have hc0 := ft_box HF7.out (y := blkI w.heap.size (.cells #[tv, ov, sv, .slice pa np pc, .int .i64 G.start] 27 (0, 0))) (by simp)
       have c0 : w7.cell? ⟨w.heap.size, 0, none⟩ = some tv := Lib.cell_of_heap hc0 0
       have c1 : w7.cell? ⟨w.heap.size, 1, none⟩ = some ov := Lib.cell_of_heap hc0 1
       have c2 : w7.cell? ⟨w.heap.size, 2, none⟩ = some sv := Lib.cell_of_heap hc0 2
       have c3 : w7.cell? ⟨w.heap.size, 3, none⟩ = some (.slice pa np pc) := Lib.cell_of_heap hc0 3
       have c4 : w7.cell? ⟨w.heap.size, 4, none⟩ = some (.int .i64 G.start) := Lib.cell_of_heap hc0 4
       have ha0 := ft_box HF7.out (y := blkI b38 (.cells #[.slice ko n kc, .slice no n nc] 38 (0, 0))) (by simp)
       have a0 : w7.cell? ⟨b38, 0, none⟩ = some (.slice ko n kc) := Lib.cell_of_heap ha0 0
       have a1 : w7.cell? ⟨b38, 1, none⟩ = some (.slice no n nc) := Lib.cell_of_heap ha0 1
       have KG := RGo_any (HGr.out.below HF7.out.bel) (HAV.out.below HF7.out.bel) HNX.out (i : Int) s HSR.out.1 HSR.out.2
       rw [HG1.out] at KG
       have KG := hid KG
       clear hc0 ha0
       go_wp2_with fail
       refine KG.out.mono ?_
       rintro e wg ⟨rfl, hbg⟩
       have HFg : Hid (Foot W.heap.size W wg (PRE ++ (bI GB (cxB G n (E0 G) (F0 G)).C A n ++ (l2 ++ [blkI w.heap.size (.cells #[tv, ov, sv, .slice pa np pc, .int .i64 G.start] 27 (0, 0)), blkI b38 (.cells #[.slice ko n kc, .slice no n nc] 38 (0, 0)), blkI b52 (.cells #[.slice (some ⟨g, 0, none⟩) N c, .slice (some ⟨gi, 0, none⟩) N N] 52 (0, 0)), blkI xb (.cells #[.int .i64 xp, .int .i64 (d : Int)] 110 (0, 0))])))) := hid (HF7.out.below hbg)
       clear KG hbg c0 c1 c2 c3 c4 a0 a1
       try clear t0
       obtain ⟨gz, cz, t0, t1, hrz, hgz⟩ := HCE.out _ _ HFg.out q g4
       obtain ⟨N2, hN2⟩ : ∃ N2, ((cxB G n (E0 G) (F0 G)).C q).length = N2 := ⟨_, rfl⟩
       have hN2le : N2 ≤ 1573 := by rw [← hN2]; exact HCL.out q
       obtain ⟨gq, hgq⟩ : ∃ gq, GB.getD q 0 = gq := ⟨_, rfl⟩
       have HGQ := hid hgq
       rw [hN2] at t0 t1
       rw [hgq] at t1
       have hgo := HCX.out.goto_ i (xp, (d : Int)) s hli HXC.out HBX.out
       rw [HG2.out] at hgo
       obtain ⟨m, hm⟩ := List.mem_iff_getElem?.1 hgo.2
       have hm : ((cxB G n (E0 G) (F0 G)).C q)[m]? = some (xp, (d : Int) + 1) := hm
       have hml : m < N2 := by rw [← hN2]; exact (List.getElem?_eq_some_iff.1 hm).1
       have HFD := hid (show ItemsAt wg (.slice (some ⟨gz, 0, none⟩) N2 cz) ((cxB G n (E0 G) (F0 G)).C q) from by
        rw [← hN2]
        exact rowH_items hrz (by rw [hN2]; omega))
       have KF := hid (show ∀ w', Below wg.heap.size wg w' → Calls Tryz.prog 48 #[.slice (some ⟨gz, 0, none⟩) N2 cz, .agg #[.int .i64 xp, .int .i64 ((d : Int) + 1)]] w' fun e w'' => e = .returned (.int .i64 (m : Int)) ∧ Below w'.heap.size w' w'' from fun w' hC => by
        have := Find_any (xp, (d : Int) + 1) (HFD.out.below hC) (by rw [hN2]; omega)
        rw [S13.X15.findX_some (HND.out q) hm] at this
        exact this)
       have hbxx := ft_box HFg.out (y := blkI xb (.cells #[.int .i64 xp, .int .i64 (d : Int)] 110 (0, 0))) (by simp)
       have hb52 := ft_box HFg.out (y := blkI b52 (.cells #[.slice (some ⟨g, 0, none⟩) N c, .slice (some ⟨gi, 0, none⟩) N N] 52 (0, 0))) (by simp)
       have hci := foot_bcell HFg.out hli HXK.out
       have hcq := foot_bcell HFg.out g4 hm
       rw [HGI.out] at hci
       rw [hgq] at hcq
       obtain ⟨a2, ha2⟩ : ∃ a2, A (q, (xp, (d : Int) + 1)) = a2 := ⟨_, rfl⟩
       obtain ⟨s1, hs1⟩ : ∃ s1, A (i, (xp, (d : Int))) = s1 := ⟨_, rfl⟩
       rw [hs1] at hci
       rw [ha2] at hcq
       have HA2 := hid ha2
       have HS1 := hid hs1
       have ha2t : a2 < top := by rw [← ha2]; exact HX.out.base.low _
       have hs1t : s1 < top := by rw [← hs1]; exact HX.out.base.low _
       have Y0 := hid (show ∀ w', Below wg.heap.size wg w' → w'.cell? ⟨rb, rf + q * 2, none⟩ = some (.slice (some ⟨gz, 0, none⟩) N2 cz) from fun w' hC => cell_below hC t0)
       have Y1 := hid (show ∀ w', Below wg.heap.size wg w' → w'.cell? ⟨xb, 0, none⟩ = some (.int .i64 xp) from fun w' hC => cell_below hC (Lib.cell_of_heap hbxx 0))
       have Y2 := hid (show ∀ w', Below wg.heap.size wg w' → w'.cell? ⟨xb, 1, none⟩ = some (.int .i64 (d : Int)) from fun w' hC => cell_below hC (Lib.cell_of_heap hbxx 1))
       have Y3 := hid (show ∀ w', Below wg.heap.size wg w' → w'.cell? ⟨rb, rf + q * 2 + 1, none⟩ = some (.slice (some ⟨gq, 0, none⟩) N2 N2) from fun w' hC => cell_below hC t1)
       have Y4 := hid (show ∀ w', Below wg.heap.size wg w' → w'.cell? ⟨b52, 1, none⟩ = some (.slice (some ⟨gi, 0, none⟩) N N) from fun w' hC => cell_below hC (Lib.cell_of_heap hb52 1))
       have Y5 := hid (show ∀ w', Below wg.heap.size wg w' → w'.cell? ⟨gi, k, none⟩ = some (uv s1) from fun w' hC => cell_below hC hci.1)
       have Y6 := hid (show ∀ w', Below wg.heap.size wg w' → w'.cell? ⟨gq, m, none⟩ = some (uv a2) from fun w' hC => cell_below hC hcq.1)
       have HGM := hid hm
       have HGG := hid (And.intro hgo.1 hgo.2)
       have hwd : IntKind.i64.wrap ((d : Int) + 1) = (d : Int) + 1 := wrap_small (by omega) (by omega)
       have q1' : (q : Int) < (n : Int) := by omega
       have q0' : (0 : Int) ≤ (q : Int) := by omega
       have w1' : (m : Int) < (N2 : Int) := by omega
       have w0' : (0 : Int) ≤ (m : Int) := by omega
       clear t0 t1 hrz hgz hN2 hgq hgo hm HFD hbxx hb52 hci hcq ha2 hs1
       go_wp2_with fail
       refine wp_region_below (by kernel_rfl) (by kernel_rfl) ?_
       iterate 13
        with_reducible refine BigFrame.wpQuiet_want (by kernel_rfl) (fun K hK => ?_)
        apply Exists.intro
        refine ⟨fun w' hC => ?_, hK _ ?_⟩
        ·have f0' := Y0.out w' hC
         have f1' := Y1.out w' hC
         have f2' := Y2.out w' hC
         unfold Oper.quietAt
         go_simp
         first | with_reducible rfl | with_reducible exact below_call hC (Nat.le_refl _) (KF.out w' hC)
        clear hK K
        try simp only [Act.put, sjA, sj0, sjS, hwd]
       refine wpQuiet_nil ?_
       intro wh hbh
       have HFh : Hid (Foot W.heap.size W wh (PRE ++ (bI GB (cxB G n (E0 G) (F0 G)).C A n ++ (l2 ++ [blkI w.heap.size (.cells #[tv, ov, sv, .slice pa np pc, .int .i64 G.start] 27 (0, 0)), blkI b38 (.cells #[.slice ko n kc, .slice no n nc] 38 (0, 0)), blkI b52 (.cells #[.slice (some ⟨g, 0, none⟩) N c, .slice (some ⟨gi, 0, none⟩) N N] 52 (0, 0)), blkI xb (.cells #[.int .i64 xp, .int .i64 (d : Int)] 110 (0, 0))])))) := hid (HFg.out.below hbh)
       have HBH := hid hbh
       clear hbh hwd KF
       go_wp2_with fail
       have KU := hid (show ∀ w', Below wh.heap.size wh w' → Calls Tryz.prog 94 #[uv a2, uv s1] w' fun e w'' => e = .returned (uv (a2 ||| s1)) ∧ Below w'.heap.size w' w'' from fun w' hC => S13.RUnion_any a2 s1 ha2t hs1t w')
       have X3 := hid (show ∀ w', Below wh.heap.size wh w' → w'.cell? ⟨rb, rf + q * 2 + 1, none⟩ = some (.slice (some ⟨gq, 0, none⟩) N2 N2) from fun w' hC => Y3.out w' (HBH.out.trans (hC.mono HBH.out.size)))
       have X4 := hid (show ∀ w', Below wh.heap.size wh w' → w'.cell? ⟨b52, 1, none⟩ = some (.slice (some ⟨gi, 0, none⟩) N N) from fun w' hC => Y4.out w' (HBH.out.trans (hC.mono HBH.out.size)))
       have X5 := hid (show ∀ w', Below wh.heap.size wh w' → w'.cell? ⟨gi, k, none⟩ = some (uv s1) from fun w' hC => Y5.out w' (HBH.out.trans (hC.mono HBH.out.size)))
       have X6 := hid (show ∀ w', Below wh.heap.size wh w' → w'.cell? ⟨gq, m, none⟩ = some (uv a2) from fun w' hC => Y6.out w' (HBH.out.trans (hC.mono HBH.out.size)))
       refine wp_region_below (by kernel_rfl) (by kernel_rfl) ?_
       iterate 15
        with_reducible refine BigFrame.wpQuiet_want (by kernel_rfl) (fun K hK => ?_)
        apply Exists.intro
        refine ⟨fun w' hC => ?_, hK _ ?_⟩
        ·have f0' := X3.out w' hC
         have f1' := X4.out w' hC
         have f2' := X5.out w' hC
         have f3' := X6.out w' hC
         unfold Oper.quietAt
         go_simp
         first | with_reducible rfl | with_reducible exact below_call hC (Nat.le_refl _) (KU.out w' hC)
        clear hK K
        try simp only [Act.put, sjA, sj0, sjS]
       refine wpQuiet_nil ?_
       intro wi hbi
       have HFi : Hid (Foot W.heap.size W wi (PRE ++ (bI GB (cxB G n (E0 G) (F0 G)).C A n ++ (l2 ++ [blkI w.heap.size (.cells #[tv, ov, sv, .slice pa np pc, .int .i64 G.start] 27 (0, 0)), blkI b38 (.cells #[.slice ko n kc, .slice no n nc] 38 (0, 0)), blkI b52 (.cells #[.slice (some ⟨g, 0, none⟩) N c, .slice (some ⟨gi, 0, none⟩) N N] 52 (0, 0)), blkI xb (.cells #[.int .i64 xp, .int .i64 (d : Int)] 110 (0, 0))])))) := hid (HFh.out.below hbi)
       have t3 := X3.out wi hbi
       have t6 := X6.out wi hbi
       have hfrz : wi.frozen? ⟨gq, m, none⟩ = false := by
        have := (foot_bcell HFi.out g4 HGM.out).2
        rw [HGQ.out] at this
        exact this
       obtain ⟨uu, huu⟩ : ∃ uu, a2 ||| s1 = uu := ⟨_, rfl⟩
       have HUU := hid huu
       obtain ⟨wS, eS⟩ : ∃ wS, wi.setCell ⟨gq, m, none⟩ (uv uu) = wS := ⟨_, rfl⟩
       have HFS : Hid (Foot W.heap.size W wS (PRE ++ (bI GB (cxB G n (E0 G) (F0 G)).C (updA A (q, (xp, (d : Int) + 1)) s1) n ++ (l2 ++ [blkI w.heap.size (.cells #[tv, ov, sv, .slice pa np pc, .int .i64 G.start] 27 (0, 0)), blkI b38 (.cells #[.slice ko n kc, .slice no n nc] 38 (0, 0)), blkI b52 (.cells #[.slice (some ⟨g, 0, none⟩) N c, .slice (some ⟨gi, 0, none⟩) N N] 52 (0, 0)), blkI xb (.cells #[.int .i64 xp, .int .i64 (d : Int)] 110 (0, 0))])))) := hid (by
        have := foot_b HFi.out s1 g4 (HND.out q) HGM.out
        rw [HGQ.out, HA2.out, huu, eS] at this
        exact this)
       rw [huu]
       have HXN := hid ((HX.out).upd (t := (q, (xp, (d : Int) + 1))) (v := s1) (S13.X15.mem_places.2 ⟨g4, HGG.out.2⟩) hs1t (fun M hM h0 => by
        have h1 := (HX.out).base.snd M hM h0 (i, (xp, (d : Int))) (S13.X15.mem_places.2 ⟨hli, HXC.out⟩)
        rw [HS1.out] at h1
        have h2 := S13.X15.closed_goto hM (S13.X15.mem_places.2 ⟨hli, HXC.out⟩) HBX.out
        rw [HG2.out] at h2
        exact S13.sub_trans h1 h2))
       have HMN := hid (show MetC G n A0 (ch || (a2 ||| s1 != a2)) i (k + 1) from fun h => by
        obtain ⟨hc, hsub⟩ := S13.X15.or_quiet h
        have hst := (HX.out).stay hc
        obtain ⟨hmu, hq⟩ := HMQ.out hc
        refine hmu.next HXK.out (S13.X15.closed_at HBX.out ?_ hq)
        rw [HG2.out, ← hst, HS1.out, HA2.out]
        exact hsub)
       rw [HA2.out, huu] at HXN
       rw [huu] at HMN
       clear hbi huu Y0 Y1 Y2 Y3 Y4 Y5 Y6 X3 X4 X5 X6 KU HBH
       by_cases heq : uu = a2
       ·subst heq
        cases ch
        ·go_wp2_with fail
         refine ⟨⟨k + 1, _, false, by omega, by go_num, rfl, hid (by simpa using HXN.out), hid (by simpa using HMN.out), hid (ft_drop (m := [blkI w.heap.size (.cells #[tv, ov, sv, .slice pa np pc, .int .i64 G.start] 27 (0, 0)), blkI b38 (.cells #[.slice ko n kc, .slice no n nc] 38 (0, 0)), blkI b52 (.cells #[.slice (some ⟨g, 0, none⟩) N c, .slice (some ⟨gi, 0, none⟩) N N] 52 (0, 0))]) (m' := [blkI xb (.cells #[.int .i64 xp, .int .i64 (d : Int)] 110 (0, 0))]) HFS.out)⟩, ?_⟩
         simp [RowKit.intOf]
         omega
        ·go_wp2_with fail
         refine ⟨⟨k + 1, _, true, by omega, by go_num, rfl, hid (by simpa using HXN.out), hid (by simpa using HMN.out), hid (ft_drop (m := [blkI w.heap.size (.cells #[tv, ov, sv, .slice pa np pc, .int .i64 G.start] 27 (0, 0)), blkI b38 (.cells #[.slice ko n kc, .slice no n nc] 38 (0, 0)), blkI b52 (.cells #[.slice (some ⟨g, 0, none⟩) N c, .slice (some ⟨gi, 0, none⟩) N N] 52 (0, 0))]) (m' := [blkI xb (.cells #[.int .i64 xp, .int .i64 (d : Int)] 110 (0, 0))]) HFS.out)⟩, ?_⟩
         simp [RowKit.intOf]
         omega
       ·have zn : (((uu : Nat) : Int) != ((a2 : Nat) : Int)) = true := by
         rw [bne_iff_ne]
         omega
        have hne : (uu != a2) = true := by rw [bne_iff_ne]; exact heq
        rw [hne] at HXN HMN
        clear hne
        cases ch
        ·go_wp2_with fail
         refine ⟨⟨k + 1, _, true, by omega, by go_num, rfl, hid (by simpa using HXN.out), hid (by simpa using HMN.out), hid (ft_drop (m := [blkI w.heap.size (.cells #[tv, ov, sv, .slice pa np pc, .int .i64 G.start] 27 (0, 0)), blkI b38 (.cells #[.slice ko n kc, .slice no n nc] 38 (0, 0)), blkI b52 (.cells #[.slice (some ⟨g, 0, none⟩) N c, .slice (some ⟨gi, 0, none⟩) N N] 52 (0, 0))]) (m' := [blkI xb (.cells #[.int .i64 xp, .int .i64 (d : Int)] 110 (0, 0))]) HFS.out)⟩, ?_⟩
         simp [RowKit.intOf]
         omega
        ·go_wp2_with fail
         refine ⟨⟨k + 1, _, true, by omega, by go_num, rfl, hid (by simpa using HXN.out), hid (by simpa using HMN.out), hid (ft_drop (m := [blkI w.heap.size (.cells #[tv, ov, sv, .slice pa np pc, .int .i64 G.start] 27 (0, 0)), blkI b38 (.cells #[.slice ko n kc, .slice no n nc] 38 (0, 0)), blkI b52 (.cells #[.slice (some ⟨g, 0, none⟩) N c, .slice (some ⟨gi, 0, none⟩) N N] 52 (0, 0))]) (m' := [blkI xb (.cells #[.int .i64 xp, .int .i64 (d : Int)] 110 (0, 0))]) HFS.out)⟩, ?_⟩
         simp [RowKit.intOf]
         omega
    have z0 : decide (s < 0) = true := decide_eq_true hs
    have hs61 : -61 ≤ s := by
     obtain ⟨kk, e1, _⟩ := symOk HVAL.out _ s HBX.out
     have := valid_start HVAL.out
     unfold placeX at e1
     rw [if_neg (by omega)] at e1
     split at e1
     ·omega
     ·cases e1
    have hbxx := ft_box HF7.out (y := blkI xb (.cells #[.int .i64 xp, .int .i64 (d : Int)] 110 (0, 0))) (by simp)
    have hc0 := ft_box HF7.out (y := blkI w.heap.size (.cells #[tv, ov, sv, .slice pa np pc, .int .i64 G.start] 27 (0, 0))) (by simp)
    have c0 : w7.cell? ⟨w.heap.size, 0, none⟩ = some tv := Lib.cell_of_heap hc0 0
    have c1 : w7.cell? ⟨w.heap.size, 1, none⟩ = some ov := Lib.cell_of_heap hc0 1
    have c2 : w7.cell? ⟨w.heap.size, 2, none⟩ = some sv := Lib.cell_of_heap hc0 2
    have c3 : w7.cell? ⟨w.heap.size, 3, none⟩ = some (.slice pa np pc) := Lib.cell_of_heap hc0 3
    have c4 : w7.cell? ⟨w.heap.size, 4, none⟩ = some (.int .i64 G.start) := Lib.cell_of_heap hc0 4
    have Y0 := hid (show ∀ w', Below w7.heap.size w7 w' → w'.cell? ⟨w.heap.size, 0, none⟩ = some tv from fun w' hC => cell_below hC c0)
    have Y1 := hid (show ∀ w', Below w7.heap.size w7 w' → w'.cell? ⟨w.heap.size, 1, none⟩ = some ov from fun w' hC => cell_below hC c1)
    have Y2 := hid (show ∀ w', Below w7.heap.size w7 w' → w'.cell? ⟨w.heap.size, 2, none⟩ = some sv from fun w' hC => cell_below hC c2)
    have Y3 := hid (show ∀ w', Below w7.heap.size w7 w' → w'.cell? ⟨w.heap.size, 3, none⟩ = some (.slice pa np pc) from fun w' hC => cell_below hC c3)
    have Y4 := hid (show ∀ w', Below w7.heap.size w7 w' → w'.cell? ⟨w.heap.size, 4, none⟩ = some (.int .i64 G.start) from fun w' hC => cell_below hC c4)
    have Y5 := hid (show ∀ w', Below w7.heap.size w7 w' → w'.cell? ⟨xb, 1, none⟩ = some (.int .i64 (d : Int)) from fun w' hC => cell_below hC (Lib.cell_of_heap hbxx 1))
    have Y6 := hid (show ∀ w', Below w7.heap.size w7 w' → w'.cell? ⟨b52, 1, none⟩ = some (.slice (some ⟨gi, 0, none⟩) N N) from fun w' hC => cell_below hC t1)
    have Y7 := hid (show ∀ w', Below w7.heap.size w7 w' → w'.cell? ⟨gi, k, none⟩ = some (uv s0) from fun w' hC => cell_below hC t2)
    have hcut : IntsAt w7 (cutV rb2 rof rl rc2 (d + 1)) ((rightX G xp).drop (d + 1)) := by
     refine cut_at (fun i hi => ?_) HRL.out HRI.out.2 (by have := X14.right_le HVAL.out hp0 hp1; rw [HRL.out] at this; omega) hrc (d + 1)
     obtain ⟨a, c, e1, _, e2⟩ := HRI.out.1
     obtain ⟨b, off, e3, e4⟩ := e2 (by rw [HRL.out]; omega)
     subst e3
     injection e1 with e1 _ _
     injection e1 with e1
     injection e1 with e1 e5
     subst e1
     subst e5
     exact e4 i hi
    obtain ⟨mv, hmv⟩ : ∃ mv, S13.ofRow G.terms.length (E0 G) (F0 G) ((rightX G xp).drop (d + 1)) s0 = mv := ⟨_, rfl⟩
    have hmvt : mv < top := by rw [← hmv]; exact S13.ofRow_lt _ _ (S13.f0_least HVAL.out).2.2 _ hs0t
    have KO := hid (show ∀ w', Below w7.heap.size w7 w' → Calls Tryz.prog 93 #[.agg #[tv, ov, sv, .slice pa np pc, .int .i64 G.start], cutV rb2 rof rl rc2 (d + 1), uv s0] w' fun e w'' => e = .returned (uv mv) ∧ Below w'.heap.size w' w'' from fun w' hC => by
     refine (S13.RrowOf_any (HGA.out.mono ((HF7.out.below hC).bel)) HVAL.out (hcut.mono hC) (b := s0) hs0t).mono ?_
     rintro e w'' ⟨E, F, rfl, hE, hF, hb⟩
     obtain rfl : E = E0 G := hE.same (S13.e0_least HVAL.out)
     obtain rfl : F = F0 G := hF.sameN (S13.f0_least HVAL.out) (S13.evF_mono _ _ _ _)
     exact ⟨by rw [← hmv], hb⟩)
    have HRUN := hid (fun w' : World => run_cut rb2 rof rl rc2 d hdl w')
    have hw3 : IntKind.i64.wrap ((d : Int) + 1) = (d : Int) + 1 := wrap_small (by omega) (by omega)
    obtain ⟨cv, hcv⟩ : ∃ cv, cutV rb2 rof rl rc2 (d + 1) = cv := ⟨_, rfl⟩
    rw [hcv] at KO HRUN
    have HMV := hid hmv
    have HMP0 := hid (show MetP G n A0 ch i k xp d s s0 mv 0 from fun h => by
     have e := HX.out.stay h
     exact ⟨HM.out h, by rw [← e]; exact HS0.out.symm, fun p' y hp => absurd hp (Nat.not_lt_zero p')⟩)
    clear hbxx hc0 c0 c1 c2 c3 c4 hcut hmv hcv
    go_wp2_with fail
    clear t1 t2
    refine wp_region_below (by kernel_rfl) (by kernel_rfl) ?_
    iterate 5
     with_reducible refine BigFrame.wpQuiet_want (by kernel_rfl) (fun K hK => ?_)
     apply Exists.intro
     refine ⟨fun w' hC => ?_, hK _ ?_⟩
     ·have f0' := Y0.out w' hC
      have f1' := Y1.out w' hC
      have f2' := Y2.out w' hC
      have f3' := Y3.out w' hC
      have f4' := Y4.out w' hC
      have f5' := Y5.out w' hC
      have f6' := Y6.out w' hC
      have f7' := Y7.out w' hC
      unfold Oper.quietAt
      go_simp
      first | with_reducible rfl | done
     clear hK K
     try simp only [Act.put, sjA, sj0, sjS, hw3]
    with_reducible refine BigFrame.wpQuiet_want (by kernel_rfl) (fun K hK => ?_)
    apply Exists.intro
    refine ⟨fun w' hC => ?_, hK _ ?_⟩
    ·unfold Oper.quietAt
     rw [slice_exec rfl rfl rfl (by kernel_rfl) (HRUN.out w')]
     exact ⟨rfl, rfl⟩
    clear hK K
    try simp only [Act.put, sjA, sj0, sjS, hw3]
    iterate 7
     with_reducible refine BigFrame.wpQuiet_want (by kernel_rfl) (fun K hK => ?_)
     apply Exists.intro
     refine ⟨fun w' hC => ?_, hK _ ?_⟩
     ·have f0' := Y0.out w' hC
      have f1' := Y1.out w' hC
      have f2' := Y2.out w' hC
      have f3' := Y3.out w' hC
      have f4' := Y4.out w' hC
      have f5' := Y5.out w' hC
      have f6' := Y6.out w' hC
      have f7' := Y7.out w' hC
      unfold Oper.quietAt
      go_simp
      first | with_reducible rfl | with_reducible exact below_call hC (Nat.le_refl _) (KO.out w' hC)
     clear hK K
     try simp only [Act.put, sjA, sj0, sjS, hw3]
    refine wpQuiet_nil ?_
    intro w8 hb8
    have HF8 : Hid (Foot W.heap.size W w8 (PRE ++ (bI GB (cxB G n (E0 G) (F0 G)).C A n ++ (l2 ++ [blkI w.heap.size (.cells #[tv, ov, sv, .slice pa np pc, .int .i64 G.start] 27 (0, 0)), blkI b38 (.cells #[.slice ko n kc, .slice no n nc] 38 (0, 0)), blkI b52 (.cells #[.slice (some ⟨g, 0, none⟩) N c, .slice (some ⟨gi, 0, none⟩) N N] 52 (0, 0)), blkI xb (.cells #[.int .i64 xp, .int .i64 (d : Int)] 110 (0, 0))])))) := hid (HF7.out.below hb8)
    clear hb8 hw3 KO HRUN Y0 Y1 Y2 Y3 Y4 Y5 Y6 Y7 HF7 t0 HM
    go_wp2_with fail
    go_loopw [7, 16, 17, 18] (fun t7 t16 t17 t18 wr => ∃ (p : Nat) (A : Pl → Nat) (ch : Bool), p ≤ N ∧ t16 = .int .i64 (p : Int) ∧ t7 = .bool ch ∧ Hid (RX (askX (cxB G n (E0 G) (F0 G))) (places (cxB G n (E0 G) (F0 G)) n) (0, (-1, 0)) (bitN 63) A0 A ch) ∧ Hid (MetP G n A0 ch i k xp d s s0 mv p) ∧ Hid (Foot W.heap.size W wr (PRE ++ (bI GB (cxB G n (E0 G) (F0 G)).C A n ++ (l2 ++ [blkI w.heap.size (.cells #[tv, ov, sv, .slice pa np pc, .int .i64 G.start] 27 (0, 0)), blkI b38 (.cells #[.slice ko n kc, .slice no n nc] 38 (0, 0)), blkI b52 (.cells #[.slice (some ⟨g, 0, none⟩) N c, .slice (some ⟨gi, 0, none⟩) N N] 52 (0, 0)), blkI xb (.cells #[.int .i64 xp, .int .i64 (d : Int)] 110 (0, 0))]))))) (fun _ t16 _ _ _ => N - (RowKit.intOf t16).toNat)
    case atStart => exact ⟨0, A, ch, Nat.zero_le _, rfl, rfl, HX, HMP0, HF8⟩
    case round =>
     obtain ⟨hSN, hS0⟩ : (∀ M : Pl → Nat, S13.X15.ClosedA (askX (cxB G n (E0 G) (F0 G))) (places (cxB G n (E0 G) (F0 G)) n) M → Sub (bitN 63) (M (0, (-1, 0))) → Sub s0 (M (i, (xp, (d : Int))))) ∧ True := ⟨fun M hM h0 => by
      have := HX.out.base.snd M hM h0 (i, (xp, (d : Int))) (S13.X15.mem_places.2 ⟨hli, HXC.out⟩)
      rw [HS0.out] at this
      exact this, trivial⟩
     have HSN := hid hSN
     clear hSN hS0 HX HMP0 HF8 HS0
     obtain ⟨p, A, ch, hpN, rfl, rfl, HX, HMP, HF⟩ := hrel
     have hb52 := ft_box HF.out (y := blkI b52 (.cells #[.slice (some ⟨g, 0, none⟩) N c, .slice (some ⟨gi, 0, none⟩) N N] 52 (0, 0))) (by simp)
     have t0 : wr.cell? ⟨b52, 0, none⟩ = some (.slice (some ⟨g, 0, none⟩) N c) := Lib.cell_of_heap hb52 0
     have t1 : wr.cell? ⟨b52, 1, none⟩ = some (.slice (some ⟨gi, 0, none⟩) N N) := Lib.cell_of_heap hb52 1
     clear hb52
     by_cases hpl : p < N
     case neg =>
      have z1 : ¬ (p : Int) < (N : Int) := by omega
      have HMQ := hid (show ch = false → MetUp (cxB G n (E0 G) (F0 G)) A0 i k ∧ (s < 0 → ∀ q : Nat, q < (cxB G n (E0 G) (F0 G)).G.prods.length → sortX (cxB G n (E0 G) (F0 G)).G q = -1 - s → Sub (S13.ofRow (cxB G n (E0 G) (F0 G)).G.terms.length (cxB G n (E0 G) (F0 G)).E (cxB G n (E0 G) (F0 G)).F (S13.X15.restX (cxB G n (E0 G) (F0 G)).G (xp, (d : Int))) (A0 (i, (xp, (d : Int))))) (A0 (i, ((q : Int), 0)))) from fun h => by
       obtain ⟨h1, h2, h3⟩ := HMP.out h
       refine ⟨h1, fun _ q hq hsq => ?_⟩
       have hin := HCX.out.more i (xp, (d : Int)) s q hli HXC.out HBX.out hs hq hsq
       obtain ⟨p', hp'⟩ := List.mem_iff_getElem?.1 hin
       have := h3 p' q (by have := (List.getElem?_eq_some_iff.1 hp').1; rw [HN.out] at this; omega) hp' hsq
       rw [← HMV.out, h2] at this
       exact this)
      clear t1
      as_aux_lemma =>
       have hc0 := ft_box HF.out (y := blkI w.heap.size (.cells #[tv, ov, sv, .slice pa np pc, .int .i64 G.start] 27 (0, 0))) (by simp)
       have c0 : wr.cell? ⟨w.heap.size, 0, none⟩ = some tv := Lib.cell_of_heap hc0 0
       have c1 : wr.cell? ⟨w.heap.size, 1, none⟩ = some ov := Lib.cell_of_heap hc0 1
       have c2 : wr.cell? ⟨w.heap.size, 2, none⟩ = some sv := Lib.cell_of_heap hc0 2
       have c3 : wr.cell? ⟨w.heap.size, 3, none⟩ = some (.slice pa np pc) := Lib.cell_of_heap hc0 3
       have c4 : wr.cell? ⟨w.heap.size, 4, none⟩ = some (.int .i64 G.start) := Lib.cell_of_heap hc0 4
       have ha0 := ft_box HF.out (y := blkI b38 (.cells #[.slice ko n kc, .slice no n nc] 38 (0, 0))) (by simp)
       have a0 : wr.cell? ⟨b38, 0, none⟩ = some (.slice ko n kc) := Lib.cell_of_heap ha0 0
       have a1 : wr.cell? ⟨b38, 1, none⟩ = some (.slice no n nc) := Lib.cell_of_heap ha0 1
       have KG := RGo_any (HGr.out.below HF.out.bel) (HAV.out.below HF.out.bel) HNX.out (i : Int) s HSR.out.1 HSR.out.2
       rw [HG1.out] at KG
       have KG := hid KG
       clear hc0 ha0
       go_wp2_with fail
       refine KG.out.mono ?_
       rintro e wg ⟨rfl, hbg⟩
       have HFg : Hid (Foot W.heap.size W wg (PRE ++ (bI GB (cxB G n (E0 G) (F0 G)).C A n ++ (l2 ++ [blkI w.heap.size (.cells #[tv, ov, sv, .slice pa np pc, .int .i64 G.start] 27 (0, 0)), blkI b38 (.cells #[.slice ko n kc, .slice no n nc] 38 (0, 0)), blkI b52 (.cells #[.slice (some ⟨g, 0, none⟩) N c, .slice (some ⟨gi, 0, none⟩) N N] 52 (0, 0)), blkI xb (.cells #[.int .i64 xp, .int .i64 (d : Int)] 110 (0, 0))])))) := hid (HF.out.below hbg)
       clear KG hbg c0 c1 c2 c3 c4 a0 a1
       try clear t0
       obtain ⟨gz, cz, t0, t1, hrz, hgz⟩ := HCE.out _ _ HFg.out q g4
       obtain ⟨N2, hN2⟩ : ∃ N2, ((cxB G n (E0 G) (F0 G)).C q).length = N2 := ⟨_, rfl⟩
       have hN2le : N2 ≤ 1573 := by rw [← hN2]; exact HCL.out q
       obtain ⟨gq, hgq⟩ : ∃ gq, GB.getD q 0 = gq := ⟨_, rfl⟩
       have HGQ := hid hgq
       rw [hN2] at t0 t1
       rw [hgq] at t1
       have hgo := HCX.out.goto_ i (xp, (d : Int)) s hli HXC.out HBX.out
       rw [HG2.out] at hgo
       obtain ⟨m, hm⟩ := List.mem_iff_getElem?.1 hgo.2
       have hm : ((cxB G n (E0 G) (F0 G)).C q)[m]? = some (xp, (d : Int) + 1) := hm
       have hml : m < N2 := by rw [← hN2]; exact (List.getElem?_eq_some_iff.1 hm).1
       have HFD := hid (show ItemsAt wg (.slice (some ⟨gz, 0, none⟩) N2 cz) ((cxB G n (E0 G) (F0 G)).C q) from by
        rw [← hN2]
        exact rowH_items hrz (by rw [hN2]; omega))
       have KF := hid (show ∀ w', Below wg.heap.size wg w' → Calls Tryz.prog 48 #[.slice (some ⟨gz, 0, none⟩) N2 cz, .agg #[.int .i64 xp, .int .i64 ((d : Int) + 1)]] w' fun e w'' => e = .returned (.int .i64 (m : Int)) ∧ Below w'.heap.size w' w'' from fun w' hC => by
        have := Find_any (xp, (d : Int) + 1) (HFD.out.below hC) (by rw [hN2]; omega)
        rw [S13.X15.findX_some (HND.out q) hm] at this
        exact this)
       have hbxx := ft_box HFg.out (y := blkI xb (.cells #[.int .i64 xp, .int .i64 (d : Int)] 110 (0, 0))) (by simp)
       have hb52 := ft_box HFg.out (y := blkI b52 (.cells #[.slice (some ⟨g, 0, none⟩) N c, .slice (some ⟨gi, 0, none⟩) N N] 52 (0, 0))) (by simp)
       have hci := foot_bcell HFg.out hli HXK.out
       have hcq := foot_bcell HFg.out g4 hm
       rw [HGI.out] at hci
       rw [hgq] at hcq
       obtain ⟨a2, ha2⟩ : ∃ a2, A (q, (xp, (d : Int) + 1)) = a2 := ⟨_, rfl⟩
       obtain ⟨s1, hs1⟩ : ∃ s1, A (i, (xp, (d : Int))) = s1 := ⟨_, rfl⟩
       rw [hs1] at hci
       rw [ha2] at hcq
       have HA2 := hid ha2
       have HS1 := hid hs1
       have ha2t : a2 < top := by rw [← ha2]; exact HX.out.base.low _
       have hs1t : s1 < top := by rw [← hs1]; exact HX.out.base.low _
       have Y0 := hid (show ∀ w', Below wg.heap.size wg w' → w'.cell? ⟨rb, rf + q * 2, none⟩ = some (.slice (some ⟨gz, 0, none⟩) N2 cz) from fun w' hC => cell_below hC t0)
       have Y1 := hid (show ∀ w', Below wg.heap.size wg w' → w'.cell? ⟨xb, 0, none⟩ = some (.int .i64 xp) from fun w' hC => cell_below hC (Lib.cell_of_heap hbxx 0))
       have Y2 := hid (show ∀ w', Below wg.heap.size wg w' → w'.cell? ⟨xb, 1, none⟩ = some (.int .i64 (d : Int)) from fun w' hC => cell_below hC (Lib.cell_of_heap hbxx 1))
       have Y3 := hid (show ∀ w', Below wg.heap.size wg w' → w'.cell? ⟨rb, rf + q * 2 + 1, none⟩ = some (.slice (some ⟨gq, 0, none⟩) N2 N2) from fun w' hC => cell_below hC t1)
       have Y4 := hid (show ∀ w', Below wg.heap.size wg w' → w'.cell? ⟨b52, 1, none⟩ = some (.slice (some ⟨gi, 0, none⟩) N N) from fun w' hC => cell_below hC (Lib.cell_of_heap hb52 1))
       have Y5 := hid (show ∀ w', Below wg.heap.size wg w' → w'.cell? ⟨gi, k, none⟩ = some (uv s1) from fun w' hC => cell_below hC hci.1)
       have Y6 := hid (show ∀ w', Below wg.heap.size wg w' → w'.cell? ⟨gq, m, none⟩ = some (uv a2) from fun w' hC => cell_below hC hcq.1)
       have HGM := hid hm
       have HGG := hid (And.intro hgo.1 hgo.2)
       have hwd : IntKind.i64.wrap ((d : Int) + 1) = (d : Int) + 1 := wrap_small (by omega) (by omega)
       have q1' : (q : Int) < (n : Int) := by omega
       have q0' : (0 : Int) ≤ (q : Int) := by omega
       have w1' : (m : Int) < (N2 : Int) := by omega
       have w0' : (0 : Int) ≤ (m : Int) := by omega
       clear t0 t1 hrz hgz hN2 hgq hgo hm HFD hbxx hb52 hci hcq ha2 hs1
       go_wp2_with fail
       refine wp_region_below (by kernel_rfl) (by kernel_rfl) ?_
       iterate 13
        with_reducible refine BigFrame.wpQuiet_want (by kernel_rfl) (fun K hK => ?_)
        apply Exists.intro
        refine ⟨fun w' hC => ?_, hK _ ?_⟩
        ·have f0' := Y0.out w' hC
         have f1' := Y1.out w' hC
         have f2' := Y2.out w' hC
         unfold Oper.quietAt
         go_simp
         first | with_reducible rfl | with_reducible exact below_call hC (Nat.le_refl _) (KF.out w' hC)
        clear hK K
        try simp only [Act.put, sjA, sj0, sjS, hwd]
       refine wpQuiet_nil ?_
       intro wh hbh
       have HFh : Hid (Foot W.heap.size W wh (PRE ++ (bI GB (cxB G n (E0 G) (F0 G)).C A n ++ (l2 ++ [blkI w.heap.size (.cells #[tv, ov, sv, .slice pa np pc, .int .i64 G.start] 27 (0, 0)), blkI b38 (.cells #[.slice ko n kc, .slice no n nc] 38 (0, 0)), blkI b52 (.cells #[.slice (some ⟨g, 0, none⟩) N c, .slice (some ⟨gi, 0, none⟩) N N] 52 (0, 0)), blkI xb (.cells #[.int .i64 xp, .int .i64 (d : Int)] 110 (0, 0))])))) := hid (HFg.out.below hbh)
       have HBH := hid hbh
       clear hbh hwd KF
       go_wp2_with fail
       have KU := hid (show ∀ w', Below wh.heap.size wh w' → Calls Tryz.prog 94 #[uv a2, uv s1] w' fun e w'' => e = .returned (uv (a2 ||| s1)) ∧ Below w'.heap.size w' w'' from fun w' hC => S13.RUnion_any a2 s1 ha2t hs1t w')
       have X3 := hid (show ∀ w', Below wh.heap.size wh w' → w'.cell? ⟨rb, rf + q * 2 + 1, none⟩ = some (.slice (some ⟨gq, 0, none⟩) N2 N2) from fun w' hC => Y3.out w' (HBH.out.trans (hC.mono HBH.out.size)))
       have X4 := hid (show ∀ w', Below wh.heap.size wh w' → w'.cell? ⟨b52, 1, none⟩ = some (.slice (some ⟨gi, 0, none⟩) N N) from fun w' hC => Y4.out w' (HBH.out.trans (hC.mono HBH.out.size)))
       have X5 := hid (show ∀ w', Below wh.heap.size wh w' → w'.cell? ⟨gi, k, none⟩ = some (uv s1) from fun w' hC => Y5.out w' (HBH.out.trans (hC.mono HBH.out.size)))
       have X6 := hid (show ∀ w', Below wh.heap.size wh w' → w'.cell? ⟨gq, m, none⟩ = some (uv a2) from fun w' hC => Y6.out w' (HBH.out.trans (hC.mono HBH.out.size)))
       refine wp_region_below (by kernel_rfl) (by kernel_rfl) ?_
       iterate 15
        with_reducible refine BigFrame.wpQuiet_want (by kernel_rfl) (fun K hK => ?_)
        apply Exists.intro
        refine ⟨fun w' hC => ?_, hK _ ?_⟩
        ·have f0' := X3.out w' hC
         have f1' := X4.out w' hC
         have f2' := X5.out w' hC
         have f3' := X6.out w' hC
         unfold Oper.quietAt
         go_simp
         first | with_reducible rfl | with_reducible exact below_call hC (Nat.le_refl _) (KU.out w' hC)
        clear hK K
        try simp only [Act.put, sjA, sj0, sjS]
       refine wpQuiet_nil ?_
       intro wi hbi
       have HFi : Hid (Foot W.heap.size W wi (PRE ++ (bI GB (cxB G n (E0 G) (F0 G)).C A n ++ (l2 ++ [blkI w.heap.size (.cells #[tv, ov, sv, .slice pa np pc, .int .i64 G.start] 27 (0, 0)), blkI b38 (.cells #[.slice ko n kc, .slice no n nc] 38 (0, 0)), blkI b52 (.cells #[.slice (some ⟨g, 0, none⟩) N c, .slice (some ⟨gi, 0, none⟩) N N] 52 (0, 0)), blkI xb (.cells #[.int .i64 xp, .int .i64 (d : Int)] 110 (0, 0))])))) := hid (HFh.out.below hbi)
       have t3 := X3.out wi hbi
       have t6 := X6.out wi hbi
       have hfrz : wi.frozen? ⟨gq, m, none⟩ = false := by
        have := (foot_bcell HFi.out g4 HGM.out).2
        rw [HGQ.out] at this
        exact this
       obtain ⟨uu, huu⟩ : ∃ uu, a2 ||| s1 = uu := ⟨_, rfl⟩
       have HUU := hid huu
       obtain ⟨wS, eS⟩ : ∃ wS, wi.setCell ⟨gq, m, none⟩ (uv uu) = wS := ⟨_, rfl⟩
       have HFS : Hid (Foot W.heap.size W wS (PRE ++ (bI GB (cxB G n (E0 G) (F0 G)).C (updA A (q, (xp, (d : Int) + 1)) s1) n ++ (l2 ++ [blkI w.heap.size (.cells #[tv, ov, sv, .slice pa np pc, .int .i64 G.start] 27 (0, 0)), blkI b38 (.cells #[.slice ko n kc, .slice no n nc] 38 (0, 0)), blkI b52 (.cells #[.slice (some ⟨g, 0, none⟩) N c, .slice (some ⟨gi, 0, none⟩) N N] 52 (0, 0)), blkI xb (.cells #[.int .i64 xp, .int .i64 (d : Int)] 110 (0, 0))])))) := hid (by
        have := foot_b HFi.out s1 g4 (HND.out q) HGM.out
        rw [HGQ.out, HA2.out, huu, eS] at this
        exact this)
       rw [huu]
       have HXN := hid ((HX.out).upd (t := (q, (xp, (d : Int) + 1))) (v := s1) (S13.X15.mem_places.2 ⟨g4, HGG.out.2⟩) hs1t (fun M hM h0 => by
        have h1 := (HX.out).base.snd M hM h0 (i, (xp, (d : Int))) (S13.X15.mem_places.2 ⟨hli, HXC.out⟩)
        rw [HS1.out] at h1
        have h2 := S13.X15.closed_goto hM (S13.X15.mem_places.2 ⟨hli, HXC.out⟩) HBX.out
        rw [HG2.out] at h2
        exact S13.sub_trans h1 h2))
       have HMN := hid (show MetC G n A0 (ch || (a2 ||| s1 != a2)) i (k + 1) from fun h => by
        obtain ⟨hc, hsub⟩ := S13.X15.or_quiet h
        have hst := (HX.out).stay hc
        obtain ⟨hmu, hq⟩ := HMQ.out hc
        refine hmu.next HXK.out (S13.X15.closed_at HBX.out ?_ hq)
        rw [HG2.out, ← hst, HS1.out, HA2.out]
        exact hsub)
       rw [HA2.out, huu] at HXN
       rw [huu] at HMN
       clear hbi huu Y0 Y1 Y2 Y3 Y4 Y5 Y6 X3 X4 X5 X6 KU HBH
       by_cases heq : uu = a2
       ·subst heq
        cases ch
        ·go_wp2_with fail
         refine ⟨⟨k + 1, _, false, by omega, by go_num, rfl, hid (by simpa using HXN.out), hid (by simpa using HMN.out), hid (ft_drop (m := [blkI w.heap.size (.cells #[tv, ov, sv, .slice pa np pc, .int .i64 G.start] 27 (0, 0)), blkI b38 (.cells #[.slice ko n kc, .slice no n nc] 38 (0, 0)), blkI b52 (.cells #[.slice (some ⟨g, 0, none⟩) N c, .slice (some ⟨gi, 0, none⟩) N N] 52 (0, 0))]) (m' := [blkI xb (.cells #[.int .i64 xp, .int .i64 (d : Int)] 110 (0, 0))]) HFS.out)⟩, ?_⟩
         simp [RowKit.intOf]
         omega
        ·go_wp2_with fail
         refine ⟨⟨k + 1, _, true, by omega, by go_num, rfl, hid (by simpa using HXN.out), hid (by simpa using HMN.out), hid (ft_drop (m := [blkI w.heap.size (.cells #[tv, ov, sv, .slice pa np pc, .int .i64 G.start] 27 (0, 0)), blkI b38 (.cells #[.slice ko n kc, .slice no n nc] 38 (0, 0)), blkI b52 (.cells #[.slice (some ⟨g, 0, none⟩) N c, .slice (some ⟨gi, 0, none⟩) N N] 52 (0, 0))]) (m' := [blkI xb (.cells #[.int .i64 xp, .int .i64 (d : Int)] 110 (0, 0))]) HFS.out)⟩, ?_⟩
         simp [RowKit.intOf]
         omega
       ·have zn : (((uu : Nat) : Int) != ((a2 : Nat) : Int)) = true := by
         rw [bne_iff_ne]
         omega
        have hne : (uu != a2) = true := by rw [bne_iff_ne]; exact heq
        rw [hne] at HXN HMN
        clear hne
        cases ch
        ·go_wp2_with fail
         refine ⟨⟨k + 1, _, true, by omega, by go_num, rfl, hid (by simpa using HXN.out), hid (by simpa using HMN.out), hid (ft_drop (m := [blkI w.heap.size (.cells #[tv, ov, sv, .slice pa np pc, .int .i64 G.start] 27 (0, 0)), blkI b38 (.cells #[.slice ko n kc, .slice no n nc] 38 (0, 0)), blkI b52 (.cells #[.slice (some ⟨g, 0, none⟩) N c, .slice (some ⟨gi, 0, none⟩) N N] 52 (0, 0))]) (m' := [blkI xb (.cells #[.int .i64 xp, .int .i64 (d : Int)] 110 (0, 0))]) HFS.out)⟩, ?_⟩
         simp [RowKit.intOf]
         omega
        ·go_wp2_with fail
         refine ⟨⟨k + 1, _, true, by omega, by go_num, rfl, hid (by simpa using HXN.out), hid (by simpa using HMN.out), hid (ft_drop (m := [blkI w.heap.size (.cells #[tv, ov, sv, .slice pa np pc, .int .i64 G.start] 27 (0, 0)), blkI b38 (.cells #[.slice ko n kc, .slice no n nc] 38 (0, 0)), blkI b52 (.cells #[.slice (some ⟨g, 0, none⟩) N c, .slice (some ⟨gi, 0, none⟩) N N] 52 (0, 0))]) (m' := [blkI xb (.cells #[.int .i64 xp, .int .i64 (d : Int)] 110 (0, 0))]) HFS.out)⟩, ?_⟩
         simp [RowKit.intOf]
         omega
     have p1' : (p : Int) < (N : Int) := by omega
     have p0' : (0 : Int) ≤ (p : Int) := by omega
     obtain ⟨⟨yp, yd⟩, hy⟩ : ∃ x, ((cxB G n (E0 G) (F0 G)).C i)[p]? = some x := ⟨_, List.getElem?_eq_getElem (by rw [HN.out]; exact hpl)⟩
     have hrow := HFZ.out _ _ HF.out g i HGF.out
     have hyr := hrow p (by rw [HN.out]; exact hpl)
     have hye : ((cxB G n (E0 G) (F0 G)).C i)[p]'(by rw [HN.out]; exact hpl) = (yp, yd) := (List.getElem?_eq_some_iff.1 hy).2
     rw [hye] at hyr
     have r0 := hyr.1
     have r1 := hyr.2.1
     have HYC := hid hy
     have hyt := X14.there_iff.1 ((S13.X15.mem_C.1 (List.mem_of_getElem? hy)).there)
     have hyp1 : yp < (G.prods.length : Int) := hyt.2.1
     obtain ⟨wa, ea⟩ : ∃ z, wr.alloc (.cells #[.int .i64 0, .int .i64 0] 110) = z := ⟨_, rfl⟩
     have na : wa.heap[wr.heap.size]? = some (.cells #[.int .i64 0, .int .i64 0] 110 (0, 0)) := by rw [← ea]; exact new_block _ _
     have hba : Below wr.heap.size wr wa := by rw [← ea]; exact (Below.refl _ _).alloc (Nat.le_refl _) _
     have vc0 : wa.cell? ⟨wr.heap.size, 0, none⟩ = some (.int .i64 0) := Lib.cell_of_heap na 0
     have vf0 := Lib.frozen_of_heap na 0
     obtain ⟨u1, ve0⟩ : ∃ z, wa.setCell ⟨wr.heap.size, 0, none⟩ (.int .i64 yp) = z := ⟨_, rfl⟩
     have m1 : u1.heap[wr.heap.size]? = some (.cells #[.int .i64 yp, .int .i64 0] 110 (0, 0)) := by rw [← ve0]; exact heap_setCell_same _ _ 0 _ 110 _ na
     have vc1 : u1.cell? ⟨wr.heap.size, 1, none⟩ = some (.int .i64 0) := Lib.cell_of_heap m1 1
     have vf1 := Lib.frozen_of_heap m1 1
     obtain ⟨u2, ve1⟩ : ∃ z, u1.setCell ⟨wr.heap.size, 1, none⟩ (.int .i64 yd) = z := ⟨_, rfl⟩
     have m2 : u2.heap[wr.heap.size]? = some (.cells #[.int .i64 yp, .int .i64 yd] 110 (0, 0)) := by rw [← ve1]; exact heap_setCell_same _ _ 1 _ 110 _ m1
     have hbu : Below wr.heap.size wr u2 := by
      rw [← ve1, ← ve0]
      exact (hba.setCell (Nat.le_refl _) _).setCell (Nat.le_refl _) _
     have hfy := ft_new HF.out hbu m2
     have y0 : u2.cell? ⟨wr.heap.size, 0, none⟩ = some (.int .i64 yp) := Lib.cell_of_heap m2 0
     have y1 : u2.cell? ⟨wr.heap.size, 1, none⟩ = some (.int .i64 yd) := Lib.cell_of_heap m2 1
     have t1 := cell_below hbu t1
     have hc0 := ft_box hfy (y := blkI w.heap.size (.cells #[tv, ov, sv, .slice pa np pc, .int .i64 G.start] 27 (0, 0))) (by simp)
     have c3 : u2.cell? ⟨w.heap.size, 3, none⟩ = some (.slice pa np pc) := Lib.cell_of_heap hc0 3
     have HFY := hid (ft_drop (m := [blkI w.heap.size (.cells #[tv, ov, sv, .slice pa np pc, .int .i64 G.start] 27 (0, 0)), blkI b38 (.cells #[.slice ko n kc, .slice no n nc] 38 (0, 0)), blkI b52 (.cells #[.slice (some ⟨g, 0, none⟩) N c, .slice (some ⟨gi, 0, none⟩) N N] 52 (0, 0)), blkI xb (.cells #[.int .i64 xp, .int .i64 (d : Int)] 110 (0, 0))]) (m' := [blkI wr.heap.size (.cells #[.int .i64 yp, .int .i64 yd] 110 (0, 0))]) hfy)
     have HMN : ¬ (yd = 0 ∧ ∃ q : Nat, yp = (q : Int) ∧ sortX G q = -1 - s) → Hid (MetP G n A0 ch i k xp d s s0 mv (p + 1)) := fun hno => hid (fun h => by
      obtain ⟨h1, h2, h3⟩ := HMP.out h
      refine ⟨h1, h2, fun p' q hp' hpq hsq => ?_⟩
      rcases Nat.lt_or_ge p' p with e | e
      ·exact h3 p' q e hpq hsq
      ·obtain rfl : p' = p := by omega
       rw [HYC.out] at hpq
       injection hpq with hpq
       injection hpq with e1 e2
       exact absurd ⟨e2, q, e1, hsq⟩ hno)
     have HMN := hid HMN
     clear na m1 m2 hba hbu hfy hc0 hy hrow hyr hye hyt HF
     by_cases hyd : yd = 0
     case neg =>
      have z1 : (yd == 0) = false := by rw [beq_eq_false_iff_ne]; exact hyd
      have HM9 := HMN.out (fun h => hyd h.1)
      go_wp2_with fail
      refine ⟨⟨p + 1, A, ch, by omega, by go_num, rfl, HX, HM9, HFY⟩, ?_⟩
      simp [RowKit.intOf]
      omega
     subst hyd
     by_cases hyp : 0 ≤ yp
     case neg =>
      have z1 : decide (0 ≤ yp) = false := decide_eq_false hyp
      have HM9 := HMN.out (fun ⟨_, q, h, _⟩ => hyp (by omega))
      go_wp2_with fail
      refine ⟨⟨p + 1, A, ch, by omega, by go_num, rfl, HX, HM9, HFY⟩, ?_⟩
      simp [RowKit.intOf]
      omega
     obtain ⟨r, rfl⟩ : ∃ r : Nat, yp = (r : Int) := ⟨yp.toNat, by omega⟩
     have hrl2 : r < np := by omega
     obtain ⟨pb, po, hpa, hpq⟩ := hpx (by omega)
     obtain ⟨_, p1, _, _⟩ := hpq r (by omega)
     obtain ⟨so, hso⟩ : ∃ so, (G.prods.getD r default).sort = so := ⟨_, rfl⟩
     rw [hso] at p1
     have HSO := hid hso
     have p1 := cell_below HFY.out.bel p1
     rw [hpa] at c3
     have z1 : decide ((0 : Int) ≤ (r : Int)) = true := decide_eq_true (by omega)
     have z2 : (r : Int) < (np : Int) := by omega
     have z3 : (0 : Int) ≤ (r : Int) := by omega
     have hw2 : IntKind.i64.wrap (-1 - s) = -1 - s := wrap_small (by omega) (by omega)
     clear hpq hso
     by_cases hss : so = -1 - s
     case neg =>
      have z4 : (so == -1 - s) = false := by rw [beq_eq_false_iff_ne]; exact hss
      have HM9 := HMN.out (fun ⟨_, q, h, h2⟩ => hss (by
       obtain rfl : q = r := by omega
       rw [← HSO.out]
       exact h2))
      clear hpa hyp hw2
      go_wp2_with fail
      refine ⟨⟨p + 1, A, ch, by omega, by go_num, rfl, HX, HM9, HFY⟩, ?_⟩
      simp [RowKit.intOf]
      omega
     subst hss
     as_aux_lemma =>
      have z4 : ((-1 - s : Int) == -1 - s) = true := by rw [beq_iff_eq]
      have hcp := foot_bcell HFY.out hli HYC.out
      rw [HGI.out] at hcp
      obtain ⟨a1, ha1⟩ : ∃ a1, A (i, ((r : Int), (0 : Int))) = a1 := ⟨_, rfl⟩
      rw [ha1] at hcp
      have HA1 := hid ha1
      have ha1t : a1 < top := by rw [← ha1]; exact HX.out.base.low _
      have t6 : u2.cell? ⟨gi, p, none⟩ = some (uv a1) := hcp.1
      have KU := hid (S13.RUnion_any a1 mv ha1t hmvt u2)
      have HRL2 := hid hrl2
      clear hcp ha1 hpa hyp HMN
      go_wp2_with fail
      refine KU.out.mono ?_
      rintro e w9 ⟨rfl, hb9⟩
      have HF9 : Hid (Foot W.heap.size W w9 (PRE ++ (bI GB (cxB G n (E0 G) (F0 G)).C A n ++ (l2 ++ [blkI w.heap.size (.cells #[tv, ov, sv, .slice pa np pc, .int .i64 G.start] 27 (0, 0)), blkI b38 (.cells #[.slice ko n kc, .slice no n nc] 38 (0, 0)), blkI b52 (.cells #[.slice (some ⟨g, 0, none⟩) N c, .slice (some ⟨gi, 0, none⟩) N N] 52 (0, 0)), blkI xb (.cells #[.int .i64 xp, .int .i64 (d : Int)] 110 (0, 0))])))) := hid (HFY.out.below hb9)
      have t1 := cell_below hb9 t1
      have t6 := cell_below hb9 t6
      have hfrz : w9.frozen? ⟨gi, p, none⟩ = false := by
       have := (foot_bcell HF9.out hli HYC.out).2
       rw [HGI.out] at this
       exact this
      obtain ⟨uu, huu⟩ : ∃ uu, a1 ||| mv = uu := ⟨_, rfl⟩
      obtain ⟨wS, eS⟩ : ∃ wS, w9.setCell ⟨gi, p, none⟩ (uv uu) = wS := ⟨_, rfl⟩
      have HFS : Hid (Foot W.heap.size W wS (PRE ++ (bI GB (cxB G n (E0 G) (F0 G)).C (updA A (i, ((r : Int), (0 : Int))) mv) n ++ (l2 ++ [blkI w.heap.size (.cells #[tv, ov, sv, .slice pa np pc, .int .i64 G.start] 27 (0, 0)), blkI b38 (.cells #[.slice ko n kc, .slice no n nc] 38 (0, 0)), blkI b52 (.cells #[.slice (some ⟨g, 0, none⟩) N c, .slice (some ⟨gi, 0, none⟩) N N] 52 (0, 0)), blkI xb (.cells #[.int .i64 xp, .int .i64 (d : Int)] 110 (0, 0))])))) := hid (by
       have := foot_b HF9.out mv hli (HND.out i) HYC.out
       rw [HGI.out, HA1.out, huu, eS] at this
       exact this)
      have hinP : (i, ((r : Int), (0 : Int))) ∈ places (cxB G n (E0 G) (F0 G)) n := S13.X15.mem_places.2 ⟨hli, List.mem_of_getElem? HYC.out⟩
      have HXN := hid (HX.out.upd (t := (i, ((r : Int), (0 : Int)))) (v := mv) hinP hmvt (fun M hM h0 => by
       have h1 := HSN.out M hM h0
       have h2 := S13.X15.closed_more hM (S13.X15.mem_places.2 ⟨hli, HXC.out⟩) HBX.out hs (show r < G.prods.length by have := HRL2.out; omega) HSO.out
       refine S13.sub_trans ?_ h2
       rw [← HMV.out]
       exact S13.ofRow_mono _ _ (S13.leS_refl _) rfl _ h1))
      have HMX := hid (show MetP G n A0 (ch || (a1 ||| mv != a1)) i k xp d s s0 mv (p + 1) from fun h => by
       obtain ⟨hc, hsub⟩ := S13.X15.or_quiet h
       have hst := HX.out.stay hc
       obtain ⟨h1, h2, h3⟩ := HMP.out hc
       refine ⟨h1, h2, fun p' q hp' hpq hsq => ?_⟩
       rcases Nat.lt_or_ge p' p with e | e
       ·exact h3 p' q e hpq hsq
       ·obtain rfl : p' = p := by omega
        rw [HYC.out] at hpq
        injection hpq with hpq
        rw [← hpq, ← hst, HA1.out]
        exact hsub)
      rw [HA1.out, huu] at HXN
      rw [huu] at HMX
      rw [huu]
      clear KU hb9 c3 huu hinP y0 y1
      by_cases heq : uu = a1
      ·subst heq
       cases ch
       ·go_wp2_with fail
        refine ⟨⟨p + 1, _, false, by omega, by go_num, rfl, hid (by simpa using HXN.out), hid (by simpa using HMX.out), HFS⟩, ?_⟩
        simp [RowKit.intOf]
        omega
       ·go_wp2_with fail
        refine ⟨⟨p + 1, _, true, by omega, by go_num, rfl, hid (by simpa using HXN.out), hid (by simpa using HMX.out), HFS⟩, ?_⟩
        simp [RowKit.intOf]
        omega
      ·have zn : (((uu : Nat) : Int) != ((a1 : Nat) : Int)) = true := by
        rw [bne_iff_ne]
        omega
       have hne : (uu != a1) = true := by rw [bne_iff_ne]; exact heq
       rw [hne] at HXN HMX
       clear hne
       cases ch
       ·go_wp2_with fail
        refine ⟨⟨p + 1, _, true, by omega, by go_num, rfl, hid (by simpa using HXN.out), hid (by simpa using HMX.out), HFS⟩, ?_⟩
        simp [RowKit.intOf]
        omega
       ·go_wp2_with fail
        refine ⟨⟨p + 1, _, true, by omega, by go_num, rfl, hid (by simpa using HXN.out), hid (by simpa using HMX.out), HFS⟩, ?_⟩
        simp [RowKit.intOf]
        omega
end Go.Proofs.YticmnfmijdgmbaaGreatDoor
