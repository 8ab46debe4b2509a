/- mini.Of: texts. -/
import Derived.Test.YtochckefnjobhaaGreatDoorAKm
namespace Go.Proofs.YtochckefnjobhaaGreatDoor
open Go Go.RowKit Go.Lib
open X3 (RX Pl)
open X5 (Aut)
set_option linter.unusedVariables false
set_option linter.unusedSimpArgs false
def erX (s : ByteArray) : Nat := match X3.parseX (LL s) with | .inl c => c | .inr _ => 0
def parsesX : List ByteArray → Nat ⊕ List RX
 | [] => .inr []
 | s :: l => match peX s with
  | none => .inl (erX s)
  | some r => match parsesX l with
   | .inl c => .inl c
   | .inr L => .inr (r :: L)
theorem parses_ok : ∀ {l : List ByteArray} {L : List RX}, l.mapM peX = some L → parsesX l = .inr L
 | [], L, h => by
  have : L = [] := by simpa using h.symm
  rw [this]; rfl
 | s :: l, L, h => by
  rw [List.mapM_cons] at h
  simp only [bind, Option.bind_eq_some_iff, pure, Option.some.injEq] at h
  obtain ⟨r, hr, L', hL, rfl⟩ := h
  rw [parsesX, hr]
  simp only [parses_ok hL]
theorem parses_err : ∀ {l : List ByteArray} {k : Nat} {L : List RX} {t : ByteArray}, (l.take k).mapM peX = some L → l[k]? = some t → peX t = none → parsesX l = .inl (erX t)
 | [], k, L, t, _, h, _ => by simp at h
 | s :: l, 0, L, t, _, h, hn => by
  have : s = t := by simpa using h
  subst this
  rw [parsesX, hn]
 | s :: l, k + 1, L, t, h, hk, hn => by
  rw [List.take_succ_cons, List.mapM_cons] at h
  simp only [bind, Option.bind_eq_some_iff, pure, Option.some.injEq] at h
  obtain ⟨r, hr, L', hL, rfl⟩ := h
  rw [parsesX, hr]
  simp only [parses_err hL (by simpa using hk) hn]
theorem mapM_snoc {l : List ByteArray} {k : Nat} {L : List RX} {t : ByteArray} {r : RX} (h : (l.take k).mapM peX = some L) (hk : l[k]? = some t) (hr : peX t = some r) : (l.take (k + 1)).mapM peX = some (L ++ [r]) := by
 rw [List.take_add_one, hk, List.mapM_append, h]
 simp [hr]
theorem mapM_len : ∀ {l : List ByteArray} {L : List RX}, l.mapM peX = some L → L.length = l.length
 | [], L, h => by
  have : L = [] := by simpa using h.symm
  rw [this]; rfl
 | s :: l, L, h => by
  rw [List.mapM_cons] at h
  simp only [bind, Option.bind_eq_some_iff, pure, Option.some.injEq] at h
  obtain ⟨r, hr, L', hL, rfl⟩ := h
  rw [List.length_cons, List.length_cons, mapM_len hL]
theorem mapM_size : ∀ {l : List ByteArray} {L : List RX}, l.mapM peX = some L → ∀ r ∈ L, r.size ≤ 500
 | [], L, h => by
  have : L = [] := by simpa using h.symm
  rw [this]; intro r hr; cases hr
 | s :: l, L, h => by
  rw [List.mapM_cons] at h
  simp only [bind, Option.bind_eq_some_iff, pure, Option.some.injEq] at h
  obtain ⟨r, hr, L', hL, rfl⟩ := h
  intro x hx
  rcases List.mem_cons.1 hx with rfl | hx
  ·exact peX_size hr
  ·exact mapM_size hL x hx
theorem parse_opt2 (s : ByteArray) (w : World) (hm : s.size ≤ maxLen) : ∃ (E : Int) (R : RX), ((E = 0 ∧ peX s = some R) ∨ (E ≠ 0 ∧ peX s = none ∧ E = (erX s : Int))) ∧ Calls Tryz.prog 19 #[.string s] w fun e w' => ∃ (k x y z u : Int) (o : Option Addr) (n cc : Nat), e = .returned (.tuple #[nodeV k x y z u (.slice o n cc), .int .i64 E]) ∧ Below w.heap.size w w' ∧ Rep w.heap.size w' R (nodeV k x y z u (.slice o n cc)) := by
 have hp := parse_any s w hm
 unfold peX erX
 cases hX : X3.parseX (LL s) with
 | inl c =>
  rw [hX] at hp
  refine ⟨(c : Int), .empty, ?_, hp.mono ?_⟩
  ·by_cases h : c = 0
   ·subst h; exact .inl ⟨rfl, rfl⟩
   ·exact .inr ⟨by omega, by simp [h], rfl⟩
  ·rintro e w' ⟨rfl, hb⟩
   exact ⟨0, 0, 0, 0, 0, none, 0, 0, rfl, hb, .empty⟩
 | inr r =>
  rw [hX] at hp
  refine ⟨0, r, .inl ⟨rfl, rfl⟩, hp.mono ?_⟩
  rintro e w' ⟨v, rfl, hR, hb⟩
  obtain ⟨k, x, y, z, u, o, n, c, rfl⟩ := hR.shape
  exact ⟨k, x, y, z, u, o, n, c, rfl, hb, hR⟩
def OfP (l : List ByteArray) (w : World) (e : Ending) (w' : World) : Prop :=
 Below w.heap.size w w' ∧ match parsesX l with
  | .inl c => e = .returned (.tuple #[.agg dvz, .int .i64 (c : Int)])
  | .inr L => ((many L ∨ Big L) ∧ e = .returned (.tuple #[.agg dvz, .int .i64 4])) ∨
    ∃ (D : Aut) (SS : List (List Nat)) (A0 : List Nat) (Bk : List Int) (M : Aut) (st : List Nat) (nv tv : Value), ¬ many L ∧ AtN L [] A0 ∧ Sets L A0 D SS ∧ SS.length ≤ 2000 ∧ X6.Vd D ∧ X6.Blk (X5.rowOf D 0).length D Bk ∧ X6.IsJ D Bk M st ∧
     e = .returned (.tuple #[.agg (dval M nv tv), .int .i64 0]) ∧ DNew w.heap.size w' nv tv M
theorem sets_few {L : List RX} {A0 : List Nat} {D : Aut} {SS : List (List Nat)} (h : Sets L A0 D SS) (hs : SS.length ≤ 2000) : D.next.length ≤ 1000000 ∧ D.tags.length ≤ 1000000 ∧ (X5.rowOf D 0).length ≤ 1000000 ∧ D.next.length * (X5.rowOf D 0).length ≤ 1000000 := by
 have h1 := h.nlen
 have h2 := h.tlen
 have h3 := (h.rows 0 A0 h.begin_).1
 have h4 := X5.fs_len (clsX L) 256
 refine ⟨by omega, by omega, by omega, ?_⟩
 have h5 : D.next.length * (X5.rowOf D 0).length ≤ 2000 * 256 := Nat.mul_le_mul (by omega) (by omega)
 omega
set_option maxRecDepth 100000 in
set_option maxHeartbeats 8000000 in
theorem texts_any (l : List ByteArray) (w : World) (v : Value) (h : TextsAt w v l) (hl : l.length ≤ 1000) {Bt : Nat} (ht : Tab Bt w) (hBt : Bt ≤ w.heap.size) : Calls Tryz.prog 18 #[v] w (OfP l w) := by
 obtain ⟨w0, e0⟩ : ∃ w0, w.alloc (.cells dvz 26) = w0 := ⟨_, rfl⟩
 have hb0 : Below w.heap.size w w0 := by rw [← e0]; exact (Below.refl _ _).alloc (Nat.le_refl _) _
 have hs0 : w0.heap.size = w.heap.size + 1 := by rw [← e0]; simp
 have hn0 : w0.heap[w.heap.size]? = some (.cells dvz 26 (0, 0)) := by rw [← e0]; exact new_block _ _
 obtain ⟨vo, vc, rfl, hrow⟩ := (h.below hb0).sh
 have HT := hid h
 have HROW := hid hrow
 have H0 := hid (And.intro hb0 (And.intro hs0 hn0))
 have HTab := hid ht
 clear h hrow hb0 hs0 hn0 ht
 go_enter Tryz.func18, Tryz.ntmps18
 go_wp2_with (with_reducible refine wpList_made30 rfl rfl ?_)
 go_loopw [4, 13] (fun t4 t13 wr => ∃ (k : Nat) (L : List RX), k ≤ l.length ∧ t13 = .int .i64 (k : Int) ∧ Hid ((l.take k).mapM peX = some L) ∧ Hid (RowOf w0.heap.size wr t4 L) ∧ Hid (Below w0.heap.size w0 wr)) (fun _ t13 _ => l.length - (RowKit.intOf t13).toNat)
 case atStart => exact ⟨0, [], Nat.zero_le _, rfl, hid rfl, hid (RowOf.nil _ _), hid (Below.refl _ _)⟩
 case round =>
  obtain ⟨k, L, hk, rfl, HL, HRow, HB⟩ := hrel
  have hszr := HB.out.size
  by_cases hlt : k < l.length
  ·obtain ⟨b, off, rfl, hbl, hc0⟩ := HROW.out k hlt
   have hc := (World.cell?_of_block (a := ⟨b, off + k, none⟩) (HB.out.block b hbl)).trans hc0
   have h1 : (k : Int) < (l.length : Int) := by omega
   have h2 : (0 : Int) ≤ (k : Int) := by omega
   obtain ⟨E, R, hE, hKP⟩ := parse_opt2 l[k] wr (HT.out.le _ (List.getElem_mem hlt))
   have KP := hid hKP
   have hlk : l[k]? = some l[k] := List.getElem?_eq_getElem hlt
   have hlen : L.length ≤ k := by rw [mapM_len HL.out]; simp; omega
   have HEE := hid hE
   have HLK := hid hlk
   clear hKP hE hc0 hlk
   generalize l[k] = t at *
   go_wp2_with fail
   refine KP.out.mono ?_
   rintro e w2 ⟨k', x, y, z, u, o, nn, cc, rfl, hb2, hR⟩
   have hR2 : RepS (fun g => g < w2.heap.size) w2 R (nodeV k' x y z u (.slice o nn cc)) := hR.monoS fun g _ hl => hl
   obtain ⟨wa, ea, hx, hba, hsa⟩ := box_new hR2
   obtain ⟨p0, p1, p2, p3, p4, p5⟩ := cells6 hx.1
   have hs2 := hb2.size
   rcases HEE.out with ⟨rfl, hpe⟩ | ⟨hE, hpe, hEq⟩
   ·obtain ⟨w3, e3⟩ : ∃ w3, wa.alloc (.cells #[.int .i64 k', .int .u64 x, .int .u64 y, .int .u64 z, .int .u64 u, .slice o nn cc] 46) = w3 := ⟨_, rfl⟩
    have hb3 : Below wa.heap.size wa w3 := by rw [← e3]; exact (Below.refl _ _).alloc (Nat.le_refl _) _
    have hn3 : w3.heap[wa.heap.size]? = some (.cells #[.int .i64 k', .int .u64 x, .int .u64 y, .int .u64 z, .int .u64 u, .slice o nn cc] 46 (0, 0)) := by rw [← e3]; exact new_block _ _
    have hs3 : w3.heap.size = wa.heap.size + 1 := by rw [← e3]; simp
    have hB3 : Below w2.heap.size w2 w3 := hba.trans (hb3.mono (by omega))
    obtain ⟨VS, hreps, hown⟩ := HRow.out.below hb2
    have HOWN := hid (owns_below hown hB3)
    have HREPS := hid hreps
    have HLT := hid HRow.out.lt
    have HRR := hid hR
    have HB3 := hid hB3
    have HBA := hid (HB.out.trans ((hb2.mono hszr).trans (hB3.mono (Nat.le_trans hszr hs2))))
    obtain ⟨i0, hi, hz0, hz1, hz2⟩ := info_parts info28
    have hw3 : w0.heap.size ≤ w3.heap.size := by omega
    have HPE := hid hpe
    have HS3 := hid (And.intro hsa hs3)
    clear hR hR2 hx hba hb3 hB3 hreps hown hpe hsa hs3 hb2
    go_wp2_with (at_builtin; go_loud (refine wpList_append_own_at _ rfl _ _ 44 rfl w0.heap.size 46 i0 (.agg zero6) 6 64 Tryz.underlying44 hi hz0 hz1 hz2 rfl (by decide) _ _ _ rfl HOWN.out ⟨wa.heap.size, 0, none⟩ 1 1 [.int .i64 k', .int .u64 x, .int .u64 y, .int .u64 z, .int .u64 u, .slice o nn cc] rfl rfl ?c1 ?c2 ?c3 ?c4 ?c5 ?_))
    case c1 =>
     intro j v hj
     have := Lib.cell_of_heap hn3 j
     first | rw [show (⟨wa.heap.size, 0, none⟩ : Addr).add j = ⟨wa.heap.size, j, none⟩ by simp [Addr.add]; omega] | skip
     rw [this, ← hj]
     simp
    case c2 => first | (intro v hv; simp at hv; rcases hv with rfl | rfl | rfl | rfl | rfl | rfl <;> rfl) | simp [Value.oneCell']
    case c3 => unfold maxLen; omega
    case c4 => omega
    try (case c5 => exact hw3)
    intro v' w4 hown' hgrow hnil hat
    have hrow4 : Hid (RowOf w0.heap.size w4 v' (L ++ [R])) := hid (row_push HREPS.out HLT.out hszr HRR.out HB3.out hown' hgrow hat)
    have HB4 := hid (HBA.out.grown hgrow hw3 (fun q hq => (HLT.out q hq).1))
    clear hown' hgrow hnil hat hn3 e3
    go_wp2_with fail
    refine ⟨⟨k + 1, L ++ [R], by omega, rfl, hid (mapM_snoc HL.out HLK.out HPE.out), hrow4, HB4⟩, ?_⟩
    show l.length - ((k : Int) + 1).toNat < l.length - ((k : Int)).toNat
    omega
   ·have hE2 : (E != 0) = true := by simpa using hE
    have hE3 : decide (E = 0) = false := by simpa using hE
    have HBA := hid (HB.out.trans ((hb2.trans (hba.mono hs2)).mono hszr))
    have HPR := hid (parses_err HL.out HLK.out hpe)
    have HEQ := hid hEq
    have HRB := hid (show wa.heap[w.heap.size]? = some (.cells dvz 26 (0, 0)) from (HBA.out.block _ (by have := H0.out; omega)).trans H0.out.2.2)
    clear hR hR2 hx hba hpe hE hb2 hEq
    go_wp2_with (first | (with_reducible refine wpList_none30 rfl rfl ?_) | (with_reducible refine wpList_store30 rfl (.tmp 2) (.tmp 24) rfl w.heap.size rfl dvz dvz HRB.out rfl dvz_size dvz_size dvz_one ?_))
    refine bodyPost_ret (v := .tuple #[.agg dvz, .int .i64 E]) (results30 rfl _ _ w.heap.size dvz E rfl rfl (setRow_heap _ w.heap.size dvz dvz 26 (0, 0) HRB.out) dvz_size) rfl ?_
    refine ⟨row_below (H0.out.1.trans (HBA.out.mono H0.out.1.size)) (Nat.le_refl _), ?_⟩
    rw [HPR.out, HEQ.out]
  ·have h1 : ¬ (k : Int) < (l.length : Int) := by omega
   obtain rfl : k = l.length := by omega
   rw [List.take_length] at HL
   have hbw : Below w.heap.size w wr := H0.out.1.trans (HB.out.mono H0.out.1.size)
   have HLS := hid (mapM_size HL.out)
   have HLN := hid (mapM_len HL.out)
   have KB := hid (dfa_build_any2 L wr u4 (RowR.ofRow HRow.out) (fun q hq => Nat.le_trans (HLS.out _ (List.getElem_mem hq)) (by omega)) (by have := HLN.out; omega) (HTab.out.on (hbw.mono hBt)) (Nat.le_trans hBt hbw.size))
   have HPO := hid (parses_ok HL.out)
   have HBW := hid hbw
   have HRB := hid (show wr.heap[w.heap.size]? = some (.cells dvz 26 (0, 0)) from (HB.out.block _ (by have := H0.out; omega)).trans H0.out.2.2)
   have hrbl := (Array.getElem?_eq_some_iff.1 HRB.out).1
   clear hbw e0
   go_wp2_with fail
   refine KB.out.mono ?_
   rintro e w5 ⟨hb5, hres⟩
   have HB5 := hid hb5
   have HRB5 := hid ((hb5.block _ hrbl).trans HRB.out)
   have HB5w := hid (HBW.out.trans (hb5.mono HBW.out.size))
   have hs5 := hb5.size
   rcases hres with ⟨hmb, rfl⟩ | ⟨D, SS, A0, nv, tv, hnm, rfl, hat, hsets, hda, hfew⟩
   ·have HMB := hid hmb
    have HNB := hid (new_block w5 (.cells dvz 26))
    obtain ⟨w6, e6⟩ : ∃ w6, (w5.alloc (.cells dvz 26)).setRow w5.heap.size dvz = w6 := ⟨_, rfl⟩
    have hb6 : Below w5.heap.size w5 w6 := by rw [← e6]; exact row_below ((Below.refl _ _).alloc (Nat.le_refl _) _) (Nat.le_refl _)
    have HRB6 := hid ((hb6.block _ (by omega)).trans HRB5.out)
    have HB6 := hid (HB5w.out.trans (hb6.mono HB5w.out.size))
    clear hmb hb5 hb6 KB
    go_wp2_with (first | (with_reducible refine wpList_made30 rfl rfl ?_) | (with_reducible refine wpList_store30 rfl (.tmp 9) (.tmp 34) rfl w5.heap.size rfl dvz dvz HNB.out rfl dvz_size dvz_size dvz_one ?_) | (with_reducible refine wpList_none30 rfl rfl ?_) | (with_reducible refine wpList_store30 rfl (.tmp 2) (.tmp 38) rfl w.heap.size rfl dvz dvz HRB6.out rfl dvz_size dvz_size dvz_one ?_))
    refine bodyPost_ret (v := .tuple #[.agg dvz, .int .i64 4]) (results30 rfl _ _ w.heap.size dvz 4 rfl rfl (setRow_heap _ w.heap.size dvz dvz 26 (0, 0) HRB6.out) dvz_size) rfl ?_
    refine ⟨row_below HB6.out (Nat.le_refl _), ?_⟩
    rw [HPO.out]
    exact .inl ⟨HMB.out, rfl⟩
   ·obtain ⟨dd, hdd⟩ : ∃ dd, dval D nv tv = dd := ⟨_, rfl⟩
    have HDD := hid (And.intro (show dd.size = 258 from by rw [← hdd]; exact dval_size hda) (show dd.all (·.oneCell') = true from by rw [← hdd]; exact dval_one' hda))
    have HNB := hid (new_block w5 (.cells dvz 26))
    obtain ⟨w6, e6⟩ : ∃ w6, (w5.alloc (.cells dvz 26)).setRow w5.heap.size dd = w6 := ⟨_, rfl⟩
    have hb6 : Below w5.heap.size w5 w6 := by rw [← e6]; exact row_below ((Below.refl _ _).alloc (Nat.le_refl _) _) (Nat.le_refl _)
    have HD6 := hid (show w6.heap[w5.heap.size]? = some (.cells dd 26 (0, 0)) from by rw [← e6]; exact setRow_heap _ _ dvz dd 26 (0, 0) HNB.out)
    have HRB6 := hid ((hb6.block _ (by omega)).trans HRB5.out)
    have HB6 := hid (HB5w.out.trans (hb6.mono HB5w.out.size))
    have hrb6 : w.heap.size < w6.heap.size := by have := hb6.size; omega
    have hfw := sets_few hsets hfew
    have KL := least_any (hda.below hb6) hfw.1 hfw.2.1 hfw.2.2.1 hfw.2.2.2
    rw [hdd] at KL ⊢
    have KL := hid KL
    have hsv := sets_valid hsets
    have HV := hid (show X6.Vd D from by
     have h0 := (hsets.rows 0 A0 hsets.begin_).1
     refine ⟨⟨fun e => by have := hsv.1; rw [e] at this; simp at this, hsv.2.1, fun i hi => ?_, fun i hi x hx => ?_⟩, fun c hc => ?_⟩
     ·rw [h0]; exact (hsv.2.2.2 _ (List.mem_of_getElem? (rowOf_get hi))).1
     ·exact (hsv.2.2.2 _ (List.mem_of_getElem? (rowOf_get hi))).2 x hx
     ·rw [hsets.cls] at hc
      obtain ⟨q, hq, rfl⟩ := List.mem_map.1 hc
      have := hsv.2.2.1 q hq
      rw [h0]
      show 0 ≤ (q : Int) ∧ (q : Int) < ((Fx L).length : Int)
      omega)
    have HS := hid (And.intro hnm (And.intro hat (And.intro hsets hfew)))
    clear hnm hat hsets hda hfew hb5 hb6 hdd hfw hsv KB
    go_wp2_with (first | (with_reducible refine wpList_made30 rfl rfl ?_) | (with_reducible refine wpList_store30 rfl (.tmp 9) (.tmp 34) rfl w5.heap.size rfl dvz dd HNB.out rfl dvz_size HDD.out.1 HDD.out.2 ?_) | (with_reducible refine wpList_load30 rfl (.tmp 9) rfl w5.heap.size rfl dd HD6.out HDD.out.1 ?_))
    refine KL.out.mono ?_
    rintro e w7 hlp
    rcases hlp with ⟨hnv, _, _⟩ | ⟨_, Bk, M, st, nv', tv', rfl, hblk, hisj, hnew, hb7⟩
    ·exact absurd HV.out hnv
    have HRB7 := hid ((hb7.block _ hrb6).trans HRB6.out)
    obtain ⟨dm, hdm⟩ : ∃ dm, dval M nv' tv' = dm := ⟨_, rfl⟩
    have HDM := hid (And.intro hdm (And.intro (show dm.size = 258 from by rw [← hdm]; exact dval_size hnew.at_) (show dm.all (·.oneCell') = true from by rw [← hdm]; exact dval_one' hnew.at_)))
    have HM := hid (And.intro hblk (And.intro hisj (And.intro hnew hb7)))
    rw [hdm]
    clear hblk hisj hnew hb7 hdm KL e6
    go_wp2_with (with_reducible refine wpList_store30 rfl (.tmp 2) (.tmp 42) rfl w.heap.size rfl dvz dm HRB7.out rfl dvz_size HDM.out.2.1 HDM.out.2.2 ?_)
    refine bodyPost_ret (v := .tuple #[.agg dm, .int .i64 0]) (results30 rfl _ _ w.heap.size dm 0 rfl rfl (setRow_heap _ w.heap.size dvz dm 26 (0, 0) HRB7.out) HDM.out.2.1) rfl ?_
    refine ⟨row_below (HB6.out.trans (HM.out.2.2.2.mono HB6.out.size)) (Nat.le_refl _), ?_⟩
    rw [HPO.out]
    exact .inr ⟨D, SS, A0, Bk, M, st, nv', tv', HS.out.1, HS.out.2.1, HS.out.2.2.1, HS.out.2.2.2, HV.out, HM.out.1, HM.out.2.1, by rw [HDM.out.1], fun w2 hk => HM.out.2.2.1 w2 fun g hg => (hk g (by omega)).trans (setRow_other _ _ _ _ (by omega))⟩
end Go.Proofs.YtochckefnjobhaaGreatDoor
