/- All: the rows of a grammar. -/
import Derived.Test.YticmnfmijdgmbaaGreatDoorXk
import Derived.Test.YticmnfmijdgmbaaGreatDoorGa
set_option linter.unusedVariables false
set_option linter.unusedSimpArgs false
namespace Go.Proofs.YticmnfmijdgmbaaGreatDoor
open Go Go.RowKit Go.Lib
open X14 (It iterB BuiltOk BuiltMany closeX)
open S13 (u64 bitN top E0 F0 Sub)
open S13.X15 (Pl LeastA askX places cxB)
def AllP (G:GD) (w:World) (e:Ending) (w':World):Prop:=
 Below w.heap.size w w'/\((validB G=false/\e=.returned (.tuple #[.slice none 0 0,.int .i64 1]))\/(validB G=true/\∃ n,(BuiltMany G n/\e=.returned (.tuple #[.slice none 0 0,.int .i64 4])) \/
  (BuiltOk G n/\∃ v A,e=.returned (.tuple #[v,.int .i64 0])/\LeastA (askX (cxB G n (E0 G) (F0 G))) (places (cxB G n (E0 G) (F0 G)) n) (0,(-1,0)) (bitN 63) A/\LookAt w' v n (cxB G n (E0 G) (F0 G)).C A)))
set_option maxRecDepth 100000 in
set_option maxHeartbeats 8000000 in
theorem All_any {G:GD} {gv:Value} {w:World} {Bt:Nat} (h:Gram w gv G) (ht:Tab Bt w) (hBt:Bt<=w.heap.size):Calls Tryz.prog 17 #[gv] w (AllP G w):=by
 have HGr:=hid h
 obtain ⟨tv,ov,sv,pv,tf,rv,h⟩:=h
 obtain ⟨W1,B,hW1,hB,c0,c1,c2,c3,c4,hG,hb,hsz⟩:=gr_box h
 have hgv:=h.eq
 subst hgv hB
 have e1:=hW1.symm
 have HC:=hid (And.intro c0 (And.intro c1 (And.intro c2 (And.intro c3 c4))))
 have HB1:=hid hb
 have KB:=hid (Build_any (HGr.out.below hb) (ht.on (hb.mono hBt)) (Nat.le_trans hBt hb.size))
 clear h hG hW1 hb ht
 go_enter Tryz.func17,Tryz.ntmps17
 go_wp2_with fail
 refine KB.out.mono ?_
 rintro e w2 ⟨hb2,hcase⟩
 have HB2:=hid (HB1.out.trans (hb2.mono HB1.out.size))
 have c0:=cell_below hb2 HC.out.1
 have c1:=cell_below hb2 HC.out.2.1
 have c2:=cell_below hb2 HC.out.2.2.1
 have c3:=cell_below hb2 HC.out.2.2.2.1
 have c4:=cell_below hb2 HC.out.2.2.2.2
 obtain ⟨W3,e3⟩:=nmQ (w2.alloc (.cells #[.slice none 0 0,.slice none 0 0] 55))
 have n3:W3.heap[w2.heap.size]?=some (.cells #[.slice none 0 0,.slice none 0 0] 55 (0,0)):=nbQ e3
 clear KB e1
 rcases hcase with ⟨hV,rfl⟩ | ⟨hV,n,⟨hM,rfl⟩ | ⟨hO,av,rfl,hau⟩⟩
 ·have vn0:W3.heap[w2.heap.size]?=some (.cells #[.slice none 0 0,.slice none 0 0] 55 (0,0)):=n3
  have vc0:W3.cell? ⟨w2.heap.size,0,none⟩=some (.slice none 0 0):=coQ vn0 0
  have vf0:=foQ vn0 0
  obtain ⟨u1,ve0⟩:=nmQ (W3.setCell ⟨w2.heap.size,0,none⟩ (.slice none 0 0))
  have vn1:u1.heap[w2.heap.size]?=some (.cells #[.slice none 0 0,.slice none 0 0] 55 (0,0)):=hsQ ve0 vn0
  have vc1:u1.cell? ⟨w2.heap.size,1,none⟩=some (.slice none 0 0):=coQ vn1 1
  have vf1:=foQ vn1 1
  obtain ⟨u2,ve1⟩:=nmQ (u1.setCell ⟨w2.heap.size,1,none⟩ (.slice none 0 0))
  have vn2:u2.heap[w2.heap.size]?=some (.cells #[.slice none 0 0,.slice none 0 0] 55 (0,0)):=hsQ ve1 vn1
  have hb3:Below w2.heap.size w2 u2:=by
   rw [<-ve1,<-ve0,<-e3]
   exact ((((Below.refl _ _).alloc (Nat.le_refl _) _).setCell (Nat.le_refl _) _).setCell (Nat.le_refl _) _)
  have HB3:=hid (HB2.out.trans (hb3.mono HB2.out.size))
  unfold noAut
  clear hb2 hb3 n3 vn0 vn1 vn2
  go_wp2_with fail
  refine bodyPost_ret (results_tmp2 rfl _ _ _) rfl ?_
  exact ⟨HB3.out,.inl ⟨hV,rfl⟩⟩
 ·have vn0:W3.heap[w2.heap.size]?=some (.cells #[.slice none 0 0,.slice none 0 0] 55 (0,0)):=n3
  have vc0:W3.cell? ⟨w2.heap.size,0,none⟩=some (.slice none 0 0):=coQ vn0 0
  have vf0:=foQ vn0 0
  obtain ⟨u1,ve0⟩:=nmQ (W3.setCell ⟨w2.heap.size,0,none⟩ (.slice none 0 0))
  have vn1:u1.heap[w2.heap.size]?=some (.cells #[.slice none 0 0,.slice none 0 0] 55 (0,0)):=hsQ ve0 vn0
  have vc1:u1.cell? ⟨w2.heap.size,1,none⟩=some (.slice none 0 0):=coQ vn1 1
  have vf1:=foQ vn1 1
  obtain ⟨u2,ve1⟩:=nmQ (u1.setCell ⟨w2.heap.size,1,none⟩ (.slice none 0 0))
  have vn2:u2.heap[w2.heap.size]?=some (.cells #[.slice none 0 0,.slice none 0 0] 55 (0,0)):=hsQ ve1 vn1
  have hb3:Below w2.heap.size w2 u2:=by
   rw [<-ve1,<-ve0,<-e3]
   exact ((((Below.refl _ _).alloc (Nat.le_refl _) _).setCell (Nat.le_refl _) _).setCell (Nat.le_refl _) _)
  have HB3:=hid (HB2.out.trans (hb3.mono HB2.out.size))
  unfold noAut
  clear hb2 hb3 n3 vn0 vn1 vn2
  go_wp2_with fail
  refine bodyPost_ret (results_tmp2 rfl _ _ _) rfl ?_
  exact ⟨HB3.out,.inr ⟨hV,n,.inl ⟨hM,rfl⟩⟩⟩
 obtain ⟨kv,nv,rfl,hk1,hk2⟩:=hau
 obtain ⟨ko,kl,kc,rfl⟩:∃ ko kl kc,kv=.slice ko kl kc:=by
  obtain ⟨o,c,e,_⟩:=hk1.len
  exact ⟨_,_,_,e⟩
 obtain ⟨no,nl,nc,rfl⟩:∃ no nl nc,nv=.slice no nl nc:=by
  obtain ⟨o,c,e,_⟩:=hk2.len
  exact ⟨_,_,_,e⟩
 have vn0:W3.heap[w2.heap.size]?=some (.cells #[.slice none 0 0,.slice none 0 0] 55 (0,0)):=n3
 have vc0:W3.cell? ⟨w2.heap.size,0,none⟩=some (.slice none 0 0):=coQ vn0 0
 have vf0:=foQ vn0 0
 obtain ⟨u1,ve0⟩:=nmQ (W3.setCell ⟨w2.heap.size,0,none⟩ (.slice ko kl kc))
 have vn1:u1.heap[w2.heap.size]?=some (.cells #[.slice ko kl kc,.slice none 0 0] 55 (0,0)):=hsQ ve0 vn0
 have vc1:u1.cell? ⟨w2.heap.size,1,none⟩=some (.slice none 0 0):=coQ vn1 1
 have vf1:=foQ vn1 1
 obtain ⟨u2,ve1⟩:=nmQ (u1.setCell ⟨w2.heap.size,1,none⟩ (.slice no nl nc))
 have vn2:u2.heap[w2.heap.size]?=some (.cells #[.slice ko kl kc,.slice no nl nc] 55 (0,0)):=hsQ ve1 vn1
 have hb3:Below w2.heap.size w2 u2:=by
  rw [<-ve1,<-ve0,<-e3]
  exact ((((Below.refl _ _).alloc (Nat.le_refl _) _).setCell (Nat.le_refl _) _).setCell (Nat.le_refl _) _)
 have HB3:=hid (HB2.out.trans (hb3.mono HB2.out.size))
 have KR:=hid (rows_any (HGr.out.below HB3.out) (AutAt.below ⟨_,_,rfl,hk1,hk2⟩ hb3) hO hV)
 have c0:=cell_below hb3 c0
 have c1:=cell_below hb3 c1
 have c2:=cell_below hb3 c2
 have c3:=cell_below hb3 c3
 have c4:=cell_below hb3 c4
 have k0:u2.cell? ⟨w2.heap.size,0,none⟩=some (.slice ko kl kc):=coQ vn2 0
 have k1:u2.cell? ⟨w2.heap.size,1,none⟩=some (.slice no nl nc):=coQ vn2 1
 have HO:=hid (And.intro hO hV)
 clear hO hV hk1 hk2 hb2 hb3 n3 vn0 vn1 vn2
 go_wp2_with fail
 refine KR.out.mono ?_
 rintro e w9 ⟨hb9,v,A,rfl,hL,hK⟩
 have HFIN:=hid (And.intro (HB3.out.trans (hb9.mono HB3.out.size)) (And.intro hL hK))
 clear hb9 hL hK KR
 go_wp2_with fail
 refine bodyPost_ret (results_tmp2 rfl _ _ _) rfl ?_
 exact ⟨HFIN.out.1,.inr ⟨HO.out.2,n,.inr ⟨HO.out.1,v,A,rfl,HFIN.out.2.1,HFIN.out.2.2⟩⟩⟩
end Go.Proofs.YticmnfmijdgmbaaGreatDoor

namespace Go.Proofs.YticmnfmijdgmbaaGreatDoor
open Go Go.RowKit Go.Lib
open X14 (It)
theorem take_eq_succ {α:Type} {l m:List α} {i:Nat} {a b:α} (h:l.take i=m.take i) (ha:l[i]?=some a) (hb:m[i]?=some b) (e:a=b):l.take (i + 1)=m.take (i + 1):=by
 rw [List.take_add_one,List.take_add_one,h,ha,hb,e]
theorem take_ne {α:Type} {l m:List α} {i:Nat} {a b:α} (ha:l[i]?=some a) (hb:m[i]?=some b) (e:¬ a=b):¬ l=m:=fun h=>by
 rw [h,hb] at ha
 injection ha with ha
 exact e ha.symm
set_option maxRecDepth 100000 in
set_option maxHeartbeats 8000000 in
theorem eqInts_any {w:World} {u v:Value} {l m:List Int} (hu:IntsAt w u l) (hv:IntsAt w v m) :
  Calls Tryz.prog 110 #[u,v] w fun e w'=>e=.returned (.bool (decide (l=m)))/\Below w.heap.size w w':=by
 obtain ⟨⟨uo,uc,rfl,hul,hux⟩,_⟩:=hu
 obtain ⟨⟨vo,vc,rfl,hvl,hvx⟩,_⟩:=hv
 obtain ⟨N,hN⟩:=nmQ (l.length)
 obtain ⟨M,hM⟩:=nmQ (m.length)
 rw [hN] at hul hux ⊢
 rw [hM] at hvl hvx ⊢
 have HN:=hid (And.intro hN hM)
 clear hN hM
 by_cases hNM:N=M
 ·subst hNM
  have HUX:=hid hux
  have HVX:=hid hvx
  have HS:=hid (show l.take 0=m.take 0 from rfl)
  have HB:=hid (Below.refl w.heap.size w)
  clear hux hvx
  go_enter Tryz.func110,Tryz.ntmps110
  go_wp2_with fail
  go_loopw [5,13] (fun t5 t13 wr=>∃ (i:Nat),i<=N/\t13=.int .i64 (i:Int)/\Hid (Below w.heap.size w wr)/\Hid (l.take i=m.take i)) (fun _ t13 _=>N - (RowKit.intOf t13).toNat)
  case atStart=>exact ⟨0,Nat.zero_le _,rfl,HB,HS⟩
  case round =>
   clear HB HS
   obtain ⟨i,hiN,rfl,HB,HS⟩:=hrel
   by_cases hlt:i < N
   ·have j1:(i:Int) < (N:Int):=by omega
    have j0:(0:Int)<=(i:Int):=by omega
    obtain ⟨ub,uf,rfl,hu1⟩:=HUX.out (by omega)
    obtain ⟨vb,vf,rfl,hv1⟩:=HVX.out (by omega)
    have hu2:=hu1 i hlt
    have hv2:=hv1 i hlt
    obtain ⟨a,ha⟩:∃ a,l[i]?=some a:=⟨_,geQ (by rw [HN.out.1]; exact hlt)⟩
    obtain ⟨b,hb⟩:∃ b,m[i]?=some b:=⟨_,geQ (by rw [HN.out.2]; exact hlt)⟩
    rw [gdQ,ha] at hu2
    rw [gdQ,hb] at hv2
    have hu2:w.cell? ⟨ub,uf + i,none⟩=some (.int .i64 a):=hu2
    have hv2:w.cell? ⟨vb,vf + i,none⟩=some (.int .i64 b):=hv2
    have HF0:=hid (show ∀ w',Below wr.heap.size wr w'->w'.cell? ⟨ub,uf + i,none⟩=some (.int .i64 a) from fun w' hC=>cell_below (HB.out.trans (hC.mono HB.out.size)) hu2)
    have HF1:=hid (show ∀ w',Below wr.heap.size wr w'->w'.cell? ⟨vb,vf + i,none⟩=some (.int .i64 b) from fun w' hC=>cell_below (HB.out.trans (hC.mono HB.out.size)) hv2)
    have HA:=hid (And.intro ha hb)
    clear ha hb hu2 hv2 hu1 hv1
    go_wp2_with fail
    refine wp_region_below (by kernel_rfl) (by kernel_rfl) ?_
    repeat (refine BigFrame.wpQuiet_want (by rfl) (fun K hK=>?_)
            apply Exists.intro
            refine ⟨fun w' hC=>?_,hK _ ?_⟩
            . have f0':=HF0.out w' hC
              have f1':=HF1.out w' hC
              unfold Oper.quietAt
              go_simp
              first
                | with_reducible rfl
                | done
            clear hK K
            try simp only [Act.put,List.setIfInBounds_toArray,List.set_cons_zero,List.set_cons_succ])
    refine wpQuiet_nil ?_
    intro w6 hb6
    have HB6:=hid (HB.out.trans (hb6.mono HB.out.size))
    clear hb6
    by_cases hab:a=b
    ·have HS6:=hid (take_eq_succ HS.out HA.out.1 HA.out.2 hab)
     subst hab
     clear HF0 HF1
     go_wp2_with fail
     refine ⟨⟨i + 1,by omega,rfl,HB6,HS6⟩,?_⟩
     show N - ((i:Int) + 1).toNat < N - ((i:Int)).toNat
     omega
    ·have HNE:=hid (take_ne HA.out.1 HA.out.2 hab)
     go_wp2_with fail
     go_ret
     refine ⟨?_,HB6.out⟩
     rw [decide_eq_false HNE.out]
     rfl
   ·have j1:¬ (i:Int) < (N:Int):=by omega
    have HEQ:=hid (show l=m from by
     have h1:=HS.out
     rw [List.take_of_length_le (by rw [HN.out.1]; omega),List.take_of_length_le (by rw [HN.out.2]; omega)] at h1
     exact h1)
    go_wp2_with fail
    go_ret
    refine ⟨?_,HB.out⟩
    rw [decide_eq_true HEQ.out]
    rfl
 ·have HNE:=hid (show ¬ l=m from fun h=>hNM (by rw [<-HN.out.1,<-HN.out.2,h]))
  have t0:¬ (N:Int)=(M:Int):=by omega
  clear hux hvx
  go_enter Tryz.func110,Tryz.ntmps110
  go_wp2_with fail
  go_ret
  refine ⟨?_,Below.refl _ _⟩
  rw [decide_eq_false HNE.out]
  rfl
set_option maxRecDepth 100000 in
set_option maxHeartbeats 8000000 in
theorem eqNexts_any {w:World} {u v:Value} {l m:List (List Int)} (hu:RowsAt w u l.length (fun i x=>IntsAt w x (l.getD i []))) (hv:RowsAt w v m.length (fun i x=>IntsAt w x (m.getD i []))) :
  Calls Tryz.prog 109 #[u,v,.func (.func 110) #[] #[]] w fun e w'=>e=.returned (.bool (decide (l=m)))/\Below w.heap.size w w':=by
 obtain ⟨uo,uc,rfl,hul,hux⟩:=hu
 obtain ⟨vo,vc,rfl,hvl,hvx⟩:=hv
 obtain ⟨N,hN⟩:=nmQ (l.length)
 obtain ⟨M,hM⟩:=nmQ (m.length)
 rw [hN] at hul hux ⊢
 rw [hM] at hvl hvx ⊢
 have HN:=hid (And.intro hN hM)
 clear hN hM
 by_cases hNM:N=M
 ·subst hNM
  have HUX:=hid hux
  have HVX:=hid hvx
  have HS:=hid (show l.take 0=m.take 0 from rfl)
  have HB:=hid (Below.refl w.heap.size w)
  clear hux hvx
  go_enter Tryz.func109,Tryz.ntmps109
  go_wp2_with fail
  go_loopw [7,8,9,17] (fun t7 t8 t9 t17 wr=>∃ (i:Nat),i<=N/\t17=.int .i64 (i:Int)/\Hid (Below w.heap.size w wr)/\Hid (l.take i=m.take i)) (fun _ _ _ t17 _=>N - (RowKit.intOf t17).toNat)
  case atStart=>exact ⟨0,Nat.zero_le _,rfl,HB,HS⟩
  case round =>
   clear HB HS
   obtain ⟨i,hiN,rfl,HB,HS⟩:=hrel
   by_cases hlt:i < N
   ·have j1:(i:Int) < (N:Int):=by omega
    have j0:(0:Int)<=(i:Int):=by omega
    obtain ⟨ub,uf,rfl,hu1⟩:=HUX.out (by omega)
    obtain ⟨vb,vf,rfl,hv1⟩:=HVX.out (by omega)
    obtain ⟨x,hx,hxi⟩:=hu1 i hlt
    obtain ⟨y,hy,hyi⟩:=hv1 i hlt
    obtain ⟨a,ha⟩:∃ a,l[i]?=some a:=⟨_,geQ (by rw [HN.out.1]; exact hlt)⟩
    obtain ⟨b,hb⟩:∃ b,m[i]?=some b:=⟨_,geQ (by rw [HN.out.2]; exact hlt)⟩
    rw [gdQ,ha] at hxi
    rw [gdQ,hb] at hyi
    have f0:wr.cell? ⟨ub,uf + i,none⟩=some x:=cell_below HB.out hx
    have f1:wr.cell? ⟨vb,vf + i,none⟩=some y:=cell_below HB.out hy
    have KE:=hid (eqInts_any (w:=wr) (u:=x) (v:=y) (l:=a) (m:=b) (hxi.mono HB.out) (hyi.mono HB.out))
    have HA:=hid (And.intro ha hb)
    clear ha hb hx hy hu1 hv1 hxi hyi
    go_wp2_with fail
    refine KE.out.mono ?_
    rintro e w6 ⟨rfl,hb6⟩
    have HB6:=hid (HB.out.trans (hb6.mono HB.out.size))
    clear hb6 KE
    by_cases hab:a=b
    ·have HS6:=hid (take_eq_succ HS.out HA.out.1 HA.out.2 hab)
     rw [decide_eq_true hab]
     go_wp2_with fail
     refine ⟨⟨i + 1,by omega,rfl,HB6,HS6⟩,?_⟩
     show N - ((i:Int) + 1).toNat < N - ((i:Int)).toNat
     omega
    ·have HNE:=hid (take_ne HA.out.1 HA.out.2 hab)
     rw [decide_eq_false hab]
     clear hab
     go_wp2_with fail
     go_ret
     refine ⟨?_,HB6.out⟩
     rw [decide_eq_false HNE.out]
     rfl
   ·have j1:¬ (i:Int) < (N:Int):=by omega
    have HEQ:=hid (show l=m from by
     have h1:=HS.out
     rw [List.take_of_length_le (by rw [HN.out.1]; omega),List.take_of_length_le (by rw [HN.out.2]; omega)] at h1
     exact h1)
    go_wp2_with fail
    go_ret
    refine ⟨?_,HB.out⟩
    rw [decide_eq_true HEQ.out]
    rfl
 ·have HNE:=hid (show ¬ l=m from fun h=>hNM (by rw [<-HN.out.1,<-HN.out.2,h]))
  have t0:¬ (N:Int)=(M:Int):=by omega
  clear hux hvx
  go_enter Tryz.func109,Tryz.ntmps109
  go_wp2_with fail
  go_ret
  refine ⟨?_,Below.refl _ _⟩
  rw [decide_eq_false HNE.out]
  rfl
end Go.Proofs.YticmnfmijdgmbaaGreatDoor

namespace Go.Proofs.YticmnfmijdgmbaaGreatDoor
open Go Go.RowKit Go.Lib
open X14 (It iterB BuiltOk BuiltMany closeX)
open S13 (u64 bitN top E0 F0 Sub)
open S13.X15 (Pl LeastA askX places cxB)
end Go.Proofs.YticmnfmijdgmbaaGreatDoor

namespace Go.Proofs.YticmnfmijdgmbaaGreatDoor
open Go Go.RowKit Go.Lib
open X14 (It)
set_option maxRecDepth 100000 in
set_option maxHeartbeats 8000000 in
theorem index_any {w:World} {v:Value} {l:List It} (hv:ItemsAt w v l) (x:It) (hl:l.length<=1000000) :
  Calls Tryz.prog 95 #[v,itV x] w fun e w'=>∃ k:Int,e=.returned (.int .i64 k)/\Below w.heap.size w w'/\-1<=k/\k<=1000000/\(0<=k->x ∈ l)/\(x ∈ l->0<=k):=by
 obtain ⟨x1,x2⟩:=x
 obtain ⟨W1,e1⟩:=nmQ (w.alloc (.cells #[.int .i64 x1,.int .i64 x2] 60))
 have n1:W1.heap[w.heap.size]?=some (.cells #[.int .i64 x1,.int .i64 x2] 60 (0,0)):=nbQ e1
 have h1:Below w.heap.size w W1:=baQ e1
 have HBW:=hid h1
 obtain ⟨vo,vc,rfl,hvl,hvx⟩:=hv.below h1
 obtain ⟨N,hN⟩:=nmQ (l.length)
 rw [hN] at hvl hvx hl ⊢
 have HN:=hid hN
 have HVX:=hid hvx
 have c0:W1.cell? ⟨w.heap.size,0,none⟩=some (.int .i64 x1):=coQ n1 0
 have c1:W1.cell? ⟨w.heap.size,1,none⟩=some (.int .i64 x2):=coQ n1 1
 have HX:=hid (And.intro c0 c1)
 have HS:=hid (show ¬ (x1,x2) ∈ l.take 0 from by simp)
 have HB:=hid (Below.refl W1.heap.size W1)
 unfold itV
 clear hN hvx h1 n1 hv c0 c1
 go_enter Tryz.func95,Tryz.ntmps95
 go_wp2_with fail
 go_loopw [5,8] (fun t5 t8 wr=>∃ (i:Nat),i<=N/\t8=.int .i64 (i:Int)/\Hid (Below W1.heap.size W1 wr)/\Hid (¬ (x1,x2) ∈ l.take i)) (fun _ t8 _=>N - (RowKit.intOf t8).toNat)
 case atStart=>exact ⟨0,Nat.zero_le _,rfl,HB,HS⟩
 case round =>
  clear HB HS e1
  obtain ⟨i,hiN,rfl,HB,HS⟩:=hrel
  by_cases hlt:i < N
  ·have j1:(i:Int) < (N:Int):=by omega
   have j0:(0:Int)<=(i:Int):=by omega
   obtain ⟨vb,vf,rfl,hv1⟩:=HVX.out (by omega)
   have hv2:=hv1 i hlt
   obtain ⟨a,ha⟩:∃ a,l[i]?=some a:=⟨_,geQ (by rw [HN.out]; exact hlt)⟩
   obtain ⟨a1,a2⟩:=a
   rw [gdQ,ha] at hv2
   obtain ⟨hv2,hv3⟩:=hv2
   have hv2:W1.cell? ⟨vb,vf + i * 2,none⟩=some (.int .i64 a1):=hv2
   have hv3:W1.cell? ⟨vb,vf + i * 2 + 1,none⟩=some (.int .i64 a2):=hv3
   have HF0:=hid (show ∀ w',Below wr.heap.size wr w'->w'.cell? ⟨vb,vf + i * 2,none⟩=some (.int .i64 a1)/\w'.cell? ⟨vb,vf + i * 2 + 1,none⟩=some (.int .i64 a2) from fun w' hC=>⟨cell_below (HB.out.trans (hC.mono HB.out.size)) hv2,cell_below (HB.out.trans (hC.mono HB.out.size)) hv3⟩)
   have HF1:=hid (show ∀ w',Below wr.heap.size wr w'->w'.cell? ⟨w.heap.size,0,none⟩=some (.int .i64 x1)/\w'.cell? ⟨w.heap.size,1,none⟩=some (.int .i64 x2) from fun w' hC=>⟨cell_below (HB.out.trans (hC.mono HB.out.size)) HX.out.1,cell_below (HB.out.trans (hC.mono HB.out.size)) HX.out.2⟩)
   have HA:=hid ha
   clear ha hv2 hv3 hv1
   go_wp2_with fail
   by_cases h1:x1=a1
   ·subst h1
    by_cases h2:x2=a2
    ·subst h2
     refine wp_region_below (by kernel_rfl) (by kernel_rfl) ?_
     repeat (refine BigFrame.wpQuiet_want (by rfl) (fun K hK=>?_)
             apply Exists.intro
             refine ⟨fun w' hC=>?_,hK _ ?_⟩
             . obtain ⟨f0',g0'⟩:=HF0.out w' hC
               obtain ⟨f1',g1'⟩:=HF1.out w' hC
               unfold Oper.quietAt
               go_simp
               first
                 | with_reducible rfl
                 | done
             clear hK K
             try simp only [Act.put,sjA,sj0,sjS])
     refine wpQuiet_nil ?_
     intro w6 hb6
     have HB6:=hid (HB.out.trans (hb6.mono HB.out.size))
     clear hb6
     have HIN:=hid (List.mem_of_getElem? HA.out)
     clear HF0 HF1
     go_wp2_with fail
     go_ret
     exact ⟨(i:Int),rfl,HBW.out.trans (HB6.out.mono HBW.out.size),by omega,by omega,fun _=>HIN.out,fun _=>by omega⟩
    ·have HAB:¬ (x1,x2)=(x1,a2):=fun h=>h2 (congrArg Prod.snd h)
     refine wp_region_below (by kernel_rfl) (by kernel_rfl) ?_
     repeat (refine BigFrame.wpQuiet_want (by rfl) (fun K hK=>?_)
             apply Exists.intro
             refine ⟨fun w' hC=>?_,hK _ ?_⟩
             . obtain ⟨f0',g0'⟩:=HF0.out w' hC
               obtain ⟨f1',g1'⟩:=HF1.out w' hC
               unfold Oper.quietAt
               go_simp
               first
                 | with_reducible rfl
                 | done
             clear hK K
             try simp only [Act.put,sjA,sj0,sjS])
     refine wpQuiet_nil ?_
     intro w6 hb6
     have HB6:=hid (HB.out.trans (hb6.mono HB.out.size))
     clear hb6
     clear HF0 HF1
     go_wp2_with fail
     refine ⟨⟨i + 1,by omega,rfl,HB6,hid fun h=>?_⟩,?_⟩
     ·rw [List.take_add_one,HA.out] at h
      rcases List.mem_append.1 h with h | h
      ·exact HS.out h
      ·exact HAB (by simpa using h)
     ·show N - ((i:Int) + 1).toNat < N - ((i:Int)).toNat
      omega
   ·have HAB:¬ (x1,x2)=(a1,a2):=fun h=>h1 (congrArg Prod.fst h)
    refine wp_region_below (by kernel_rfl) (by kernel_rfl) ?_
    repeat (refine BigFrame.wpQuiet_want (by rfl) (fun K hK=>?_)
            apply Exists.intro
            refine ⟨fun w' hC=>?_,hK _ ?_⟩
            . obtain ⟨f0',g0'⟩:=HF0.out w' hC
              obtain ⟨f1',g1'⟩:=HF1.out w' hC
              unfold Oper.quietAt
              go_simp
              first
                | with_reducible rfl
                | done
            clear hK K
            try simp only [Act.put,sjA,sj0,sjS])
    refine wpQuiet_nil ?_
    intro w6 hb6
    have HB6:=hid (HB.out.trans (hb6.mono HB.out.size))
    clear hb6
    clear HF0 HF1
    go_wp2_with fail
    refine ⟨⟨i + 1,by omega,rfl,HB6,hid fun h=>?_⟩,?_⟩
    ·rw [List.take_add_one,HA.out] at h
     rcases List.mem_append.1 h with h | h
     ·exact HS.out h
     ·exact HAB (by simpa using h)
    ·show N - ((i:Int) + 1).toNat < N - ((i:Int)).toNat
     omega
  ·have j1:¬ (i:Int) < (N:Int):=by omega
   have HEQ:=hid (show ¬ (x1,x2) ∈ l from by
    have h1:=HS.out
    rw [List.take_of_length_le (by rw [HN.out]; omega)] at h1
    exact h1)
   go_wp2_with fail
   go_ret
   exact ⟨-1,rfl,HBW.out.trans (HB.out.mono HBW.out.size),by omega,by omega,fun h=>absurd h (by decide),fun h=>absurd h HEQ.out⟩
set_option maxRecDepth 100000 in
set_option maxHeartbeats 8000000 in
theorem contains_any {w:World} {v:Value} {l:List It} (hv:ItemsAt w v l) (x:It) (hl:l.length<=1000000) :
  Calls Tryz.prog 54 #[v,itV x] w fun e w'=>e=.returned (.bool (decide (x ∈ l)))/\Below w.heap.size w w':=by
 obtain ⟨W1,e1⟩:=nmQ (w.alloc (.cells #[.int .i64 x.1,.int .i64 x.2] 60))
 have n1:W1.heap[w.heap.size]?=some (.cells #[.int .i64 x.1,.int .i64 x.2] 60 (0,0)):=nbQ e1
 have h1:Below w.heap.size w W1:=baQ e1
 have HBW:=hid h1
 have c0:W1.cell? ⟨w.heap.size,0,none⟩=some (.int .i64 x.1):=coQ n1 0
 have c1:W1.cell? ⟨w.heap.size,1,none⟩=some (.int .i64 x.2):=coQ n1 1
 have KI:=index_any (hv.below h1) x hl
 unfold itV at KI ⊢
 have KI:=hid KI
 clear n1 h1 hv
 go_enter Tryz.func54,Tryz.ntmps54
 go_wp2_with fail
 refine KI.out.mono ?_
 rintro e w6 ⟨k,rfl,hb6,hk1,hk2,hk3,hk4⟩
 have HB6:=hid (HBW.out.trans (hb6.mono HBW.out.size))
 clear hb6 KI c0 c1 e1
 by_cases hk:0<=k
 ·have HIN:=hid (hk3 hk)
  clear hk3 hk4
  go_wp2_with fail
  go_ret
  refine ⟨?_,HB6.out⟩
  rw [decide_eq_true HIN.out]
  rfl
 ·have HIN:=hid (show ¬ x ∈ l from fun h=>hk (hk4 h))
  clear hk3 hk4
  go_wp2_with fail
  go_ret
  refine ⟨?_,HB6.out⟩
  rw [decide_eq_false HIN.out]
  show Ending.returned (.bool (decide (0<=k)))=_
  rw [decide_eq_false (by omega)]
end Go.Proofs.YticmnfmijdgmbaaGreatDoor

namespace Go.Proofs.YticmnfmijdgmbaaGreatDoor
open Go Go.RowKit Go.Lib
open X14 (It rightX)
set_option maxRecDepth 100000 in
set_option maxHeartbeats 8000000 in
theorem long_any {G:GD} {gv:Value} {w:World} (h:Gram w gv G) (p:Int) (hp0:-1<=p) (hp:p < (G.prods.length:Int)) :
  Calls Tryz.prog 55 #[gv,.int .i64 p] w fun e w'=>e=.returned (.int .i64 ((rightX G p).length:Int))/\Below w.heap.size w w':=by
 obtain ⟨tv,ov,sv,pv,tf,rv,h⟩:=h
 obtain ⟨W1,B,hW1,hB,c0,c1,c2,c3,c4,hG,hb,hsz⟩:=gr_box h
 have hgv:=h.eq
 subst hgv hB
 have e1:=hW1.symm
 have HB1:=hid hb
 by_cases h0:p < 0
 ·have t0:decide (p < 0)=true:=decide_eq_true h0
  have hr:(rightX G p).length=1:=by unfold X14.rightX; rw [if_pos (by omega)]; rfl
  rw [hr]
  clear h hG hb hW1
  go_enter Tryz.func55,Tryz.ntmps55
  go_wp2_with fail
  go_ret
  exact ⟨rfl,HB1.out⟩
 ·have t0:decide (p < 0)=false:=decide_eq_false h0
  obtain ⟨j,rfl⟩:∃ j:Nat,p=(j:Int):=⟨p.toNat,by omega⟩
  obtain ⟨pa,pc,rfl,hpn,hpx⟩:=hG.prods
  have hjl:j < G.prods.length:=by omega
  obtain ⟨pb,po,rfl,hpq⟩:=hpx (by omega)
  obtain ⟨p0,p1,p2,p3⟩:=hpq j hjl
  obtain ⟨⟨ra,rc,hre,hrn,_⟩,_⟩:=hG.rights j hjl
  rw [hre] at p2
  have hr:rightX G (j:Int)=(G.prods.getD j default).rs:=by unfold X14.rightX; rw [if_neg (by omega)]; rfl
  rw [hr]
  obtain ⟨rn,hrn2⟩:=nmQ ((G.prods.getD j default).rs.length)
  rw [hrn2] at p2 hrn ⊢
  obtain ⟨np,hnp⟩:=nmQ (G.prods.length)
  rw [hnp] at c3 hjl hp e1 ⊢
  have j1:(j:Int) < (np:Int):=by omega
  have j0:(0:Int)<=(j:Int):=by omega
  clear h hG hb hW1 hpx hpq p0 p1 p3 hpn
  go_enter Tryz.func55,Tryz.ntmps55
  go_wp2_with fail
  go_ret
  exact ⟨rfl,HB1.out⟩
end Go.Proofs.YticmnfmijdgmbaaGreatDoor
