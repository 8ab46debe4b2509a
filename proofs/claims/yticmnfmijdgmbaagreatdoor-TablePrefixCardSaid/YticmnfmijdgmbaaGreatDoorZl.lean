/- slices.Equal, of deeds and of sets; table.same. -/
import Derived.Test.YticmnfmijdgmbaaGreatDoorGa
import Derived.Test.YticmnfmijdgmbaaGreatDoorZk
import Derived.Test.YticmnfmijdgmbaaGreatDoorXm
import Derived.Test.YticmnfmijdgmbaaGreatDoorZi
import Derived.Test.YticmnfmijdgmbaaGreatDoorZg
set_option linter.unusedVariables false
set_option linter.unusedSimpArgs false
namespace Go.Proofs.YticmnfmijdgmbaaGreatDoor
open Go Go.RowKit Go.Lib
open X14 (It)
open S16
theorem RowsAt_lt {w:World} {v:Value} {n:Nat} {p q:Nat->Value->Prop} (h:RowsAt w v n p) (hpq:∀ i u,i < n->p i u->q i u):RowsAt w v n q:=by
 obtain ⟨a,cap,rfl,hn,h⟩:=h
 refine ⟨a,cap,rfl,hn,fun h0=>?_⟩
 obtain ⟨b,off,rfl,hc⟩:=h h0
 exact ⟨b,off,rfl,fun i hi=>by
  obtain ⟨u,h1,h2⟩:=hc i hi
  exact ⟨u,h1,hpq i u hi h2⟩⟩
set_option maxRecDepth 100000 in
set_option maxHeartbeats 8000000 in
theorem eqDeeds_any {w:World} {u v:Value} {l m:List It} (hu:ItemsAt w u l) (hv:ItemsAt w v m) :
  Calls Tryz.prog 118 #[u,v] w fun e w'=>e=.returned (.bool (decide (l=m)))/\Below w.heap.size w w':=by
 obtain ⟨uo,uc,rfl,hul,hux⟩:=hu
 obtain ⟨vo,vc,rfl,hvl,hvx⟩:=hv
 obtain ⟨N,hN⟩:=nmQ (l.length)
 obtain ⟨M,hM⟩:=nmQ (m.length)
 rw [hN] at hul hux ⊢
 rw [hM] at hvl hvx ⊢
 have HN:=hid (And.intro hN hM)
 clear hN hM
 by_cases hNM:N=M
 ·subst hNM
  have HUX:=hid hux
  have HVX:=hid hvx
  have HS:=hid (show l.take 0=m.take 0 from rfl)
  have HB:=hid (Below.refl w.heap.size w)
  clear hux hvx
  go_enter Tryz.func118,Tryz.ntmps118
  go_wp2_with fail
  go_loopw [5,13] (fun t5 t13 wr=>∃ (i:Nat),i<=N/\t13=.int .i64 (i:Int)/\Hid (Below w.heap.size w wr)/\Hid (l.take i=m.take i)) (fun _ t13 _=>N - (RowKit.intOf t13).toNat)
  case atStart=>exact ⟨0,Nat.zero_le _,rfl,HB,HS⟩
  case round =>
   clear HB HS
   obtain ⟨i,hiN,rfl,HB,HS⟩:=hrel
   by_cases hlt:i < N
   ·have j1:(i:Int) < (N:Int):=by omega
    have j0:(0:Int)<=(i:Int):=by omega
    obtain ⟨ub,uf,rfl,hu1⟩:=HUX.out (by omega)
    obtain ⟨vb,vf,rfl,hv1⟩:=HVX.out (by omega)
    have hu2:=hu1 i hlt
    have hv2:=hv1 i hlt
    obtain ⟨a,ha⟩:∃ a,l[i]?=some a:=⟨_,geQ (by rw [HN.out.1]; exact hlt)⟩
    obtain ⟨b,hb⟩:∃ b,m[i]?=some b:=⟨_,geQ (by rw [HN.out.2]; exact hlt)⟩
    rw [gdQ,ha] at hu2
    rw [gdQ,hb] at hv2
    obtain ⟨hu2,hu3⟩:=hu2
    have hu2:w.cell? ⟨ub,uf + i * 2,none⟩=some (.int .i64 a.1):=hu2
    have hu3:w.cell? ⟨ub,uf + i * 2 + 1,none⟩=some (.int .i64 a.2):=hu3
    obtain ⟨hv2,hv3⟩:=hv2
    have hv2:w.cell? ⟨vb,vf + i * 2,none⟩=some (.int .i64 b.1):=hv2
    have hv3:w.cell? ⟨vb,vf + i * 2 + 1,none⟩=some (.int .i64 b.2):=hv3
    have HF0:=hid (show ∀ w',Below wr.heap.size wr w'->w'.cell? ⟨ub,uf + i * 2,none⟩=some (.int .i64 a.1)/\w'.cell? ⟨ub,uf + i * 2 + 1,none⟩=some (.int .i64 a.2) from fun w' hC=>⟨cell_below (HB.out.trans (hC.mono HB.out.size)) hu2,cell_below (HB.out.trans (hC.mono HB.out.size)) hu3⟩)
    have HF1:=hid (show ∀ w',Below wr.heap.size wr w'->w'.cell? ⟨vb,vf + i * 2,none⟩=some (.int .i64 b.1)/\w'.cell? ⟨vb,vf + i * 2 + 1,none⟩=some (.int .i64 b.2) from fun w' hC=>⟨cell_below (HB.out.trans (hC.mono HB.out.size)) hv2,cell_below (HB.out.trans (hC.mono HB.out.size)) hv3⟩)
    have HA:=hid (And.intro ha hb)
    clear ha hb hu2 hv2 hu1 hv1 hu3 hv3
    go_wp2_with fail
    obtain ⟨a1,a2⟩:=a
    obtain ⟨b1,b2⟩:=b
    dsimp only at HF0 HF1
    by_cases h1:a1=b1
    ·subst h1
     by_cases h2:a2=b2
     ·subst h2
      refine wp_region_below (by kernel_rfl) (by kernel_rfl) ?_
      repeat (refine BigFrame.wpQuiet_want (by rfl) (fun K hK=>?_)
              apply Exists.intro
              refine ⟨fun w' hC=>?_,hK _ ?_⟩
              . obtain ⟨f0',g0'⟩:=HF0.out w' hC
                obtain ⟨f1',g1'⟩:=HF1.out w' hC
                unfold Oper.quietAt
                go_simp
                first
                  | with_reducible rfl
                  | done
              clear hK K
              try simp only [Act.put,sjA,sj0,sjS])
      refine wpQuiet_nil ?_
      intro w6 hb6
      have HB6:=hid (HB.out.trans (hb6.mono HB.out.size))
      clear hb6
      have HS6:=hid (take_eq_succ HS.out HA.out.1 HA.out.2 rfl)
      clear HF0 HF1
      go_wp2_with fail
      refine ⟨⟨i + 1,by omega,rfl,HB6,HS6⟩,?_⟩
      show N - ((i:Int) + 1).toNat < N - ((i:Int)).toNat
      omega
     ·have HAB:¬ (a1,a2)=(a1,b2):=fun h=>h2 (congrArg Prod.snd h)
      refine wp_region_below (by kernel_rfl) (by kernel_rfl) ?_
      repeat (refine BigFrame.wpQuiet_want (by rfl) (fun K hK=>?_)
              apply Exists.intro
              refine ⟨fun w' hC=>?_,hK _ ?_⟩
              . obtain ⟨f0',g0'⟩:=HF0.out w' hC
                obtain ⟨f1',g1'⟩:=HF1.out w' hC
                unfold Oper.quietAt
                go_simp
                first
                  | with_reducible rfl
                  | done
              clear hK K
              try simp only [Act.put,sjA,sj0,sjS])
      refine wpQuiet_nil ?_
      intro w6 hb6
      have HB6:=hid (HB.out.trans (hb6.mono HB.out.size))
      clear hb6
      have HNE:=hid (take_ne HA.out.1 HA.out.2 HAB)
      go_wp2_with fail
      go_ret
      refine ⟨?_,HB6.out⟩
      rw [decide_eq_false HNE.out]
      rfl
    ·have HAB:¬ (a1,a2)=(b1,b2):=fun h=>h1 (congrArg Prod.fst h)
     refine wp_region_below (by kernel_rfl) (by kernel_rfl) ?_
     repeat (refine BigFrame.wpQuiet_want (by rfl) (fun K hK=>?_)
             apply Exists.intro
             refine ⟨fun w' hC=>?_,hK _ ?_⟩
             . obtain ⟨f0',g0'⟩:=HF0.out w' hC
               obtain ⟨f1',g1'⟩:=HF1.out w' hC
               unfold Oper.quietAt
               go_simp
               first
                 | with_reducible rfl
                 | done
             clear hK K
             try simp only [Act.put,sjA,sj0,sjS])
     refine wpQuiet_nil ?_
     intro w6 hb6
     have HB6:=hid (HB.out.trans (hb6.mono HB.out.size))
     clear hb6
     have HNE:=hid (take_ne HA.out.1 HA.out.2 HAB)
     go_wp2_with fail
     go_ret
     refine ⟨?_,HB6.out⟩
     rw [decide_eq_false HNE.out]
     rfl
   ·have j1:¬ (i:Int) < (N:Int):=by omega
    have HEQ:=hid (show l=m from by
     have h1:=HS.out
     rw [List.take_of_length_le (by rw [HN.out.1]; omega),List.take_of_length_le (by rw [HN.out.2]; omega)] at h1
     exact h1)
    go_wp2_with fail
    go_ret
    refine ⟨?_,HB.out⟩
    rw [decide_eq_true HEQ.out]
    rfl
 ·have HNE:=hid (show ¬ l=m from fun h=>hNM (by rw [<-HN.out.1,<-HN.out.2,h]))
  have t0:¬ (N:Int)=(M:Int):=by omega
  clear hux hvx
  go_enter Tryz.func118,Tryz.ntmps118
  go_wp2_with fail
  go_ret
  refine ⟨?_,Below.refl _ _⟩
  rw [decide_eq_false HNE.out]
  rfl
set_option maxRecDepth 100000 in
set_option maxHeartbeats 8000000 in
theorem eqRows_any {w:World} {u v:Value} {l m:List (List It)} (hu:RowsAt w u l.length (fun i x=>ItemsAt w x (l.getD i []))) (hv:RowsAt w v m.length (fun i x=>ItemsAt w x (m.getD i []))) :
  Calls Tryz.prog 117 #[u,v,.func (.func 118) #[] #[]] w fun e w'=>e=.returned (.bool (decide (l=m)))/\Below w.heap.size w w':=by
 obtain ⟨uo,uc,rfl,hul,hux⟩:=hu
 obtain ⟨vo,vc,rfl,hvl,hvx⟩:=hv
 obtain ⟨N,hN⟩:=nmQ (l.length)
 obtain ⟨M,hM⟩:=nmQ (m.length)
 rw [hN] at hul hux ⊢
 rw [hM] at hvl hvx ⊢
 have HN:=hid (And.intro hN hM)
 clear hN hM
 by_cases hNM:N=M
 ·subst hNM
  have HUX:=hid hux
  have HVX:=hid hvx
  have HS:=hid (show l.take 0=m.take 0 from rfl)
  have HB:=hid (Below.refl w.heap.size w)
  clear hux hvx
  go_enter Tryz.func117,Tryz.ntmps117
  go_wp2_with fail
  go_loopw [7,8,9,17] (fun t7 t8 t9 t17 wr=>∃ (i:Nat),i<=N/\t17=.int .i64 (i:Int)/\Hid (Below w.heap.size w wr)/\Hid (l.take i=m.take i)) (fun _ _ _ t17 _=>N - (RowKit.intOf t17).toNat)
  case atStart=>exact ⟨0,Nat.zero_le _,rfl,HB,HS⟩
  case round =>
   clear HB HS
   obtain ⟨i,hiN,rfl,HB,HS⟩:=hrel
   by_cases hlt:i < N
   ·have j1:(i:Int) < (N:Int):=by omega
    have j0:(0:Int)<=(i:Int):=by omega
    obtain ⟨ub,uf,rfl,hu1⟩:=HUX.out (by omega)
    obtain ⟨vb,vf,rfl,hv1⟩:=HVX.out (by omega)
    obtain ⟨x,hx,hxi⟩:=hu1 i hlt
    obtain ⟨y,hy,hyi⟩:=hv1 i hlt
    obtain ⟨a,ha⟩:∃ a,l[i]?=some a:=⟨_,geQ (by rw [HN.out.1]; exact hlt)⟩
    obtain ⟨b,hb⟩:∃ b,m[i]?=some b:=⟨_,geQ (by rw [HN.out.2]; exact hlt)⟩
    rw [gdQ,ha] at hxi
    rw [gdQ,hb] at hyi
    have f0:wr.cell? ⟨ub,uf + i,none⟩=some x:=cell_below HB.out hx
    have f1:wr.cell? ⟨vb,vf + i,none⟩=some y:=cell_below HB.out hy
    have KE:=hid (eqDeeds_any (w:=wr) (u:=x) (v:=y) (l:=a) (m:=b) (hxi.below HB.out) (hyi.below HB.out))
    have HA:=hid (And.intro ha hb)
    clear ha hb hx hy hu1 hv1 hxi hyi
    go_wp2_with fail
    refine KE.out.mono ?_
    rintro e w6 ⟨rfl,hb6⟩
    have HB6:=hid (HB.out.trans (hb6.mono HB.out.size))
    clear hb6 KE
    by_cases hab:a=b
    ·have HS6:=hid (take_eq_succ HS.out HA.out.1 HA.out.2 hab)
     rw [decide_eq_true hab]
     go_wp2_with fail
     refine ⟨⟨i + 1,by omega,rfl,HB6,HS6⟩,?_⟩
     show N - ((i:Int) + 1).toNat < N - ((i:Int)).toNat
     omega
    ·have HNE:=hid (take_ne HA.out.1 HA.out.2 hab)
     rw [decide_eq_false hab]
     clear hab
     go_wp2_with fail
     go_ret
     refine ⟨?_,HB6.out⟩
     rw [decide_eq_false HNE.out]
     rfl
   ·have j1:¬ (i:Int) < (N:Int):=by omega
    have HEQ:=hid (show l=m from by
     have h1:=HS.out
     rw [List.take_of_length_le (by rw [HN.out.1]; omega),List.take_of_length_le (by rw [HN.out.2]; omega)] at h1
     exact h1)
    go_wp2_with fail
    go_ret
    refine ⟨?_,HB.out⟩
    rw [decide_eq_true HEQ.out]
    rfl
 ·have HNE:=hid (show ¬ l=m from fun h=>hNM (by rw [<-HN.out.1,<-HN.out.2,h]))
  have t0:¬ (N:Int)=(M:Int):=by omega
  clear hux hvx
  go_enter Tryz.func117,Tryz.ntmps117
  go_wp2_with fail
  go_ret
  refine ⟨?_,Below.refl _ _⟩
  rw [decide_eq_false HNE.out]
  rfl
set_option maxRecDepth 100000 in
set_option maxHeartbeats 8000000 in
theorem eqSets_any {w:World} {u v:Value} {l m:List Nat} (hu:U64s w u l) (hv:U64s w v m) :
  Calls Tryz.prog 119 #[u,v] w fun e w'=>e=.returned (.bool (decide (l=m)))/\Below w.heap.size w w':=by
 obtain ⟨uo,uc,rfl,hul,hux⟩:=hu
 obtain ⟨vo,vc,rfl,hvl,hvx⟩:=hv
 obtain ⟨N,hN⟩:=nmQ (l.length)
 obtain ⟨M,hM⟩:=nmQ (m.length)
 rw [hN] at hul hux ⊢
 rw [hM] at hvl hvx ⊢
 have HN:=hid (And.intro hN hM)
 clear hN hM
 by_cases hNM:N=M
 ·subst hNM
  have HUX:=hid hux
  have HVX:=hid hvx
  have HS:=hid (show l.take 0=m.take 0 from rfl)
  have HB:=hid (Below.refl w.heap.size w)
  clear hux hvx
  go_enter Tryz.func119,Tryz.ntmps119
  go_wp2_with fail
  go_loopw [5,13] (fun t5 t13 wr=>∃ (i:Nat),i<=N/\t13=.int .i64 (i:Int)/\Hid (Below w.heap.size w wr)/\Hid (l.take i=m.take i)) (fun _ t13 _=>N - (RowKit.intOf t13).toNat)
  case atStart=>exact ⟨0,Nat.zero_le _,rfl,HB,HS⟩
  case round =>
   clear HB HS
   obtain ⟨i,hiN,rfl,HB,HS⟩:=hrel
   by_cases hlt:i < N
   ·have j1:(i:Int) < (N:Int):=by omega
    have j0:(0:Int)<=(i:Int):=by omega
    obtain ⟨ub,uf,rfl,hu1⟩:=HUX.out (by omega)
    obtain ⟨vb,vf,rfl,hv1⟩:=HVX.out (by omega)
    have hu2:=hu1 i hlt
    have hv2:=hv1 i hlt
    obtain ⟨a,ha⟩:∃ a,l[i]?=some a:=⟨_,geQ (by rw [HN.out.1]; exact hlt)⟩
    obtain ⟨b,hb⟩:∃ b,m[i]?=some b:=⟨_,geQ (by rw [HN.out.2]; exact hlt)⟩
    rw [gdQ,ha] at hu2
    rw [gdQ,hb] at hv2
    have hu2:w.cell? ⟨ub,uf + i,none⟩=some (S13.u64 a):=hu2
    have hv2:w.cell? ⟨vb,vf + i,none⟩=some (S13.u64 b):=hv2
    have HF0:=hid (show ∀ w',Below wr.heap.size wr w'->w'.cell? ⟨ub,uf + i,none⟩=some (S13.u64 a) from fun w' hC=>cell_below (HB.out.trans (hC.mono HB.out.size)) hu2)
    have HF1:=hid (show ∀ w',Below wr.heap.size wr w'->w'.cell? ⟨vb,vf + i,none⟩=some (S13.u64 b) from fun w' hC=>cell_below (HB.out.trans (hC.mono HB.out.size)) hv2)
    have HA:=hid (And.intro ha hb)
    clear ha hb hu2 hv2 hu1 hv1
    go_wp2_with fail
    refine wp_region_below (by kernel_rfl) (by kernel_rfl) ?_
    repeat (refine BigFrame.wpQuiet_want (by rfl) (fun K hK=>?_)
            apply Exists.intro
            refine ⟨fun w' hC=>?_,hK _ ?_⟩
            . have f0':=HF0.out w' hC
              have f1':=HF1.out w' hC
              unfold Oper.quietAt
              go_simp
              first
                | with_reducible rfl
                | done
            clear hK K
            try simp only [Act.put,sjA,sj0,sjS])
    refine wpQuiet_nil ?_
    intro w6 hb6
    have HB6:=hid (HB.out.trans (hb6.mono HB.out.size))
    clear hb6
    by_cases hab:a=b
    ·have HS6:=hid (take_eq_succ HS.out HA.out.1 HA.out.2 hab)
     subst hab
     clear HF0 HF1
     go_wp2_with fail
     refine ⟨⟨i + 1,by omega,rfl,HB6,HS6⟩,?_⟩
     show N - ((i:Int) + 1).toNat < N - ((i:Int)).toNat
     omega
    ·have HNE:=hid (take_ne HA.out.1 HA.out.2 hab)
     go_wp2_with fail
     go_ret
     refine ⟨?_,HB6.out⟩
     rw [decide_eq_false HNE.out]
     rfl
   ·have j1:¬ (i:Int) < (N:Int):=by omega
    have HEQ:=hid (show l=m from by
     have h1:=HS.out
     rw [List.take_of_length_le (by rw [HN.out.1]; omega),List.take_of_length_le (by rw [HN.out.2]; omega)] at h1
     exact h1)
    go_wp2_with fail
    go_ret
    refine ⟨?_,HB.out⟩
    rw [decide_eq_true HEQ.out]
    rfl
 ·have HNE:=hid (show ¬ l=m from fun h=>hNM (by rw [<-HN.out.1,<-HN.out.2,h]))
  have t0:¬ (N:Int)=(M:Int):=by omega
  clear hux hvx
  go_enter Tryz.func119,Tryz.ntmps119
  go_wp2_with fail
  go_ret
  refine ⟨?_,Below.refl _ _⟩
  rw [decide_eq_false HNE.out]
  rfl
set_option maxRecDepth 100000 in
set_option maxHeartbeats 8000000 in
theorem sameT_any {w:World} {u v:Value} {n m:Nat} {D:Nat->Nat->List It} {Nx:Nat->List Int} (ha:TabAt w u n m D Nx) (hb:TabAt w v n m D Nx) :
  Calls Tryz.prog 81 #[u,v] w fun e w'=>e=.returned (.bool true)/\Below w.heap.size w w':=by
 obtain ⟨du,nu,mu,rfl,a1,a2,a3⟩:=ha
 obtain ⟨dv,nv,mv,rfl,b1,b2,b3⟩:=hb
 have hg:∀ (α:Type) (f:Nat->α) (d:α) i,i < n->((List.range n).map f).getD i d=f i:=fun α f d i hi=>by
  rw [gdQ,List.getElem?_map,List.getElem?_range hi]; rfl
 have hl:∀ (α:Type) (f:Nat->α),((List.range n).map f).length=n:=fun α f=>by simp
 obtain ⟨W1,e1⟩:=nmQ (w.alloc (.cells #[du,nu,mu] 96))
 have h1:Below w.heap.size w W1:=baQ e1
 have n1:W1.heap[w.heap.size]?=some (.cells #[du,nu,mu] 96 (0,0)):=nbQ e1
 obtain ⟨W2,e2⟩:=nmQ (W1.alloc (.cells #[dv,nv,mv] 96))
 have h2:Below W1.heap.size W1 W2:=baQ e2
 have n2:W2.heap[W1.heap.size]?=some (.cells #[dv,nv,mv] 96 (0,0)):=nbQ e2
 have n1':=(h2.block _ (ltQ n1)).trans n1
 have hb12:Below w.heap.size w W2:=h1.trans (h2.mono h1.size)
 have HB2:=hid hb12
 have HC:=hid (show ∀ w',Below W2.heap.size W2 w'->(w'.cell? ⟨w.heap.size,0,none⟩=some du/\w'.cell? ⟨w.heap.size,1,none⟩=some nu/\w'.cell? ⟨w.heap.size,2,none⟩=some mu)/\(w'.cell? ⟨W1.heap.size,0,none⟩=some dv/\w'.cell? ⟨W1.heap.size,1,none⟩=some nv/\w'.cell? ⟨W1.heap.size,2,none⟩=some mv) from fun w' hC =>
  ⟨⟨cell_below hC (coQ n1' 0),cell_below hC (coQ n1' 1),cell_below hC (coQ n1' 2)⟩,⟨cell_below hC (coQ n2 0),cell_below hC (coQ n2 1),cell_below hC (coQ n2 2)⟩⟩)
 have HR:=hid (show ∀ w',Below w.heap.size w w'->Calls Tryz.prog 117 #[du,dv,.func (.func 118) #[] #[]] w' fun e w''=>e=.returned (.bool true)/\Below w'.heap.size w' w'' from fun w' hC=>by
  have:=eqRows_any (w:=w') (u:=du) (v:=dv) (l:=(List.range n).map fun i=>onlyX (D i) m m) (m:=(List.range n).map fun i=>onlyX (D i) m m)
   (by rw [hl]; exact RowsAt_lt (a1.below hC fun i u hu=>hu.below hC) fun i u hi hu=>by rw [hg _ _ _ i hi]; exact hu)
   (by rw [hl]; exact RowsAt_lt (b1.below hC fun i u hu=>hu.below hC) fun i u hi hu=>by rw [hg _ _ _ i hi]; exact hu)
  rw [decide_eq_true rfl] at this
  exact this)
 have HN:=hid (show ∀ w',Below w.heap.size w w'->Calls Tryz.prog 109 #[nu,nv,.func (.func 110) #[] #[]] w' fun e w''=>e=.returned (.bool true)/\Below w'.heap.size w' w'' from fun w' hC=>by
  have:=eqNexts_any (w:=w') (u:=nu) (v:=nv) (l:=(List.range n).map Nx) (m:=(List.range n).map Nx)
   (by rw [hl]; exact RowsAt_lt (a2.below hC fun i u hu=>hu.mono hC) fun i u hi hu=>by rw [hg _ _ _ i hi]; exact hu)
   (by rw [hl]; exact RowsAt_lt (b2.below hC fun i u hu=>hu.mono hC) fun i u hi hu=>by rw [hg _ _ _ i hi]; exact hu)
  rw [decide_eq_true rfl] at this
  exact this)
 have HM:=hid (show ∀ w',Below w.heap.size w w'->Calls Tryz.prog 119 #[mu,mv] w' fun e w''=>e=.returned (.bool true)/\Below w'.heap.size w' w'' from fun w' hC=>by
  have:=eqSets_any (w:=w') (u:=mu) (v:=mv) (RowAt.mono a3 fun _ _ _ hc=>cell_below hC hc) (RowAt.mono b3 fun _ _ _ hc=>cell_below hC hc)
  rw [decide_eq_true rfl] at this
  exact this)
 obtain ⟨⟨c0,c1,c2⟩,⟨d0,d1,d2⟩⟩:=HC.out W2 (Below.refl _ _)
 have K1:=hid (HR.out W2 hb12)
 clear n1 n2 h1 h2 n1' a1 a2 a3 b1 b2 b3 hb12
 go_enter Tryz.func81,Tryz.ntmps81
 go_wp2_with fail
 refine K1.out.mono ?_
 rintro e w6 ⟨rfl,hb6⟩
 have HB6:=hid (HB2.out.trans (hb6.mono HB2.out.size))
 have HX6:=hid hb6
 clear c0 c1 c2 d0 d1 d2 K1 hb6 e1 e2
 obtain ⟨⟨c0,c1,c2⟩,⟨d0,d1,d2⟩⟩:=HC.out w6 HX6.out
 have K2:=hid (HN.out w6 HB6.out)
 go_wp2_with fail
 refine K2.out.mono ?_
 rintro e w7 ⟨rfl,hb7⟩
 have HB7:=hid (HB6.out.trans (hb7.mono HB6.out.size))
 have HX7:=hid (HX6.out.trans (hb7.mono HX6.out.size))
 clear c0 c1 c2 d0 d1 d2 K2 hb7
 obtain ⟨⟨c0,c1,c2⟩,⟨d0,d1,d2⟩⟩:=HC.out w7 HX7.out
 have K3:=hid (HM.out w7 HB7.out)
 go_wp2_with fail
 refine K3.out.mono ?_
 rintro e w8 ⟨rfl,hb8⟩
 have HB8:=hid (HB7.out.trans (hb8.mono HB7.out.size))
 clear c0 c1 c2 d0 d1 d2 K3 hb8
 go_wp2_with fail
 go_ret
 exact ⟨rfl,HB8.out⟩
end Go.Proofs.YticmnfmijdgmbaaGreatDoor

namespace Go.Proofs.YticmnfmijdgmbaaGreatDoor
open X14 (It iterB BuiltOk closeX rightX behX sortX symsX InC thereX)
open S13 (u64 bitN top E0 F0 Sub hasN Least LeastS evF ofRow isK RowOk sub_iff testBit_bitN valid_rows e0_least f0_least)
open S13.X15 (Pl LeastA askX places cxB Cx CxOk cx_ok mem_places mem_C askX_some askX_none needX_mem fstX nulX nulB restX go_built SymOk)
namespace S16
def actX (D:Nat->Nat->List It) (T:Nat) (i:Nat) (t:Int):LR.Do:=
 if t=63\/0<=t/\t < (T:Int) then (match (D i (if t=63 then T else t.toNat)).head? with
  | none=>.wrong
  | some x=>if x.1=1 then .shift x.2.toNat else if x.1=2 then .red x.2 else .acc) else .wrong
noncomputable def mG (G:GD) (n:Nat) (D:Nat->Nat->List It):LR.Mach where
 rt p:=rightX G p
 srt q:=-1 - sortX G q.toNat
 isP q:=0<=q/\q < (G.prods.length:Int)
 C i p d:=i < n/\(p,(d:Int)) ∈ (cxB G n (E0 G) (F0 G)).C i
 go i s:=goX G (iterB G n).nx (i:Int) s
 act:=actX D G.terms.length
section
variable {G:GD} {n:Nat} {D:Nat->Nat->List It} {A:Pl->Nat}
theorem srt_at {p:PD} {q:Nat} (h:G.prods[q]?=some p):(mG G n D).srt (q:Int)=-1 - p.sort:=by
 show -1 - sortX G ((q:Int)).toNat=_
 rw [Int.toNat_natCast]
 unfold X14.sortX
 rw [gdQ,h]
 rfl
theorem rt_at {p:PD} {q:Nat} (h:G.prods[q]?=some p):(mG G n D).rt (q:Int)=p.rs:=by
 show rightX G (q:Int)=_
 unfold X14.rightX
 rw [if_neg (by omega),Int.toNat_natCast,gdQ,h]
 rfl
theorem isp_at {p:PD} {q:Nat} (h:G.prods[q]?=some p):(mG G n D).isP (q:Int):=by
 have:=(List.getElem?_eq_some_iff.1 h).1
 exact ⟨by omega,by omega⟩
theorem isp_prod {q:Int} (h:(mG G n D).isP q):∃ p,G.prods[q.toNat]?=some p/\((q.toNat:Nat):Int)=q:=by
 obtain ⟨h1,h2⟩:=h
 exact ⟨_,geQ (by omega),by omega⟩
theorem row_of {p:PD} (hV:validB G=true) {q:Nat} (h:G.prods[q]?=some p):0<=p.sort/\p.sort < G.sorts.length/\RowOk G.terms.length G.sorts.length p.rs:=valid_rows hV p (List.mem_of_getElem? h)
theorem nul_of (hV:validB G=true) {L:List Bool} (h:S13.Reach false G.prods (List.replicate G.sorts.length false) L):∀ s:Int,isK false L s=true->LR.Nul (mG G n D) s:=by
 induction h with
 | refl =>
  intro s hs
  unfold S13.isK at hs
  split at hs
  ·rw [gdQ,List.getElem?_replicate] at hs
   split at hs <;> simp at hs
  ·cases hs
 | step hr hp ih =>
  rename_i L p
  intro s hs
  have hs0:s < 0:=by
   unfold S13.isK at hs
   split at hs
   ·assumption
   ·cases hs
  unfold S13.isK at hs
  rw [if_pos hs0] at hs
  unfold S13.stepB at hs
  rw [gdQ,List.getElem?_set] at hs
  have old:L.getD (-1 - s).toNat false=true->LR.Nul (mG G n D) s:=fun h=>ih s (by unfold S13.isK; rw [if_pos hs0]; exact h)
  split at hs
  ·rename_i e
   split at hs
   ·rw [Option.getD_some,Bool.or_eq_true] at hs
    rcases hs with hs | hs
    ·exact old (by rw [<-e]; exact hs)
    ·obtain ⟨q,hq⟩:=List.mem_iff_getElem?.1 hp
     have h0:=(row_of hV hq).1
     have e2:s=-1 - p.sort:=by omega
     rw [e2,<-srt_at (n:=n) (D:=D) hq]
     refine .mk (q:Int) (isp_at hq) ?_
     rw [rt_at hq]
     exact fun x hx=>ih x (List.all_eq_true.1 hs x hx)
   ·cases hs
  ·exact old (by rw [gdQ]; exact hs)
theorem of_nul (hV:validB G=true) {s:Int} (h:LR.Nul (mG G n D) s):isK false (E0 G) s=true:=by
 induction h with
 | mk q hq hs ih =>
  obtain ⟨p,hp,hq'⟩:=isp_prod hq
  have h0:=(row_of hV hp).1
  rw [<-hq',srt_at hp]
  unfold S13.isK
  rw [if_pos (by omega),show (-1 - (-1 - p.sort)).toNat=p.sort.toNat by omega]
  refine (e0_least hV).2 p (List.mem_of_getElem? hp) (List.all_eq_true.2 fun x hx=>ih x ?_)
  rw [<-hq',rt_at hp]
  exact hx
theorem nulB_iff (hV:validB G=true) (l:List Int) (hl:RowOk G.terms.length G.sorts.length l):nulB (E0 G) (F0 G).length l=true ↔ ∀ s ∈ l,LR.Nul (mG G n D) s:=by
 have hF:(F0 G).length=G.sorts.length:=(f0_least hV).length
 induction l with
 | nil=>exact ⟨fun _ s hs=>(by cases hs),fun _=>rfl⟩
 | cons s l ih =>
  have ih:=ih fun x hx=>hl x (List.mem_cons_of_mem _ hx)
  have hs:=hl s List.mem_cons_self
  unfold S13.X15.nulB
  by_cases h0:0<=s
  ·rw [if_pos h0]
   refine ⟨fun h=>by (cases h),fun h=>?_⟩
   have:=of_nul hV (h s List.mem_cons_self)
   unfold S13.isK at this
   rw [if_neg (by omega)] at this
   exact this
  ·rw [if_neg h0,if_neg (by omega),Bool.and_eq_true]
   have e:(E0 G).getD (-1 - s).toNat false=isK false (E0 G) s:=by unfold S13.isK; rw [if_pos (by omega)]
   rw [e]
   constructor
   ·rintro ⟨h1,h2⟩ x hx
    rcases List.mem_cons.1 hx with rfl | hx
    ·exact nul_of hV (e0_least hV).1 _ h1
    ·exact ih.1 h2 x hx
   ·exact fun h=>⟨of_nul hV (h s List.mem_cons_self),ih.2 fun x hx=>h x (List.mem_cons_of_mem _ hx)⟩
theorem fst_row (hV:validB G=true) {L:List Nat} (hL:L.length=G.sorts.length) {t:Nat} (ih:∀ s:Nat,(L.getD s 0).testBit t=true->∃ q:Int,(mG G n D).isP q/\(mG G n D).srt q=-1 - (s:Int)/\LR.Fst (mG G n D) ((mG G n D).rt q) t) :
  ∀ l:List Int,RowOk G.terms.length G.sorts.length l->(ofRow G.terms.length (E0 G) L l 0).testBit t=true->LR.Fst (mG G n D) l t
 | [],_,h=>by unfold S13.ofRow at h; simp at h
 | s :: l,hl,h=>by
  have ihl:=fst_row hV hL ih l fun x hx=>hl x (List.mem_cons_of_mem _ hx)
  have hs:=hl s List.mem_cons_self
  unfold S13.ofRow at h
  by_cases h0:0<=s
  ·rw [if_pos h0,if_pos (by omega),testBit_bitN] at h
   have e:=(of_decide_eq_true h).2.2
   rw [<-e]
   exact .head _ l (by omega)
  ·rw [if_neg h0,if_neg (by omega),Nat.testBit_or,Bool.or_eq_true] at h
   rcases h with h | h
   ·obtain ⟨q,h1,h2,h3⟩:=ih _ h
    rw [show s=(mG G n D).srt q by rw [h2]; omega]
    exact .sort q l t h1 h3
   ·split at h
    ·rename_i he
     exact .skip s l t (nul_of hV (e0_least hV).1 s (by unfold S13.isK; rw [if_pos (by omega)]; exact he)) (ihl h)
    ·simp at h
theorem fst_of (hV:validB G=true) {L:List Nat} (h:S13.ReachS (evF G.terms.length (E0 G) G.prods) (List.replicate G.sorts.length 0) L) {t:Nat} : ∀ s:Nat,(L.getD s 0).testBit t=true->∃ q:Int,(mG G n D).isP q/\(mG G n D).srt q=-1 - (s:Int)/\LR.Fst (mG G n D) ((mG G n D).rt q) t:=by
 induction h with
 | refl =>
  intro s hs
  rw [gdQ,List.getElem?_replicate] at hs
  split at hs <;> simp at hs
 | step hr hp ih =>
  rename_i L e
  intro s hs
  unfold S13.stepS at hs
  rw [gdQ,List.getElem?_set] at hs
  have hLl:L.length=G.sorts.length:=by rw [S13.reachS_length hr]; simp
  split at hs
  ·rename_i e1
   split at hs
   ·rw [Option.getD_some,Nat.testBit_or,Bool.or_eq_true] at hs
    rcases hs with hs | hs
    ·exact ih s (by rw [<-e1]; exact hs)
    ·obtain ⟨p,hp2,rfl⟩:=List.mem_map.1 hp
     obtain ⟨q,hq⟩:=List.mem_iff_getElem?.1 hp2
     have h0:=row_of hV hq
     have e1:p.sort.toNat=s:=e1
     refine ⟨(q:Int),isp_at hq,by rw [srt_at hq]; omega,?_⟩
     rw [rt_at hq]
     exact fst_row hV hLl ih p.rs h0.2.2 hs
   ·simp at hs
  ·exact ih s (by rw [gdQ]; exact hs)
theorem row_drop {l:List Int} (hl:RowOk G.terms.length G.sorts.length l) (k:Nat):RowOk G.terms.length G.sorts.length (l.drop k):=fun x hx=>hl x (List.mem_of_mem_drop hx)
theorem rt_ok (hV:validB G=true) (p:Int) (h1:-1<=p) (h2:p < (G.prods.length:Int)):RowOk G.terms.length G.sorts.length (rightX G p):=by
 unfold X14.rightX
 by_cases h:p=-1
 ·rw [if_pos h]
  intro s hs
  have:=S13.valid_start hV
  obtain rfl:s=-1 - G.start:=by simpa using hs
  right
  omega
 ·rw [if_neg h,gdQ,geQ (by omega)]
  exact (valid_rows hV _ (List.getElem_mem _)).2.2
theorem fst_bits (hV:validB G=true) {l:List Int} (hl:RowOk G.terms.length G.sorts.length l) {t:Nat} (h:(ofRow G.terms.length (E0 G) (F0 G) l 0).testBit t=true):LR.Fst (mG G n D) l t:=
 fst_row hV (f0_least hV).length (fst_of hV (f0_least hV).1) l hl h
theorem bits_fst (hV:validB G=true) {l:List Int} {t:Int} (h:LR.Fst (mG G n D) l t):RowOk G.terms.length G.sorts.length l->(ofRow G.terms.length (E0 G) (F0 G) l 0).testBit t.toNat=true/\0<=t/\t < (G.terms.length:Int):=by
 have hF:(F0 G).length=G.sorts.length:=(f0_least hV).length
 have h60:=(S13.valid_few hV).1
 induction h with
 | head t l h0 =>
  intro hl
  have hs:=hl t List.mem_cons_self
  unfold S13.ofRow
  rw [if_pos h0,if_pos (by omega),testBit_bitN]
  exact ⟨decide_eq_true ⟨h0,by omega,by omega⟩,by omega,by omega⟩
 | sort q l t hq hf ih =>
  intro hl
  obtain ⟨p,hp,hq'⟩:=isp_prod hq
  have h0:=row_of hV hp
  have ih:=ih (by rw [<-hq',rt_at hp]; exact h0.2.2)
  rw [<-hq',rt_at hp] at ih
  refine ⟨?_,ih.2⟩
  rw [<-hq',srt_at hp]
  unfold S13.ofRow
  rw [if_neg (by omega),if_neg (by omega),Nat.testBit_or,Bool.or_eq_true]
  left
  have hc:=(f0_least hV).2.1 (p.sort.toNat,fun L=>ofRow G.terms.length (E0 G) L p.rs 0) (List.mem_map.2 ⟨p,List.mem_of_getElem? hp,rfl⟩)
  rw [show (-1 - (-1 - p.sort)).toNat=p.sort.toNat by omega]
  exact sub_iff.1 hc _ ih.1
 | skip s l t hn hf ih =>
  intro hl
  have hs:=hl s List.mem_cons_self
  have ih:=ih fun x hx=>hl x (List.mem_cons_of_mem _ hx)
  have he:=of_nul hV hn
  have hs0:s < 0:=by
   unfold S13.isK at he
   split at he
   ·assumption
   ·cases he
  unfold S13.isK at he
  rw [if_pos hs0] at he
  refine ⟨?_,ih.2⟩
  unfold S13.ofRow
  rw [if_neg (by omega),if_neg (by omega),Nat.testBit_or,Bool.or_eq_true]
  right
  rw [if_pos he]
  exact ih.1
noncomputable def maskN (P:Nat->Prop):Nat->Nat
 | 0=>0
 | k + 1=>open Classical in maskN P k ||| (if P k then 2 ^ k else 0)
theorem mask_bit (P:Nat->Prop):∀ (k b:Nat),(maskN P k).testBit b=true ↔ (b < k/\P b)
 | 0,b=>by unfold maskN; simp
 | k + 1,b=>by
  unfold maskN
  rw [Nat.testBit_or,Bool.or_eq_true,mask_bit P k b]
  by_cases h:P k
  ·rw [if_pos h,Nat.testBit_two_pow,decide_eq_true_eq]
   constructor
   ·rintro (⟨h1,h2⟩ | rfl)
    ·exact ⟨by omega,h2⟩
    ·exact ⟨by omega,h⟩
   ·rintro ⟨h1,h2⟩
    by_cases e:k=b
    ·exact .inr e
    ·exact .inl ⟨by omega,h2⟩
  ·rw [if_neg h,Nat.zero_testBit]
   constructor
   ·rintro (⟨h1,h2⟩ | h1)
    ·exact ⟨by omega,h2⟩
    ·cases h1
   ·rintro ⟨h1,h2⟩
    by_cases e:k=b
    ·subst e; exact absurd h2 h
    ·exact .inl ⟨by omega,h2⟩
theorem beh_get {p:Int} {d:Nat} {s:Int} : behX G (p,(d:Int))=some s ↔ (-1<=p/\p < (G.prods.length:Int))/\(rightX G p)[d]?=some s:=by
 unfold X14.behX
 constructor
 ·intro h
  split at h
  ·rename_i ht
   obtain ⟨h1,h2,_,_⟩:=X14.there_iff.1 ht
   exact ⟨⟨h1,h2⟩,by simpa using h⟩
  ·cases h
 ·rintro ⟨⟨h1,h2⟩,h⟩
  have hl:=(List.getElem?_eq_some_iff.1 h).1
  rw [if_pos (X14.there_iff.2 ⟨h1,h2,by show (0:Int)<=(d:Int); omega,by show (d:Int)<=((rightX G p).length:Int); omega⟩)]
  simpa using h
theorem c_there {i:Nat} {p:Int} {d:Nat} (h:(mG G n D).C i p d):-1<=p/\p < (G.prods.length:Int)/\d<=(rightX G p).length:=by
 obtain ⟨h1,h2,_,h4⟩:=X14.there_iff.1 (mem_C.1 h.2).there
 exact ⟨h1,h2,by have h4:(d:Int)<=((rightX G p).length:Int):=h4; omega⟩
theorem c_beh {i:Nat} {p:Int} {d:Nat} {s:Int} (h:(mG G n D).C i p d) (hs:((mG G n D).rt p)[d]?=some s):behX G (p,(d:Int))=some s:=beh_get.2 ⟨⟨(c_there h).1,(c_there h).2.1⟩,hs⟩
theorem it_nat {i:Nat} {x:It} (h:x ∈ (cxB G n (E0 G) (F0 G)).C i):∃ d:Nat,x=(x.1,(d:Int)):=by
 have:=(X14.there_iff.1 (mem_C.1 h).there).2.2.1
 exact ⟨x.2.toNat,Prod.ext rfl (by show x.2=((x.2.toNat:Nat):Int); omega)⟩
end
end S16
end Go.Proofs.YticmnfmijdgmbaaGreatDoor
