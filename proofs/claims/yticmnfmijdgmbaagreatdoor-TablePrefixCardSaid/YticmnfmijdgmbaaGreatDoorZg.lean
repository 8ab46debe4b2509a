/- clashes: where there is more than one thing to do. -/
import Derived.Test.YticmnfmijdgmbaaGreatDoorZe
set_option linter.unusedVariables false
set_option linter.unusedSimpArgs false
namespace Go.Proofs.YticmnfmijdgmbaaGreatDoor
open Go Go.RowKit Go.Lib
open X14 (It)
open S13 (u64)
open S16
theorem info94:(Tryz.prog.info? 94).map (fun i=>(i.zero,i.size,i.bytes))=some (some (.agg #[.int .i64 0,.int .i64 0]),2,16):=by kernel_rfl
def clRow (cnt:Nat->Nat->Nat) (i:Nat):Nat->List It
 | 0=>[]
 | k + 1=>clRow cnt i k ++ (if 1 < cnt i k then [((i:Int),(k:Int))] else [])
def clX (cnt:Nat->Nat->Nat) (m:Nat):Nat->List It
 | 0=>[]
 | i + 1=>clX cnt m i ++ clRow cnt i m
theorem clRow_len (cnt:Nat->Nat->Nat) (i:Nat):∀ k,(clRow cnt i k).length<=k
 | 0=>Nat.le_refl _
 | k + 1=>by
  have:=clRow_len cnt i k
  unfold clRow
  rw [List.length_append]
  split <;> simp <;> omega
theorem clX_len (cnt:Nat->Nat->Nat) (m:Nat):∀ i,(clX cnt m i).length<=i * m
 | 0=>by simp [clX]
 | i + 1=>by
  have:=clX_len cnt m i
  have:=clRow_len cnt i m
  unfold clX
  rw [List.length_append,Nat.add_mul]
  omega
def ClashP (cnt:Nat->Nat->Nat) (n m:Nat) (w:World) (e:Ending) (w':World):Prop:=
 ∃ v,e=.returned v/\Below w.heap.size w w'/\ownsT w' w.heap.size 2 v (clX cnt m n).length (dC (clX cnt m n))
set_option maxRecDepth 100000 in
set_option maxHeartbeats 8000000 in
theorem clashes_any {v:Value} {w:World} {n m:Nat} {cnt:Nat->Nat->Nat} (h:RowsAt w v n (fun i u=>RowsAt w u m (fun k u'=>∃ o c,u'=.slice o (cnt i k) c))) (hn:n<=100000) (hm:m<=1000) :
  Calls Tryz.prog 79 #[v] w (ClashP cnt n m w):=by
 have HV:=hid h
 obtain ⟨vo,vc,rfl,_⟩:=h.len
 have HF:=hid (show Foot w.heap.size w w [queI w.heap.size 2 (.slice none 0 0) (([]:List It)).length (dC (([]:List It)))] from foot_newrow2 (Foot.empty w w.heap.size (Nat.le_refl _)))
 clear h
 go_enter Tryz.func79,Tryz.ntmps79
 go_wp2_with fail
 go_loopw [3,10] (fun t3 t10 wr=>∃ (i:Nat) (v:Value),i<=n/\v=t3/\t10=.int .i64 (i:Int)/\Hid (Foot w.heap.size w wr [queI w.heap.size 2 v (clX cnt m i).length (dC (clX cnt m i))])) (fun _ t10 _=>n - (RowKit.intOf t10).toNat)
 case atStart=>exact ⟨0,_,Nat.zero_le _,rfl,rfl,HF⟩
 case round =>
  clear HF
  obtain ⟨i,v,hiN,rfl,rfl,HF⟩:=hrel
  by_cases hlt:i < n
  ·have j1:(i:Int) < (n:Int):=by omega
   have j0:(0:Int)<=(i:Int):=by omega
   obtain ⟨b,off,u,rfl,u1,u2⟩:=HV.out.at_ hlt
   obtain ⟨uo,uc,rfl,_⟩:=u2.len
   have r0:=cell_below HF.out.bel u1
   have HU:=hid u2
   clear u1 u2
   go_wp2_with fail
   clear r0
   go_loopw [3,17] (fun t3 t17 wq=>∃ (k:Nat) (v:Value),k<=m/\v=t3/\t17=.int .i64 (k:Int)/\Hid (Foot w.heap.size w wq [queI w.heap.size 2 v (clX cnt m i ++ clRow cnt i k).length (dC (clX cnt m i ++ clRow cnt i k))])) (fun _ t17 _=>m - (RowKit.intOf t17).toNat)
   case atStart=>exact ⟨0,_,Nat.zero_le _,rfl,rfl,hid (by rw [show clRow cnt i 0=[] from rfl,List.append_nil]; exact HF.out)⟩
   case round =>
    clear HF
    obtain ⟨k,v2,hkM,rfl,rfl,HF⟩:=hrel
    by_cases hkl:k < m
    ·have k1:(k:Int) < (m:Int):=by omega
     have k0:(0:Int)<=(k:Int):=by omega
     obtain ⟨b2,off2,u',rfl,z1,o3,c3,rfl⟩:=HU.out.at_ hkl
     have r1:=cell_below HF.out.bel z1
     obtain ⟨cn,hcn⟩:=nmQ (cnt i k)
     rw [hcn] at r1
     have HC:=hid hcn
     clear z1 hcn
     by_cases hc:1 < cn
     ·have d0:(1:Int) < (cn:Int):=by omega
      have d1:decide ((1:Int) < (cn:Int))=true:=decide_eq_true d0
      have d2:decide (1 < cn)=true:=decide_eq_true hc
      have HS:=hid (show clRow cnt i (k + 1)=clRow cnt i k ++ [((i:Int),(k:Int))] from by show clRow cnt i k ++ _=_; rw [HC.out,if_pos hc])
      obtain ⟨vo2,vc2,rfl⟩:=(show ownsT wr w.heap.size 2 v2 _ _ from HF.out.ok 0 _ rfl).shape
      obtain ⟨wz,eq⟩:=nmQ (wr.alloc (.cells #[.int .i64 (i:Int),.int .i64 (k:Int)] 94))
      have nq:wz.heap[wr.heap.size]?=some (.cells #[.int .i64 (i:Int),.int .i64 (k:Int)] 94 (0,0)):=nbQ eq
      have HFq:=hid (HF.out.below (show Below wr.heap.size wr wz by exact baQ eq))
      have HCQ:=hid (show ∀ j u,[Value.int .i64 (i:Int),.int .i64 (k:Int)][j]?=some u->wz.cell? ⟨wr.heap.size,j,none⟩=some u from fun j u hi=>by
       rw [coQ nq,<-hi,<-List.getElem?_toArray])
      have HOQ:=hid (show ∀ q ∈ [Value.int .i64 (i:Int),.int .i64 (k:Int)],q.oneCell'=true from fun q hq=>one_two rfl rfl q hq)
      have HBq:=hid (show w.heap.size<=wz.heap.size from Nat.le_trans HFq.out.le HFq.out.bel.size)
      have hll:(clX cnt m i ++ clRow cnt i k).length<=1000000000000:=by
       have h1:=clX_len cnt m i
       have h2:=clRow_len cnt i k
       have h3:i * m<=100000 * 1000:=Nat.mul_le_mul (by omega) hm
       rw [List.length_append]
       omega
      have HLL:=hid hll
      have HOW:=hid (show ownsT wz w.heap.size 2 (.slice vo2 (clX cnt m i ++ clRow cnt i k).length vc2) _ _ from HFq.out.ok 0 _ rfl)
      obtain ⟨ll,hll2⟩:=nmQ ((clX cnt m i ++ clRow cnt i k).length)
      rw [hll2] at HOW HLL HFq ⊢
      have HL2:=hid hll2
      clear nq HF hll hll2
      go_wp2_with (refine wpList_push_T rfl (.tmp 25) (.tmp 29) 23 94 rfl (.agg #[.int .i64 0,.int .i64 0]) 2 16 Tryz.underlying23 info94 rfl (by decide) (.slice vo2 ll vc2) ll (dC (clX cnt m i ++ clRow cnt i k)) rfl HOW.out wr.heap.size rfl [.int .i64 (i:Int),.int .i64 (k:Int)] rfl HCQ.out HOQ.out HLL.out HBq.out ?_)
      intro ao2 c8 w8 hown hg8 hat
      have h8:=HFq.out.push_que 0 rfl hown hg8 hat
      have e8:ll + 1=(clX cnt m i ++ clRow cnt i (k + 1)).length:=by rw [HS.out,<-List.append_assoc,List.length_append,HL2.out]; rfl
      have e9:dC (clX cnt m i ++ clRow cnt i k) ++ [.int .i64 (i:Int),.int .i64 (k:Int)]=dC (clX cnt m i ++ clRow cnt i (k + 1)):=by rw [HS.out,<-List.append_assoc,dC_append (clX cnt m i ++ clRow cnt i k)]; rfl
      rw [e8,e9] at h8
      rw [e8]
      have HF8:=hid h8
      clear h8 hown hg8 hat e8 e9 eq r1
      go_wp2_with fail
      refine ⟨⟨k + 1,_,by omega,rfl,rfl,HF8⟩,?_⟩
      show m - ((k:Int) + 1).toNat < m - ((k:Int)).toNat
      omega
     ·have d0:¬ (1:Int) < (cn:Int):=by omega
      have d1:decide ((1:Int) < (cn:Int))=false:=decide_eq_false d0
      have d2:decide (1 < cn)=false:=decide_eq_false hc
      have HS:=hid (show clRow cnt i (k + 1)=clRow cnt i k from by show clRow cnt i k ++ _=_; rw [HC.out,if_neg hc,List.append_nil])
      have HF8:=hid (show Foot w.heap.size w wr [queI w.heap.size 2 v2 (clX cnt m i ++ clRow cnt i (k + 1)).length (dC (clX cnt m i ++ clRow cnt i (k + 1)))] from by rw [HS.out]; exact HF.out)
      clear HF
      go_wp2_with fail
      refine ⟨⟨k + 1,_,by omega,rfl,rfl,HF8⟩,?_⟩
      show m - ((k:Int) + 1).toNat < m - ((k:Int)).toNat
      omega
    ·have k1:¬ (k:Int) < (m:Int):=by omega
     obtain rfl:k=m:=by omega
     have HF8:Hid (Foot w.heap.size w wr [queI w.heap.size 2 v2 (clX cnt k (i + 1)).length (dC (clX cnt k (i + 1)))]):=HF
     clear HF
     go_wp2_with fail
     refine ⟨⟨i + 1,_,by omega,rfl,rfl,HF8⟩,?_⟩
     show n - ((i:Int) + 1).toNat < n - ((i:Int)).toNat
     omega
  ·have j1:¬ (i:Int) < (n:Int):=by omega
   obtain rfl:i=n:=by omega
   have HOW:=hid (show ownsT wr w.heap.size 2 _ _ _ from HF.out.ok 0 _ rfl)
   have HBE:=hid HF.out.bel
   clear HF
   go_wp2_with fail
   go_ret
   exact ⟨_,rfl,HBE.out,HOW.out⟩
open S13.X15 (Pl)
theorem pC_get:∀ (l:List (Int × Nat)) (i:Nat),i < l.length->(pC l)[i * 2]?=some (.int .i64 (l.getD i (0,0)).1)/\(pC l)[i * 2 + 1]?=some (u64 (l.getD i (0,0)).2)
 | [],i,h=>by simp at h
 | x :: l,0,_=>⟨rfl,rfl⟩
 | x :: l,i + 1,h=>by
  obtain ⟨h1,h2⟩:=pC_get l i (by simpa using h)
  have e:pC (x :: l)=.int .i64 x.1 :: u64 x.2 :: pC l:=rfl
  rw [e,show (i + 1) * 2=i * 2 + 1 + 1 from by omega,List.getElem?_cons_succ,List.getElem?_cons_succ,List.getElem?_cons_succ,List.getElem?_cons_succ]
  exact ⟨by simpa using h1,by simpa using h2⟩
theorem PassAt.of_own {w:World} {B:Nat} {v:Value} {l:List (Int × Nat)} (h:ownsT w B 2 v l.length (pC l)):PassAt w v l:=by
 obtain ⟨hl,⟨rfl,h0⟩ | ⟨g,off,cap,rfl,_,_,h1,h2,h3,_⟩⟩:=h
 ·exact ⟨none,0,by rw [h0],by omega,fun h=>absurd h (by omega)⟩
 ·refine ⟨_,_,rfl,by unfold maxLen at h2; omega,fun _=>⟨g,off,rfl,fun i hi=>?_⟩⟩
  obtain ⟨k0,k1⟩:=pC_get l i hi
  exact ⟨h3 _ _ k0,by rw [Nat.add_assoc]; exact h3 _ _ k1⟩
theorem RowsAt.of_own {w:World} {B:Nat} {v:Value} {xs:List Value} {p:Nat->Value->Prop} (h:ownsT w B 1 v xs.length xs) (hp:∀ i u,xs[i]?=some u->p i u):RowsAt w v xs.length p:=by
 obtain ⟨hl,⟨rfl,h0⟩ | ⟨g,off,cap,rfl,_,_,h1,h2,h3,_⟩⟩:=h
 ·exact ⟨none,0,by rw [h0],by omega,fun h=>absurd h (by omega)⟩
 ·refine ⟨_,_,rfl,by unfold maxLen at h2; omega,fun _=>⟨g,off,rfl,fun i hi=>⟨xs[i],h3 _ _ (geQ hi),hp _ _ (geQ hi)⟩⟩⟩
noncomputable def deedsS (G:GD) (nx:List (List Int)) (C:Nat->List It) (A:Pl->Nat) (i k:Nat):List It:=deedsX G nx (i:Int) k (passedX G (C i) ((C i).map fun x=>A (i,x)))
def ColsOk (D:Nat->List It) (R:List (Value × Nat × List Value)) (cs:List Value):Prop:=∀ k u,cs[k]?=some u->(u,(D k).length,dC (D k)) ∈ R
theorem ColsOk.nil (D:Nat->List It) (R:List (Value × Nat × List Value)):ColsOk D R []:=fun k u h=>by simp at h
theorem ColsOk.push {D:Nat->List It} {R:List (Value × Nat × List Value)} {cs:List Value} (h:ColsOk D R cs) (u:Value):ColsOk D (R ++ [(u,(D cs.length).length,dC (D cs.length))]) (cs ++ [u]):=fun k x hx=>by
 by_cases hk:k < cs.length
 ·rw [List.getElem?_append_left hk] at hx
  exact List.mem_append_left _ (h k x hx)
 ·have hl:=(List.getElem?_eq_some_iff.1 hx).1
  rw [List.length_append] at hl
  have hl:k < cs.length + 1:=hl
  obtain rfl:k=cs.length:=by omega
  rw [List.getElem?_append_right (Nat.le_refl _),Nat.sub_self] at hx
  obtain rfl:u=x:=by simpa using hx
  exact List.mem_append_right _ (List.mem_singleton.2 rfl)
theorem ColsOk.more {D:Nat->List It} {R R':List (Value × Nat × List Value)} {cs:List Value} (h:ColsOk D R cs):ColsOk D (R ++ R') cs:=fun k u hu=>List.mem_append_left _ (h k u hu)
def StatesOk (D:Nat->Nat->List It) (m:Nat) (R:List (Value × Nat × List Value)) (CV:List (Value × List Value)):Prop:=∀ i c,CV[i]?=some c->c.2.length=m/\ColsOk (D i) R c.2
theorem StatesOk.nil (D:Nat->Nat->List It) (m:Nat) (R:List (Value × Nat × List Value)):StatesOk D m R []:=fun i c h=>by simp at h
theorem StatesOk.more {D:Nat->Nat->List It} {m:Nat} {R R':List (Value × Nat × List Value)} {CV:List (Value × List Value)} (h:StatesOk D m R CV):StatesOk D m (R ++ R') CV:=fun i c hc=>⟨(h i c hc).1,(h i c hc).2.more⟩
theorem StatesOk.push {D:Nat->Nat->List It} {m:Nat} {R:List (Value × Nat × List Value)} {CV:List (Value × List Value)} (h:StatesOk D m R CV) {v:Value} {cs:List Value} (hl:cs.length=m) (hc:ColsOk (D CV.length) R cs):StatesOk D m R (CV ++ [(v,cs)]):=fun i c hx=>by
 by_cases hk:i < CV.length
 ·rw [List.getElem?_append_left hk] at hx
  exact h i c hx
 ·have hl2:=(List.getElem?_eq_some_iff.1 hx).1
  rw [List.length_append] at hl2
  have hl2:i < CV.length + 1:=hl2
  obtain rfl:i=CV.length:=by omega
  rw [List.getElem?_append_right (Nat.le_refl _),Nat.sub_self] at hx
  obtain rfl:(v,cs)=c:=by simpa using hx
  exact ⟨hl,hc⟩
end Go.Proofs.YticmnfmijdgmbaaGreatDoor
