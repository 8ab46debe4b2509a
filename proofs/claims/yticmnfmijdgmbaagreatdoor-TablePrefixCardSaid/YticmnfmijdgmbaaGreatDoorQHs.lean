/- Go. -/
import Derived.Test.YticmnfmijdgmbaaGreatDoorGa
import Derived.Test.YticmnfmijdgmbaaGreatDoorSx
set_option linter.unusedVariables false
set_option linter.unusedSimpArgs false
namespace Go.Proofs.YticmnfmijdgmbaaGreatDoor
open Go Go.RowKit Go.Lib
open X14 (It)
def placeX (G:GD) (s:Int):Option Nat:=if 0<=s then (if s < (G.terms.length:Int) then some s.toNat else none) else (if -1 - s < (G.sorts.length:Int) then some (G.terms.length + (-1 - s).toNat) else none)
def goX (G:GD) (nx:List (List Int)) (at_ s:Int):Int:=if 0<=at_/\at_ < (nx.length:Int) then (match placeX G s with
 | none=>-1
 | some p=>(nx.getD at_.toNat []).getD p (-1)) else -1
def NxOk (G:GD) (nx:List (List Int)):Prop:=∀ R ∈ nx,R.length=G.terms.length + G.sorts.length/\∀ v ∈ R,v=-1\/(0<=v/\v < (nx.length:Int))
theorem NxOk.nil (G:GD):NxOk G []:=fun R h=>by cases h
theorem NxOk.built {G:GD} {n:Nat} (h:X14.BuiltOk G n):NxOk G (X14.iterB G n).nx:=fun R hR=>by
 obtain ⟨i,hi⟩:=List.mem_iff_getElem?.1 hR
 obtain ⟨hI,ha,hl⟩:=h.inv
 have hrl:=hI.rl i R hi
 rw [X14.symsX_len] at hrl
 refine ⟨hrl,fun v hv=>?_⟩
 obtain ⟨k,hk⟩:=List.mem_iff_getElem?.1 hv
 have hil:=(List.getElem?_eq_some_iff.1 hi).1
 have hkl:=(List.getElem?_eq_some_iff.1 hk).1
 have hnl:=(X14.iterB_at G n).2
 obtain ⟨s,hs⟩:∃ s,(X14.symsX G)[k]?=some s:=⟨_,geQ (by rw [X14.symsX_len]; omega)⟩
 rcases hI.to_ (by rw [ha]; omega) hs hi hk with ⟨e,_⟩ | ⟨q,e,_,hq,_⟩
 ·exact .inl e
 ·exact .inr ⟨by omega,by omega⟩
theorem goX_off {G:GD} {nx:List (List Int)} {at_ s:Int} (h:¬ (0<=at_/\at_ < (nx.length:Int))):goX G nx at_ s=-1:=by unfold goX; rw [if_neg h]
theorem goX_none {G:GD} {nx:List (List Int)} {at_ s:Int} (h:placeX G s=none):goX G nx at_ s=-1:=by
 unfold goX
 split
 ·rw [h]
 ·rfl
theorem goX_at {G:GD} {nx:List (List Int)} {i p:Nat} {s v:Int} {R:List Int} (h:placeX G s=some p) (hi:nx[i]?=some R) (hp:R[p]?=some v):goX G nx (i:Int) s=v:=by
 have hl:=(List.getElem?_eq_some_iff.1 hi).1
 unfold goX
 rw [if_pos ⟨Int.natCast_nonneg _,by omega⟩,h]
 show (nx.getD i []).getD p (-1)=v
 rw [X14.getD_get hi,X14.getD_get hp]
set_option maxRecDepth 100000 in
set_option maxHeartbeats 8000000 in
theorem Go_any {G:GD} {gv av:Value} {w:World} {ker:List (List It)} {nx:List (List Int)} (h:Gram w gv G) (ha:AutAt w av ker nx) (hok:NxOk G nx) (at_ s:Int) (s0:-9223372036854775808<=s) (s1:s<=9223372036854775807) :
  Calls Tryz.prog 27 #[gv,av,.int .i64 at_,.int .i64 s] w fun e w'=>e=.returned (.int .i64 (goX G nx at_ s))/\Below w.heap.size w w':=by
 obtain ⟨tv,ov,sv,pv,tf,rv,h⟩:=h
 have hgv:=h.eq
 subst hgv
 obtain ⟨to_,tc,rfl,htn,_⟩:=h.terms
 obtain ⟨so,sc,rfl,hsn,_⟩:=h.sorts
 obtain ⟨kv,nv,rfl,hkv,hnv⟩:=ha
 obtain ⟨no,nc,rfl,hnn⟩:=hnv.len
 obtain ⟨W1,e1⟩:=nmQ (w.alloc (.cells #[.slice to_ G.terms.length tc,ov,.slice so G.sorts.length sc,pv,.int .i64 G.start] 27))
 have hb1:Below w.heap.size w W1:=baQ e1
 have n1:W1.heap[w.heap.size]?=some (.cells #[.slice to_ G.terms.length tc,ov,.slice so G.sorts.length sc,pv,.int .i64 G.start] 27 (0,0)):=nbQ e1
 obtain ⟨W2,e2⟩:=nmQ (W1.alloc (.cells #[kv,.slice no nx.length nc] 55))
 have hb2:Below W1.heap.size W1 W2:=baQ e2
 have n2:W2.heap[W1.heap.size]?=some (.cells #[kv,.slice no nx.length nc] 55 (0,0)):=nbQ e2
 have hbw:=hb1.trans (hb2.mono hb1.size)
 have n1':=(hb2.block _ (ltQ n1)).trans n1
 have lW:=(ltQ n2)
 have c0:W2.cell? ⟨w.heap.size,0,none⟩=some (.slice to_ G.terms.length tc):=coQ n1' 0
 have c2:W2.cell? ⟨w.heap.size,2,none⟩=some (.slice so G.sorts.length sc):=coQ n1' 2
 have d1:W2.cell? ⟨W1.heap.size,1,none⟩=some (.slice no nx.length nc):=coQ n2 1
 have HBW:=hid hbw
 have HNV:=hid (hnv.below (q:=fun i u=>IntsAt W2 u (nx.getD i [])) hbw fun i u hu=>hu.mono hbw)
 have HOK:=hid hok
 obtain ⟨r,hr⟩:=nmQ (goX G nx at_ s)
 have HR:=hid hr
 rw [hr]
 obtain ⟨nt,hnt⟩:=nmQ (G.terms.length)
 obtain ⟨ns,hns⟩:=nmQ (G.sorts.length)
 obtain ⟨n,hn⟩:=nmQ (nx.length)
 have HN:=hid hn
 have HLEN:=hid (show ∀ R ∈ nx,R.length=nt + ns/\∀ v ∈ R,v=-1\/(0<=v/\v < (n:Int)) from by rw [<-hnt,<-hns,<-hn]; exact hok)
 have hPX:placeX G s=if 0<=s then (if s < (nt:Int) then some s.toNat else none) else (if -1 - s < (ns:Int) then some (nt + (-1 - s).toNat) else none):=by unfold placeX; rw [hnt,hns]
 have HPX:=hid hPX
 rw [hnt,hns] at e1 ⊢
 rw [hn] at e2 d1 ⊢
 rw [hnt] at c0
 rw [hns] at c2
 clear h hkv hnv hok hb1 hb2 n1 n2 n1' hbw hr hnt hns hn hPX
 by_cases hat:0<=at_/\at_ < (n:Int)
 case neg =>
  obtain rfl:-1=r:=by rw [<-HR.out,goX_off (by rw [HN.out]; exact hat)]
  by_cases ha0:at_ < 0
  ·have z0:decide (at_ < 0)=true:=decide_eq_true ha0
   clear hat
   go_enter Tryz.func27,Tryz.ntmps27
   go_wp2_with fail
   go_ret
   exact ⟨rfl,HBW.out⟩
  ·have z0:decide (at_ < 0)=false:=decide_eq_false ha0
   have z1:(n:Int)<=at_:=by omega
   clear hat
   go_enter Tryz.func27,Tryz.ntmps27
   go_wp2_with fail
   go_ret
   exact ⟨rfl,HBW.out⟩
 obtain ⟨i,rfl⟩:∃ i:Nat,at_=(i:Int):=⟨at_.toNat,by omega⟩
 have hin:i < n:=by omega
 have z0:decide ((i:Int) < 0)=false:=decide_eq_false (by omega)
 have z1:decide (n<=i)=false:=decide_eq_false (by omega)
 have z2:¬ (n:Int)<=(i:Int):=by omega
 have i0:(0:Int)<=(i:Int):=by omega
 have i1:(i:Int) < (n:Int):=by omega
 clear hat
 obtain ⟨R,hRx⟩:∃ R,nx[i]?=some R:=⟨_,geQ (by rw [HN.out]; exact hin)⟩
 have HRX:=hid hRx
 obtain ⟨hRl,hRv⟩:=HLEN.out R (List.mem_of_getElem? hRx)
 have hnv2:=HNV.out
 obtain ⟨nb,noff,u,rfl,u1,u2⟩:=hnv2.at_ (k:=i) (by rw [HN.out]; exact hin)
 rw [X14.getD_get hRx] at u2
 obtain ⟨⟨ro,rc,rfl,hrn,hrq⟩,_⟩:=u2
 clear hnv2 hRx
 by_cases hs:s < 0
 ·have y0:decide (s < 0)=true:=decide_eq_true hs
  have hws:IntKind.i64.wrap (-1 - s)=-1 - s:=wrap_small (by omega) (by omega)
  by_cases hq:-1 - s < (ns:Int)
  ·obtain ⟨t,hst⟩:∃ t:Nat,-1 - s=(t:Int):=⟨(-1 - s).toNat,by omega⟩
   have y1:¬ (ns:Int)<=(t:Int):=by omega
   have y2:decide (ns<=t)=false:=decide_eq_false (by omega)
   have HPL:=hid (show placeX G s=some (t + nt) from by rw [HPX.out,if_neg (by omega),if_pos hq,hst,Int.toNat_natCast,Nat.add_comm])
   have hpl:t + nt < nt + ns:=by omega
   rw [hst] at hws
   obtain ⟨v,hv⟩:∃ v,R[t + nt]?=some v:=⟨_,geQ (by omega)⟩
   obtain rfl:v=r:=by rw [<-HR.out,goX_at HPL.out HRX.out hv]
   have hvv:=hRv v (List.mem_of_getElem? hv)
   have hvl:=(List.getElem?_eq_some_iff.1 hv).1
   obtain ⟨rb,roff,rfl,hrq2⟩:=hrq (by omega)
   have u3:=hrq2 (t + nt) hvl
   dsimp only at u3
   rw [X14.getD_get hv] at u3
   have k1:¬ (R.length:Int)<=((t:Int) + (nt:Int)):=by omega
   have k2:decide ((R.length:Int)<=((t:Int) + (nt:Int)))=false:=decide_eq_false k1
   have k3:((t:Int) + (nt:Int)) < (R.length:Int):=by omega
   have k4:(0:Int)<=((t:Int) + (nt:Int)):=by omega
   have k6:(((t:Int) + (nt:Int))).toNat=t + nt:=by omega
   have k5:decide (R.length<=t + nt)=false:=decide_eq_false (by omega)
   have HQ0:Hid (∀ w',Below W2.heap.size W2 w'->w'.cell? ⟨rb,roff + (t + nt),none⟩=some (.int .i64 v)):=hid fun w' hC=>cell_below hC u3
   have HQ1:Hid (∀ w',Below W2.heap.size W2 w'->w'.cell? ⟨W1.heap.size,1,none⟩=some (.slice (some ⟨nb,noff,none⟩) n nc)):=hid fun w' hC=>cell_below hC d1
   have hrl60:nt + ns<=9223372036854775807:=by omega
   clear hrq hrq2 hRv hv hRl
   clear hq
   rcases hvv with rfl | ⟨v0,v1⟩
   ·go_enter Tryz.func27,Tryz.ntmps27
    go_wp2_with fail
    refine wp_region_below (by kernel_rfl) (by kernel_rfl) ?_
    iterate 21
     first
     | with_reducible refine BigFrame.wpQuiet_skip (by with_unfolding_all rfl) ?_
     | with_reducible refine BigFrame.wpQuiet_want (by kernel_rfl) (fun K hK=>?_)
       apply Exists.intro
       refine ⟨fun w' hC=>?_,hK _ ?_⟩
       ·have f0':=HQ0.out w' hC
        have f1':=HQ1.out w' hC
        unfold Oper.quietAt
        go_simp
        first | with_reducible rfl | done
       clear hK K
     try simp only [Act.put,sjA,sj0,sjS]
    refine wpQuiet_nil ?_
    intro w6 hb6
    have HB6:=hid (HBW.out.trans (hb6.mono HBW.out.size))
    clear hb6
    go_wp2_with fail
    go_ret
    exact ⟨rfl,HB6.out⟩
   ·obtain ⟨vn,rfl⟩:∃ vn:Nat,v=(vn:Int):=⟨v.toNat,by omega⟩
    have x0:decide ((vn:Int) < 0)=false:=decide_eq_false (by omega)
    have x1:decide (n<=vn)=false:=decide_eq_false (by omega)
    have x2:¬ (n:Int)<=(vn:Int):=by omega
    go_enter Tryz.func27,Tryz.ntmps27
    go_wp2_with fail
    refine wp_region_below (by kernel_rfl) (by kernel_rfl) ?_
    iterate 21
     with_reducible refine BigFrame.wpQuiet_want (by kernel_rfl) (fun K hK=>?_)
     apply Exists.intro
     refine ⟨fun w' hC=>?_,hK _ ?_⟩
     ·have f0':=HQ0.out w' hC
      have f1':=HQ1.out w' hC
      unfold Oper.quietAt
      go_simp
      first | with_reducible rfl | done
     clear hK K
     try simp only [Act.put,sjA,sj0,sjS]
    refine wpQuiet_nil ?_
    intro w6 hb6
    have HB6:=hid (HBW.out.trans (hb6.mono HBW.out.size))
    have u3:=HQ0.out w6 hb6
    clear hb6
    go_wp2_with fail
    go_ret
    exact ⟨rfl,HB6.out⟩
  ·have hq2:(ns:Int)<=-1 - s:=by omega
   obtain ⟨t,hst⟩:∃ t:Nat,-1 - s=(t:Int):=⟨(-1 - s).toNat,by omega⟩
   have y1:(ns:Int)<=(t:Int):=by omega
   obtain rfl:-1=r:=by rw [<-HR.out,goX_none (by rw [HPX.out,if_neg (by omega),if_neg hq])]
   rw [hst] at hws
   clear hq hq2
   go_enter Tryz.func27,Tryz.ntmps27
   go_wp2_with fail
   go_ret
   exact ⟨rfl,HBW.out⟩
 ·have y0:decide (s < 0)=false:=decide_eq_false hs
  obtain ⟨t,rfl⟩:∃ t:Nat,s=(t:Int):=⟨s.toNat,by omega⟩
  by_cases hq:t < nt
  ·have y1:¬ (nt:Int)<=(t:Int):=by omega
   have y2:decide (nt<=t)=false:=decide_eq_false (by omega)
   have HPL:=hid (show placeX G (t:Int)=some t from by rw [HPX.out,if_pos (by omega),if_pos (by omega),Int.toNat_natCast])
   have hpl:t < nt + ns:=by omega
   obtain ⟨v,hv⟩:∃ v,R[t]?=some v:=⟨_,geQ (by omega)⟩
   obtain rfl:v=r:=by rw [<-HR.out,goX_at HPL.out HRX.out hv]
   have hvv:=hRv v (List.mem_of_getElem? hv)
   have hvl:=(List.getElem?_eq_some_iff.1 hv).1
   obtain ⟨rb,roff,rfl,hrq2⟩:=hrq (by omega)
   have u3:=hrq2 (t) hvl
   dsimp only at u3
   rw [X14.getD_get hv] at u3
   have k1:¬ (R.length:Int)<=(t:Int):=by omega
   have k2:decide ((R.length:Int)<=(t:Int))=false:=decide_eq_false k1
   have k3:(t:Int) < (R.length:Int):=by omega
   have k4:(0:Int)<=(t:Int):=by omega
   have k6:((t:Int)).toNat=t:=by omega
   have k5:decide (R.length<=t)=false:=decide_eq_false (by omega)
   have HQ0:Hid (∀ w',Below W2.heap.size W2 w'->w'.cell? ⟨rb,roff + (t),none⟩=some (.int .i64 v)):=hid fun w' hC=>cell_below hC u3
   have HQ1:Hid (∀ w',Below W2.heap.size W2 w'->w'.cell? ⟨W1.heap.size,1,none⟩=some (.slice (some ⟨nb,noff,none⟩) n nc)):=hid fun w' hC=>cell_below hC d1
   have hrl60:nt + ns<=9223372036854775807:=by omega
   clear hrq hrq2 hRv hv hRl
   clear hq
   rcases hvv with rfl | ⟨v0,v1⟩
   ·go_enter Tryz.func27,Tryz.ntmps27
    go_wp2_with fail
    refine wp_region_below (by kernel_rfl) (by kernel_rfl) ?_
    iterate 21
     first
     | with_reducible refine BigFrame.wpQuiet_skip (by with_unfolding_all rfl) ?_
     | with_reducible refine BigFrame.wpQuiet_want (by kernel_rfl) (fun K hK=>?_)
       apply Exists.intro
       refine ⟨fun w' hC=>?_,hK _ ?_⟩
       ·have f0':=HQ0.out w' hC
        have f1':=HQ1.out w' hC
        unfold Oper.quietAt
        go_simp
        first | with_reducible rfl | done
       clear hK K
     try simp only [Act.put,sjA,sj0,sjS]
    refine wpQuiet_nil ?_
    intro w6 hb6
    have HB6:=hid (HBW.out.trans (hb6.mono HBW.out.size))
    clear hb6
    go_wp2_with fail
    go_ret
    exact ⟨rfl,HB6.out⟩
   ·obtain ⟨vn,rfl⟩:∃ vn:Nat,v=(vn:Int):=⟨v.toNat,by omega⟩
    have x0:decide ((vn:Int) < 0)=false:=decide_eq_false (by omega)
    have x1:decide (n<=vn)=false:=decide_eq_false (by omega)
    have x2:¬ (n:Int)<=(vn:Int):=by omega
    go_enter Tryz.func27,Tryz.ntmps27
    go_wp2_with fail
    refine wp_region_below (by kernel_rfl) (by kernel_rfl) ?_
    iterate 21
     with_reducible refine BigFrame.wpQuiet_want (by kernel_rfl) (fun K hK=>?_)
     apply Exists.intro
     refine ⟨fun w' hC=>?_,hK _ ?_⟩
     ·have f0':=HQ0.out w' hC
      have f1':=HQ1.out w' hC
      unfold Oper.quietAt
      go_simp
      first | with_reducible rfl | done
     clear hK K
     try simp only [Act.put,sjA,sj0,sjS]
    refine wpQuiet_nil ?_
    intro w6 hb6
    have HB6:=hid (HBW.out.trans (hb6.mono HBW.out.size))
    have u3:=HQ0.out w6 hb6
    clear hb6
    go_wp2_with fail
    go_ret
    exact ⟨rfl,HB6.out⟩
  ·have y1:(nt:Int)<=(t:Int):=by omega
   obtain rfl:-1=r:=by rw [<-HR.out,goX_none (by rw [HPX.out,if_pos (by omega),if_neg (by omega)])]
   clear hq
   go_enter Tryz.func27,Tryz.ntmps27
   go_wp2_with fail
   go_ret
   exact ⟨rfl,HBW.out⟩
end Go.Proofs.YticmnfmijdgmbaaGreatDoor

namespace Go.Proofs.YticmnfmijdgmbaaGreatDoor.S13
def bitN (n:Int):Nat:=if 0<=n/\n < 64 then 2 ^ n.toNat else 0
def lessN (a b:Nat):Nat:=a ^^^ (a &&& b)
theorem bitN_lt (n:Int):bitN n < 18446744073709551616:=by
 unfold bitN
 split
 ·rename_i h
  exact Nat.pow_lt_pow_right (by omega) (by omega:n.toNat < 64)
 ·omega
theorem testBit_bitN (n:Int) (i:Nat):(bitN n).testBit i=decide (0<=n/\n < 64/\(i:Int)=n):=by
 unfold bitN
 split
 ·rename_i h
  rw [Nat.testBit_two_pow]
  by_cases e:n.toNat=i
  ·have:(i:Int)=n:=by omega
   simp [e,this,h.1,h.2]
  ·have:¬ (i:Int)=n:=by omega
   simp [e,this]
 ·rename_i h
  simp
  omega
theorem testBit_lessN (a b i:Nat):(lessN a b).testBit i=(a.testBit i && !b.testBit i):=by
 simp [lessN,Nat.testBit_xor,Nat.testBit_and]
 cases a.testBit i <;> cases b.testBit i <;> rfl
theorem lessN_lt {a:Nat} (h:a < 18446744073709551616) (b:Nat):lessN a b < 18446744073709551616:=
 Nat.xor_lt_two_pow (n:=64) h (Nat.lt_of_le_of_lt Nat.and_le_left h)
theorem or_lt {a b:Nat} (ha:a < 18446744073709551616) (hb:b < 18446744073709551616):a ||| b < 18446744073709551616:=
 Nat.or_lt_two_pow (n:=64) ha hb
theorem testBit_hi {a i:Nat} (ha:a < 18446744073709551616) (hi:64<=i):a.testBit i=false:=
 Nat.testBit_lt_two_pow (Nat.lt_of_lt_of_le (show a < 2 ^ 64 from ha) (Nat.pow_le_pow_right (by omega) hi))
theorem set_ext {a b:Nat} (ha:a < 18446744073709551616) (hb:b < 18446744073709551616) (h:∀ i,i < 64->a.testBit i=b.testBit i):a=b:=
 Nat.eq_of_testBit_eq fun i=>by
  by_cases hi:i < 64
  ·exact h i hi
  ·rw [testBit_hi ha (by omega),testBit_hi hb (by omega)]
theorem and_bitN_ne (a:Nat) (n:Int):(a &&& bitN n ≠ 0) ↔ (0<=n/\n < 64/\a.testBit n.toNat=true):=by
 constructor
 ·intro h
  have:∃ i,(a &&& bitN n).testBit i=true:=Classical.byContradiction fun hn=>h (Nat.eq_of_testBit_eq fun i=>by
   rw [Nat.zero_testBit]; cases e:(a &&& bitN n).testBit i
   ·rfl
   ·exact absurd ⟨i,e⟩ hn)
  obtain ⟨i,hi⟩:=this
  rw [Nat.testBit_and,testBit_bitN] at hi
  simp at hi
  obtain ⟨h1,h2,h3,h4⟩:=hi
  refine ⟨h2,h3,?_⟩
  rw [show n.toNat=i by omega]; exact h1
 ·rintro ⟨h1,h2,h3⟩ h
  have:(a &&& bitN n).testBit n.toNat=true:=by
   rw [Nat.testBit_and,testBit_bitN,h3]; simp; omega
  rw [h] at this; simp at this
theorem lessN_zero_iff {a b:Nat} (ha:a < 18446744073709551616):lessN a b=0 ↔ ∀ i,i < 64->a.testBit i=true->b.testBit i=true:=by
 constructor
 ·intro h i _ hi
  have:=testBit_lessN a b i
  rw [h,hi] at this
  simpa using this.symm
 ·intro h
  refine set_ext (lessN_lt ha b) (by omega) fun i hi=>?_
  rw [testBit_lessN]
  have:=h i hi
  cases e:a.testBit i <;> simp_all
abbrev Ev:=Nat × (List Nat->Nat)
abbrev top:Nat:=18446744073709551616
abbrev Sub (a b:Nat):Prop:=a ||| b=b
theorem sub_iff {a b:Nat} : Sub a b ↔ ∀ i,a.testBit i=true->b.testBit i=true:=by
 constructor
 ·intro h i hi
  have:=congrArg (fun n=>n.testBit i) h
  simp only [Nat.testBit_or,hi,Bool.true_or] at this
  exact this.symm
 ·intro h
  refine Nat.eq_of_testBit_eq fun i=>?_
  rw [Nat.testBit_or]
  have:=h i
  cases e:a.testBit i <;> cases e2:b.testBit i <;> simp_all
theorem sub_refl (a:Nat):Sub a a:=Nat.or_self a
theorem sub_trans {a b c:Nat} (h:Sub a b) (k:Sub b c):Sub a c:=sub_iff.2 fun i hi=>sub_iff.1 k i (sub_iff.1 h i hi)
theorem sub_or_left (a b:Nat):Sub a (a ||| b):=sub_iff.2 fun i hi=>by rw [Nat.testBit_or,hi]; rfl
theorem sub_or_right (a b:Nat):Sub b (a ||| b):=sub_iff.2 fun i hi=>by rw [Nat.testBit_or,hi]; simp
theorem or_sub {a b c:Nat} (h:Sub a c) (k:Sub b c):Sub (a ||| b) c:=sub_iff.2 fun i hi=>by
 rw [Nat.testBit_or,Bool.or_eq_true] at hi
 exact hi.elim (sub_iff.1 h i) (sub_iff.1 k i)
theorem zero_sub (a:Nat):Sub 0 a:=Nat.zero_or a
theorem sub_antisymm {a b:Nat} (h:Sub a b) (k:Sub b a):a=b:=by
 have h1:a ||| b=b:=h
 have h2:b ||| a=a:=k
 rw [<-h1,Nat.or_comm,h2]
theorem sub_le {a b:Nat} (h:Sub a b):a<=b:=by
 have h1:a ||| b=b:=h
 rw [<-h1]; exact Nat.left_le_or
def stepS (L:List Nat) (e:Ev):List Nat:=L.set e.1 (L.getD e.1 0 ||| e.2 L)
inductive ReachS (evs:List Ev) (L0:List Nat):List Nat->Prop where
 | refl:ReachS evs L0 L0
 | step {L:List Nat} {e:Ev} : ReachS evs L0 L->e ∈ evs->ReachS evs L0 (stepS L e)
def ClosedS (evs:List Ev) (L:List Nat):Prop:=∀ e ∈ evs,Sub (e.2 L) (L.getD e.1 0)
def SetEv (e:Ev):Prop:=∀ L:List Nat,(∀ x ∈ L,x < top)->e.2 L < top
theorem stepS_length (L:List Nat) (e:Ev):(stepS L e).length=L.length:=by simp [stepS]
theorem getD_lt {L:List Nat} (h:∀ x ∈ L,x < top) (i:Nat):L.getD i 0 < top:=by
 rw [gdQ]
 cases e:L[i]? with
 | none=>decide
 | some x=>exact h x (List.mem_of_getElem? e)
theorem set_lt {L:List Nat} (h:∀ x ∈ L,x < top) (i:Nat) {v:Nat} (hv:v < top):∀ x ∈ L.set i v,x < top:=by
 intro x hx
 rcases List.mem_or_eq_of_mem_set hx with h1 | h1
 ·exact h x h1
 ·rw [h1]; exact hv
theorem setS_same {L:List Nat} {i:Nat} : L.set i (L.getD i 0)=L:=by
 refine List.ext_getElem (by simp) fun j h1 h2=>?_
 rw [List.getElem_set]
 split
 ·rename_i e; subst e; rw [gdQ,geQ h2]; rfl
 ·rfl
def room (L:List Nat):Nat:=(L.map fun a=>top - a).sum
theorem room_set:∀ (L:List Nat) (i v:Nat),i < L.length->L.getD i 0 < v->v < top->room (L.set i v) < room L
 | [],i,v,h,_,_=>by simp at h
 | b :: L,0,v,_,h,hv=>by
  have h':b < v:=by simpa using h
  simp only [room,List.set_cons_zero,List.map_cons,List.sum_cons]
  omega
 | b :: L,i + 1,v,h,h2,hv=>by
  have ih:=room_set L i v (by simpa using h) (by simpa using h2) hv
  simp only [room,List.set_cons_succ,List.map_cons,List.sum_cons] at ih ⊢
  omega
theorem stepS_cases (L:List Nat) (e:Ev) (h:e.1 < L.length) (hL:∀ x ∈ L,x < top) (he:e.2 L < top) :
  (L.getD e.1 0 ||| e.2 L)=L.getD e.1 0/\stepS L e=L/\Sub (e.2 L) (L.getD e.1 0)\/(L.getD e.1 0 ||| e.2 L) ≠ L.getD e.1 0/\room (stepS L e) < room L:=by
 unfold stepS
 by_cases hx:(L.getD e.1 0 ||| e.2 L)=L.getD e.1 0
 ·left
  refine ⟨hx,by rw [hx]; exact setS_same,?_⟩
  show e.2 L ||| L.getD e.1 0=L.getD e.1 0
  rw [Nat.or_comm]; exact hx
 ·right
  have h1:=sub_le (sub_or_left (L.getD e.1 0) (e.2 L))
  exact ⟨hx,room_set L _ _ h (by omega) (or_lt (getD_lt hL _) he)⟩
def PassedS (evs done:List Ev) (L0 L:List Nat) (c:Bool):Prop:=
 ReachS evs L0 L/\L.length=L0.length/\(∀ x ∈ L,x < top)/\(c=false->L=L0/\ClosedS done L0)/\(c=true->room L < room L0)/\room L<=room L0
theorem passedS_nil (evs:List Ev) {L0:List Nat} (h:∀ x ∈ L0,x < top):PassedS evs [] L0 L0 false:=
 ⟨.refl,rfl,h,fun _=>⟨rfl,fun e he=>absurd he (by simp)⟩,fun h=>(by cases h),Nat.le_refl _⟩
theorem passedS_step {evs done:List Ev} {L0 L:List Nat} {c:Bool} (h:PassedS evs done L0 L c) {e:Ev} (he:e ∈ evs) (hs:e.1 < L0.length) (hv:e.2 L < top) :
  PassedS evs (done ++ [e]) L0 (stepS L e) (c || (L.getD e.1 0 ||| e.2 L) != L.getD e.1 0):=by
 obtain ⟨hr,hl,hL,hf,ht,hm⟩:=h
 have hLs:∀ x ∈ stepS L e,x < top:=set_lt hL _ (or_lt (getD_lt hL _) hv)
 rcases stepS_cases L e (by omega) hL hv with ⟨e1,e2,e3⟩ | ⟨e1,e2⟩
 ·rw [e1,e2,bne_self_eq_false,Bool.or_false]
  refine ⟨hr,hl,hL,fun hc=>?_,ht,hm⟩
  obtain ⟨rfl,hi⟩:=hf hc
  refine ⟨rfl,fun x hx=>?_⟩
  rcases List.mem_append.1 hx with h1 | h1
  ·exact hi x h1
  ·simp only [List.mem_singleton] at h1
   subst h1
   exact e3
 ·rw [bne_iff_ne.2 e1,Bool.or_true]
  exact ⟨.step hr he,by rw [stepS_length]; exact hl,hLs,fun h=>(by cases h),fun _=>by omega,by omega⟩
theorem passedS_closed {evs:List Ev} {L0 L:List Nat} (h:PassedS evs evs L0 L false):L=L0/\ClosedS evs L:=by
 obtain ⟨rfl,h2⟩:=h.2.2.2.1 rfl
 exact ⟨rfl,h2⟩
theorem reachS_trans {evs:List Ev} {a b c:List Nat} (h1:ReachS evs a b) (h2:ReachS evs b c):ReachS evs a c:=by
 induction h2 with
 | refl=>exact h1
 | step _ hp ih=>exact .step ih hp
theorem reachS_length {evs:List Ev} {a b:List Nat} (h:ReachS evs a b):b.length=a.length:=by
 induction h with
 | refl=>rfl
 | step _ _ ih=>rw [stepS_length,ih]
def LeS (a b:List Nat):Prop:=∀ i,Sub (a.getD i 0) (b.getD i 0)
def MonoEv (e:Ev):Prop:=∀ a b,LeS a b->Sub (e.2 a) (e.2 b)
theorem reachS_least {evs:List Ev} {a b M:List Nat} (h:ReachS evs a b) (ha:LeS a M) (hm:∀ e ∈ evs,MonoEv e) (hM:ClosedS evs M):LeS b M:=by
 induction h with
 | refl=>exact ha
 | step _ hp ih =>
  rename_i L e _
  intro i
  unfold stepS
  rw [gdQ,List.getElem?_set]
  split
  ·rename_i e'
   subst e'
   split
   ·exact or_sub (ih _) (sub_trans (hm _ hp _ _ ih) (hM _ hp))
   ·exact zero_sub _
  ·rw [<-gdQ]; exact ih i
def LeastS (evs:List Ev) (n:Nat) (L:List Nat):Prop:=ReachS evs (List.replicate n 0) L/\ClosedS evs L/\∀ x ∈ L,x < top
theorem LeastS.length {evs:List Ev} {n:Nat} {L:List Nat} (h:LeastS evs n L):L.length=n:=by
 rw [reachS_length h.1]; simp
theorem none_leS (n:Nat) (M:List Nat):LeS (List.replicate n 0) M:=by
 intro i
 rw [gdQ,List.getElem?_replicate]
 split <;> exact zero_sub _
theorem LeastS.le {evs:List Ev} {n:Nat} {L M:List Nat} (h:LeastS evs n L) (hm:∀ e ∈ evs,MonoEv e) (hM:ClosedS evs M):LeS L M:=reachS_least h.1 (none_leS n M) hm hM
theorem LeastS.same {evs:List Ev} {n:Nat} {L M:List Nat} (h:LeastS evs n L) (h2:LeastS evs n M) (hm:∀ e ∈ evs,MonoEv e):L=M:=by
 have h3:=h.le hm h2.2.1
 have h4:=h2.le hm h.2.1
 refine List.ext_getElem (by rw [h.length,h2.length]) fun i a b=>?_
 have e:=sub_antisymm (h3 i) (h4 i)
 rw [gdQ,gdQ,geQ a,geQ b] at e
 exact e
def ofRow (nt:Nat) (E:List Bool) (F:List Nat):List Int->Nat->Nat
 | [],b=>b
 | s :: l,b=>if 0<=s then (if s < nt then bitN s else 0) else if (F.length:Int)<=-1 - s then 0 else
  F.getD (-1 - s).toNat 0 ||| (if E.getD (-1 - s).toNat false=true then ofRow nt E F l b else 0)
theorem ofRow_lt (nt:Nat) (E:List Bool) {F:List Nat} (hF:∀ x ∈ F,x < top):∀ (l:List Int) {b:Nat},b < top->ofRow nt E F l b < top
 | [],b,hb=>hb
 | s :: l,b,hb=>by
  unfold ofRow
  have ih:=ofRow_lt nt E hF l hb
  split
  ·split
   ·exact bitN_lt s
   ·decide
  ·split
   ·decide
   ·refine or_lt (getD_lt hF _) ?_
    split
    ·exact ih
    ·decide
theorem ofRow_mono (nt:Nat) (E:List Bool) {F F':List Nat} (h:LeS F F') (hl:F.length=F'.length):∀ (l:List Int) {b b':Nat},Sub b b'->Sub (ofRow nt E F l b) (ofRow nt E F' l b')
 | [],b,b',hb=>hb
 | s :: l,b,b',hb=>by
  have ih:=ofRow_mono nt E h hl l hb
  unfold ofRow
  split
  ·exact sub_refl _
  ·rw [<-hl]
   split
   ·exact sub_refl _
   ·refine or_sub (sub_trans (h _) (sub_or_left _ _)) ?_
    split
    ·exact sub_trans ih (sub_or_right _ _)
    ·exact zero_sub _
end Go.Proofs.YticmnfmijdgmbaaGreatDoor.S13
