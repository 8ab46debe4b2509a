import Derived.Test.YticmnfmijdgmbaaGreatDoorSn
set_option linter.all false
set_option maxRecDepth 100000
set_option maxHeartbeats 8000000
namespace Go.Proofs.YticmnfmijdgmbaaGreatDoor
open Go Go.RowKit Go.Lib
open aO (It bu aY jc ax bg iR wU)
def ClosedP (G:GD)(l:List It)(w:World)(e:Ending)(w':World):Prop:=∃ g c L,iR G l L/\e=.returned (.slice (some ⟨g,0,none⟩) L.length c)/\je w' g L/\w.heap.size<=g/\g<w'.heap.size/\aj w w'
attribute [local go_sem] Oper.semAt_some
theorem oq {l:List It}{x:It}{k:Nat}{f:It->Bool}(hx:l.getD k (0,0)=x)(hk:k<l.length):(l.take (k+1)).filter f=(l.take k).filter f++if f x=true then [x]else []:=by
 have e:l[k]?=some x:=by rw[dH hk,<-hx,dL,dH hk];rfl
 rw[List.take_add_one,e,List.filter_append];simp only[Option.toList_some,List.filter_cons,List.filter_nil]
theorem oh {l:List It}{x:It}{k:Nat}{f:It->Bool}(hx:l.getD k (0,0)=x)(hk:k<l.length)(hT:f x=true):(l.take (k+1)).filter f=(l.take k).filter f++[x]:=by rw[oq hx hk,if_pos hT]
theorem tZ {l:List It}{x:It}{k:Nat}{f:It->Bool}(hx:l.getD k (0,0)=x)(hk:k<l.length)(hT:f x=false):(l.take (k+1)).filter f=(l.take k).filter f:=by rw[oq hx hk,hT];simp
theorem yC {G:GD}{gv:Value}{w:World}(h:fZ w gv G)(hv:aB G=true)(v:Value)(l:List It)(hl:aS w v l)(hn:l.length<=100000) :
  Calls Tryz.prog 62 #[gv,v] w (ClosedP G l w):=by
 obtain⟨tv,ov,sv,pv,tf,rv,hgr⟩:=h;have hgv:=hgr.eq;have HGr:=hid (show fZ w gv G from⟨tv,ov,sv,pv,tf,rv,hgr⟩);have HV:=hid hv;subst hgv;have hsv:=hgr.sorts;obtain⟨so,sc,rfl,_⟩:=hsv;have hvs:=bn hv;obtain⟨ns,hns⟩:=ai (G.sorts.length);obtain⟨np,hnp⟩:=ai (G.prods.length);have HNS:=hid hns;have HNP:=hid hnp;have hns60:ns<=60:=by rw[<-hns];exact hvs.2.1
 have hnp120:np<=120:=by rw[<-hnp];exact hvs.2.2.1
 have HL:=hid hl;have hl':=hl;obtain⟨vo,vc,rfl,hvn,_⟩:=hl';obtain⟨n,hln⟩:=ai (l.length);have HLN:=hid hln;rw[hln]at HL hn ⊢;rw[hns]at HGr ⊢;obtain⟨w1,e1⟩:=ai (w.alloc (.cells #[tv,ov,.slice so ns sc,pv,.int .i64 G.start] 27));obtain⟨w2,e2⟩:=ai (w1.alloc (.cells (Array.replicate (n*2) (.int .i64 0)) 60));obtain⟨w3,e3⟩:=ai (w2.alloc (.cells #[.slice none 0 0] 45));have hb1:aj w w1:=dM e1;have hb2:aj w1 w2:=dM e2;have hb3:aj w2 w3:=dM e3;have s1:w1.heap.size=w.heap.size+1:=by rw[<-e1];simp
 have s2:w2.heap.size=w1.heap.size+1:=by rw[<-e2];simp
 have s3:w3.heap.size=w2.heap.size+1:=by rw[<-e3];simp
 have n1:w1.heap[w.heap.size]?=some (.cells #[tv,ov,.slice so ns sc,pv,.int .i64 G.start] 27 (0,0)):=dO e1;have n2:w2.heap[w1.heap.size]?=some (.cells (Array.replicate (n*2) (.int .i64 0)) 60 (0,0)):=dO e2;have n3:w3.heap[w2.heap.size]?=some (.cells #[.slice none 0 0] 45 (0,0)):=dO e3;have c3:ay w3 w2.heap.size 0 (.slice none 0 0):=cell1 n3;have f3:=bY n3 0;obtain⟨w4,e4⟩:=ai (w3.setCell ⟨w2.heap.size,0,none⟩ (.slice (some ⟨w1.heap.size,0,none⟩) 0 n));have n4:w4.heap[w2.heap.size]?=some (.cells #[.slice (some ⟨w1.heap.size,0,none⟩) 0 n] 45 (0,0)):=dK e4 n3;have s4:w4.heap.size=w3.heap.size:=by rw[<-e4];simp
 have hk4:∀ q,q≠w2.heap.size->w4.heap[q]?=w3.heap[q]?:=fun q hq=>by rw[<-e4];exact Below.heap_setCell _ _ _ _ hq
 have hb4:aj w w4:=by
  rw[<-e4];exact((hb1.trans (hb2.mono (by omega))).trans (hb3.mono (by omega))).setCell (by show w.heap.size<=w2.heap.size;omega) _
 have m1:w4.heap[w.heap.size]?=some (.cells #[tv,ov,.slice so ns sc,pv,.int .i64 G.start] 27 (0,0)):=(hk4 _ (by omega)).trans ((hb3.block _ (by omega)).trans ((hb2.block _ (by omega)).trans n1));have m2:w4.heap[w1.heap.size]?=some (.cells (Array.replicate (n*2) (.int .i64 0)) 60 (0,0)):=(hk4 _ (by omega)).trans ((hb3.block _ (by omega)).trans n2);have HO0:Hid (Out w w4 w2.heap.size [] w1.heap.size n):=hid ⟨n4,⟨by simp[icells],.inr ⟨_,_,Array.replicate (n*2) (.int .i64 0),rfl,by omega,m2,by simp,(by unfold maxLen;omega),by simp,by simp[icells]⟩⟩,by omega,hb4,by omega⟩;have HM1:=hid m1;have MADE:=EU n (by omega) w1;rw[e2]at MADE;have le1:w.heap.size<w1.heap.size:=by omega
 have le2:w1.heap.size<w2.heap.size:=by omega
 have le4:w2.heap.size<w4.heap.size:=by omega
 have HK4:=hid (iZ.refl w4.heap.size [w2.heap.size,w1.heap.size] w4);clear hgr hvn hl hv hvs hns hnp hb1 hb2 s1 s2 s3 s4 hk4 m1 m2 n1 n2 n4 hb4;refine(callsIn_wide (n:=6)).1 ?_;refine callsIn_of_wp_marks Tryz.func62 rfl trivial ?_ rfl;refine wpIn_wide.2 ?_;simp only[Tryz.ntmps62,List.size_toArray,List.length_cons,List.length_nil,Nat.reduceAdd,Nat.reduceSub,Array.replicate_succ,Array.replicate_zero,List.push_toArray,List.append_toArray,List.nil_append,List.cons_append];go_wp2_with fail;clear c3 f3 MADE e1 e2 e3 e4 hb3 n3
 go_loopw [7,18] (fun t7 t18 wr=>∃ (k g c:Nat),k<=n/\t18=.int .i64 (k:Int)/\Hid (Out w wr w2.heap.size ((l.take k).filter (bu G)) g c)/\Hid (g=w1.heap.size\/w4.heap.size<=g)/\Hid (iZ w4.heap.size [w2.heap.size,w1.heap.size] w4 wr)) (fun _ t18 _=>n-(intOf t18).toNat)
 case atStart=>exact⟨0,w1.heap.size,n,Nat.zero_le _,rfl,HO0,hid (.inl rfl),HK4⟩
 case round =>
  obtain⟨k,g,c,hk,rfl,HO,HG,HK⟩:=hrel;by_cases hlt:k<n
  ·have t1:(k:Int)<(n:Int):=by omega
   have t2:(0:Int)<=(k:Int):=by omega
   have hkl:k<l.length:=by rw[HLN.o];exact hlt
   have hle:=HK.o.size;have hbx:=HO.o.bel;obtain⟨ro',rc',hro,_,hcs⟩:=HL.o;injection hro with hro1 hro2 hro3;subst hro1;obtain⟨lb,lo,rfl,hcq⟩:=hcs (by omega);obtain⟨q0,q1⟩:=hcq k hkl;have q0:=cell_below hbx q0;have q1:=cell_below hbx q1;obtain⟨x,hx⟩:=ai (l.getD k (0,0));have HX:=hid hx;rw[hx]at q0 q1;obtain⟨wx,ex⟩:=ai (wr.alloc (.cells #[.int .i64 0,.int .i64 0] 60));have nx:wx.heap[wr.heap.size]?=some (.cells #[.int .i64 0,.int .i64 0] 60 (0,0)):=dO ex;obtain⟨wa,ea⟩:=ai (wx.setCell ⟨wr.heap.size,0,none⟩ (.int .i64 x.1));obtain⟨wb,eb⟩:=ai (wa.setCell ⟨wr.heap.size,1,none⟩ (.int .i64 x.2));have na:wa.heap[wr.heap.size]?=some (.cells #[.int .i64 x.1,.int .i64 0] 60 (0,0)):=dK ea nx;have nb:wb.heap[wr.heap.size]?=some (.cells #[.int .i64 x.1,.int .i64 x.2] 60 (0,0)):=dK eb na;have hbb:aj wr wb:=by
    rw[<-eb,<-ea,<-ex];exact((((eH _ _).alloc (bJ _) _).setCell (bJ _) _).setCell (bJ _) _)
   have c0:ay wx wr.heap.size 0 (.int .i64 0):=ak nx 0;have f0:=bY nx 0;have c1:ay wa wr.heap.size 1 (.int .i64 0):=ak na 1;have f1:=bY na 1;have d0:ay wb wr.heap.size 0 (.int .i64 x.1):=ak nb 0;have d1:ay wb wr.heap.size 1 (.int .i64 x.2):=ak nb 1;have hO2:=HO.o.below hbb;have hK2:=HK.o.below hle hbb;have hG2:wb.heap[w.heap.size]?=some (.cells #[tv,ov,.slice so ns sc,pv,.int .i64 G.start] 27 (0,0)):=(hK2.block _ (by omega) (by simp;omega)).trans HM1.o;obtain⟨b0,b1,b2,b3,b4⟩:=cells5 hG2;have KT:=hid (zg (HGr.o.below hO2.bel) HV.o x);have HO2:=hid hO2;have HK2:=hid hK2;have HNB:=hid nb;have hsb:=hbb.size;unfold mg at KT;clear hcs hcq hx nx na nb hbb hO2 hK2 hG2 hbx HO HK hro2 hro3;go_wp2_with fail;refine KT.o.mono ?_;rintro e w5 ⟨rfl,hb5⟩;clear b0 b1 b2 b3 b4 d0 d1 c0 c1 f0 f1 q0 q1 ex ea eb KT;have HO5:=hid (HO2.o.below hb5);have HK5:=hid (HK2.o.below (by omega) hb5);have n5:w5.heap[wr.heap.size]?=some (.cells #[.int .i64 x.1,.int .i64 x.2] 60 (0,0)):=(hb5.block _ (dZ HNB.o)).trans HNB.o;have hs5:=hb5.size;clear hb5 HO2 HK2 HNB;cases hT:bu G x
   ·have HO6:=hid (show Out w w5 w2.heap.size ((l.take (k+1)).filter (bu G)) g c from by
     rw[tZ HX.o hkl hT];exact HO5.o)
    go_wp2_with fail;refine⟨⟨k+1,g,c,by omega,rfl,HO6,HG,HK5⟩,?_⟩;show n-((k:Int)+1).toNat<n-((k:Int)).toNat;omega
   ·obtain⟨O,hO⟩:=ai ((l.take k).filter (bu G));have HOE:=hid hO;rw[hO]at HO5;have d0:ay w5 wr.heap.size 0 (.int .i64 x.1):=ak n5 0;have d1:ay w5 wr.heap.size 1 (.int .i64 x.2):=ak n5 1;have cb:ay w5 w2.heap.size 0 (.slice (some ⟨g,0,none⟩) O.length c):=cell1 HO5.o.box;obtain⟨w6,e6⟩:=ai (w5.alloc (.cells #[.int .i64 x.1,.int .i64 x.2] 60));have hb6:aj w5 w6:=dM e6;have HN6:=hid (show w6.heap[w5.heap.size]?=some (.cells #[.int .i64 x.1,.int .i64 x.2] 60 (0,0))from by rw[<-e6];exact aK _ _);have HO6:=hid (HO5.o.below hb6);have HK6:=hid (HK5.o.below (by omega) hb6);have hle6:=HO6.o.bel.size;have hs6:=hb6.size;have hOl:O.length<=k:=by
     rw[<-hO];exact eX (List.length_filter_le _ _) (by rw[List.length_take];omega)
    clear hb6 hO n5;go_wp2_with (at_builtin;refine nX rfl (.tmp 25) (.tmp 27) rfl w.heap.size (.slice (some ⟨g,0,none⟩) O.length c) O.length (icells O) rfl HO6.o.own w5.heap.size rfl x.1 x.2 HN6.o (by omega) hle6 ?_);intro v7 w7 hown hg hat;obtain⟨g7,c7,rfl,hb7,hO7,hg7,hk7⟩:=HO6.o.push hown hg hat;have cb7:ay w7 w2.heap.size 0 (.slice (some ⟨g,0,none⟩) O.length c):=cell1 hb7;have fb7:=bY hb7 0;have HO7:=hid (show Out w (w7.setCell ⟨w2.heap.size,0,none⟩ (.slice (some ⟨g7,0,none⟩) (O.length+1) c7)) w2.heap.size ((l.take (k+1)).filter (bu G)) g7 c7 from by
     rw[oh HX.o hkl hT,HOE.o];exact hO7)
    have hl7:((l.take (k+1)).filter (bu G)).length=O.length+1:=by rw[oh HX.o hkl hT,HOE.o,List.length_append];rfl
    have HG7:=hid (show g7=w1.heap.size\/w4.heap.size<=g7 from by
     rcases hg7 with e | e
     ·rw[e];exact HG.o
     ·right;omega)
    have HK7:=hid (HK6.o.trans (hk7 w4.heap.size [w2.heap.size,w1.heap.size] (by omega) (by simp) (HG.o.imp (fun e=>by simp[e]) id)));clear hown hg hat hb7 hO7 hg7 hk7 e6 cb d0 d1;go_wp2_with fail;refine⟨⟨k+1,g7,c7,by omega,rfl,HO7,HG7,HK7⟩,?_⟩;show n-((k:Int)+1).toNat<n-((k:Int)).toNat;omega
  ·have t1:¬ (k:Int)<(n:Int):=by omega
   have hkn:k=n:=by omega
   have HOF:=hid (show Out w wr w2.heap.size (l.filter (bu G)) g c from by
    have h1:=HO.o;rw[hkn,<-HLN.o,List.take_length]at h1;exact h1)
   have hle:=HK.o.size;have hG2:wr.heap[w.heap.size]?=some (.cells #[tv,ov,.slice so ns sc,pv,.int .i64 G.start] 27 (0,0)):=(HK.o.block _ (by omega) (by simp;omega)).trans HM1.o;have HGB:=hid hG2;have b2:ay wr w.heap.size 2 (.slice so ns sc):=ak hG2 2;obtain⟨bb,hbb⟩:=ai (wr.heap.size);obtain⟨w8,e8⟩:=ai (wr.alloc (.cells (Array.replicate ns (.bool false)) 4));have hb8:aj wr w8:=dM e8;have n8:w8.heap[bb]?=some (.cells (Array.replicate ns (.bool false)) 4 (0,0)):=by rw[<-e8,<-hbb];exact aK _ _
   have hrep:Array.replicate ns (Value.bool false)=(Array.range G.sorts.length).map fun k=>.bool ((fun _=>false) k):=by
    rw[HNS.o];refine Array.ext (by simp) fun j h1 h2=>by simp
   have hglt:=HOF.o.lt;have HI0:=hid (show lX G l w w8 w.heap.size w2.heap.size bb #[tv,ov,.slice so ns sc,pv,.int .i64 G.start] (l.filter (bu G)) g c (fun _=>false) 0 []from
    ⟨HOF.o.below hb8,(hb8.block _ (by omega)).trans HGB.o,by rw[<-hrep];exact n8,Fj G l,by rw[IX];exact List.length_filter_le _ _,Nat.zero_le _,(by
     rcases HG.o with e | e
     ·omega
     ·omega),by omega,List.nodup_nil,(fun D hD=>by cases hD),fun D hD=>by cases hD⟩)
   have MADEB:=o9 ns (by omega) wr;rw[e8,hbb]at MADEB;have lbb:w2.heap.size<bb:=by omega
   clear HOF HGB hG2 e8 hb8 n8 hrep hglt;go_wp2_with fail;clear MADEB b2;refine wp_loop (fun a wz=>∃ (i g c:Nat) (O:List It) (begun:Nat->Bool) (ds:List Nat),Hid (lX G l w wz w.heap.size w2.heap.size bb #[tv,ov,.slice so ns sc,pv,.int .i64 G.start] O g c begun i ds)/\∃ (u3 u6 u7 u10 u11 u12 u13 u14 u15 u16 u17 u18 u19 u20 u21 u22 u23 u24 u25 u26 u27 u28 u29 u30 u31 u32 u33 u34 u35 u36 u37 u38 u39 u40 u41 u42 u43 u44 u45 u46 u47 u48 u49 u50 u51 u52 u53 u54 u55 u56 u57 u58 u59 u60 u61 u62 u63 u64 u65 u66 u67 u68 u69 u70 u71 u72 u73 u74 u75 u76:Value),a={tmps:=#[.agg #[tv,ov,.slice so ns sc,pv,.int .i64 G.start],.slice vo n vc,.pointer (some ⟨w.heap.size,0,none⟩),u3,.slice none 0 0,.pointer (some ⟨w2.heap.size,0,none⟩),u6,u7,.slice (some ⟨bb,0,none⟩) ns ns,.int .i64 (i:Int),u10,u11,u12,u13,u14,u15,u16,u17,u18,u19,u20,u21,u22,u23,u24,u25,u26,u27,u28,u29,u30,u31,u32,u33,u34,u35,u36,u37,u38,u39,u40,u41,u42,u43,u44,u45,u46,u47,u48,u49,u50,u51,u52,u53,u54,u55,u56,u57,u58,u59,u60,u61,u62,u63,u64,u65,u66,u67,u68,u69,u70,u71,u72,u73,u74,u75,u76],defers:=ds.map markD}) (fun a _=>l.length+np+1-(intOf (a.tmps.getD 9 undef)).toNat) ?start ?round
   case start =>
    refine⟨0,g,c,_,_,[],HI0,?_⟩
    (repeat apply Exists.intro)
    rfl
   case round =>
    rintro _ wz ⟨i,g1,c1,O,begun,ds,HI,u3,u6,u7,u10,u11,u12,u13,u14,u15,u16,u17,u18,u19,u20,u21,u22,u23,u24,u25,u26,u27,u28,u29,u30,u31,u32,u33,u34,u35,u36,u37,u38,u39,u40,u41,u42,u43,u44,u45,u46,u47,u48,u49,u50,u51,u52,u53,u54,u55,u56,u57,u58,u59,u60,u61,u62,u63,u64,u65,u66,u67,u68,u69,u70,u71,u72,u73,u74,u75,u76,rfl⟩;clear HI0;have hout:=HI.o.out;have cb:=cell1 hout.box;have hOl:O.length<=n+np:=by
     have h1:=HI.o.len;have h2:=cntB_le G begun;rw[HLN.o]at h1;rw[HNP.o]at h2;omega
    have hrow:=je.nZ hout.own rfl;have hgl:=hout.lt;have hcap:=hout.cap;have HCAP:=hid hcap;have HOUT:=hid hout;by_cases hiO:i<O.length
    ·have t3:(i:Int)<(O.length:Int):=(by omega);have t4:(0:Int)<=(i:Int):=(by omega);obtain⟨x,hx⟩:=ai (O[i]);have HX:=hid (show O[i]?=some x from by rw[<-hx];exact dH hiO);have hxO:x∈O:=by rw[<-hx];exact List.getElem_mem hiO
     have ht:=(HI.o.clos.inn x hxO).there;obtain⟨q0,q1,_,_⟩:=hrow i hiO;rw[hx]at q0 q1;have HB0:Hid (∀ w',aj wz w'->w'.cell? ⟨w.heap.size,0,none⟩=some tv):=hid fun w' hC=>cell_below hC (ak HI.o.box 0);have HB1:Hid (∀ w',aj wz w'->w'.cell? ⟨w.heap.size,1,none⟩=some ov):=hid fun w' hC=>cell_below hC (ak HI.o.box 1);have HB2:Hid (∀ w',aj wz w'->w'.cell? ⟨w.heap.size,2,none⟩=some (.slice so ns sc)):=hid fun w' hC=>cell_below hC (ak HI.o.box 2);have HB3:Hid (∀ w',aj wz w'->w'.cell? ⟨w.heap.size,3,none⟩=some pv):=hid fun w' hC=>cell_below hC (ak HI.o.box 3);have HB4:Hid (∀ w',aj wz w'->w'.cell? ⟨w.heap.size,4,none⟩=some (.int .i64 G.start)):=hid fun w' hC=>cell_below hC (ak HI.o.box 4);have HCB:Hid (∀ w',aj wz w'->w'.cell? ⟨w2.heap.size,0,none⟩=some (.slice (some ⟨g1,0,none⟩) O.length c1)):=hid fun w' hC=>cell_below hC cb;have HX0:Hid (∀ w',aj wz w'->w'.cell? ⟨g1,i*2,none⟩=some (.int .i64 x.1)):=hid fun w' hC=>cell_below hC q0;have HX1:Hid (∀ w',aj wz w'->w'.cell? ⟨g1,i*2+1,none⟩=some (.int .i64 x.2)):=hid fun w' hC=>cell_below hC q1;obtain⟨sy,hsy⟩:=ai ((aY G x).getD 0);obtain⟨ok,hok⟩:=ai ((aY G x).isSome);have KB:Hid (∀ w',aj wz w'->Calls Tryz.prog 65 #[.agg #[tv,ov,.slice so ns sc,pv,.int .i64 G.start],.agg #[.int .i64 x.1,.int .i64 x.2]] w' fun e w''=>e=.returned (.tuple #[.int .i64 sy,.bool ok])/\aj w' w''):=hid fun w' hC=>by
      have h0:=tu ((HGr.o.below HOUT.o.bel).below hC) HV.o x ht;unfold BehP at h0;rw[hsy,hok]at h0;exact h0
     have HSY:=hid hsy;have HOK:=hid hok;clear hsy hok hrow hx hxO ht q0 q1 hcap hout;go_wp2_with fail;refine ah (by kernel_rfl) (by kernel_rfl) ?_;repeat(first
               | (refine BigFrame.wpQuiet_skip (by rfl) ?_;try simp only[Act.put,List.setIfInBounds_toArray,List.set_cons_zero,List.set_cons_succ])
               | (refine BigFrame.wpQuiet_want (by rfl) (fun K hK=>?_)
                  apply Exists.intro;refine⟨fun w' hC=>?_,hK _ ?_⟩
                  . first
                     | (have f0':=HB0.o w' hC
                        have f1':=HB1.o w' hC;have f2':=HB2.o w' hC;have f3':=HB3.o w' hC;have f4':=HB4.o w' hC;have f5':=HCB.o w' hC;have f6':=HX0.o w' hC;have f7':=HX1.o w' hC;unfold Oper.quietAt;go_simp
                        first
                          | with_reducible rfl
                          | done
                          | with_reducible exact bD hC (bJ _) (KB.o w' hC))
                  clear hK K;try simp only[Act.put,List.setIfInBounds_toArray,List.set_cons_zero,List.set_cons_succ]))
     refine wpQuiet_nil ?_;intro w6 hb6;have HI6:=hid (HI.o.below hb6);clear hb6 HB0 HB1 HB2 HB3 HB4 HCB HX0 HX1 KB HOUT HI cb;rcases hB:aY G x with _ | s
     ·rw[hB]at HSY HOK;obtain rfl:(0:Int)=sy:=HSY.o;obtain rfl:false=ok:=HOK.o;have HI7:=hid (show lX G l w w6 w.heap.size w2.heap.size bb #[tv,ov,.slice so ns sc,pv,.int .i64 G.start] O g1 c1 begun (i+1) ds from
       {HI6.o with clos:=HI6.o.clos.skip HX.o (fun s hs=>by rw[hB]at hs;cases hs),le:=hiO})
      go_wp2_with fail;refine⟨⟨i+1,g1,c1,O,begun,ds,HI7,?_⟩,?_⟩
      ·first
         | ((repeat apply Exists.intro);rfl)
         | exact⟨rfl,rfl⟩
      ·first
         | (show l.length+np+1-((i:Int)+1).toNat<l.length+np+1-((i:Int)).toNat;omega)
         | (show n+np+1-((i:Int)+1).toNat<n+np+1-((i:Int)).toNat;omega)
     ·rw[hB]at HSY HOK;obtain rfl:s=sy:=HSY.o;obtain rfl:true=ok:=HOK.o;by_cases hs0:0<=s
      ·have HI7:=hid (show lX G l w w6 w.heap.size w2.heap.size bb #[tv,ov,.slice so ns sc,pv,.int .i64 G.start] O g1 c1 begun (i+1) ds from
        {HI6.o with clos:=HI6.o.clos.skip HX.o (fun s' hs hs1=>by rw[hB]at hs;injection hs with hs;omega),le:=hiO})
       go_wp2_with fail;refine⟨⟨i+1,g1,c1,O,begun,ds,HI7,?_⟩,?_⟩
       ·first
          | ((repeat apply Exists.intro);rfl)
          | exact⟨rfl,rfl⟩
       ·first
          | (show l.length+np+1-((i:Int)+1).toNat<l.length+np+1-((i:Int)).toNat;omega)
          | (show n+np+1-((i:Int)+1).toNat<n+np+1-((i:Int)).toNat;omega)
      ·have hbs:=yG HV.o hB (by omega);rw[HNS.o]at hbs;obtain⟨t,hst⟩:∃ t:Nat,-1-s=(t:Int):=⟨(-1-s).toNat,by omega⟩;have HST7:=hid hst;have htn:t<ns:=(by omega);have t5:(t:Int)<(ns:Int):=(by omega);have t6:(0:Int)<=(t:Int):=(by omega);have ct:w6.cell? ⟨bb,t,none⟩=some (.bool (begun t)):=by
        rw[ak HI6.o.bools];have hlt:t<G.sorts.length:=by rw[HNS.o];exact htn
        simp[hlt]
       cases hbt:begun t
       ·rw[hbt]at ct;have ft:w6.frozen? ⟨bb,t,none⟩=false:=bY HI6.o.bools t;have hmk:=HI6.o.mark t (by omega) (by omega) (by omega);obtain⟨w7,e7⟩:=ai (w6.setCell ⟨bb,t,none⟩ (.bool true));rw[e7]at hmk;have HMK:=hid hmk;obtain⟨b0,b1,b2,b3,b4⟩:=cells5 hmk.2.1;have HBT:=hid hbt;have HBB:=hid hB;have HLE:=hid hiO;obtain⟨wS,eS⟩:=ai ((w7.alloc (.cells #[tv,ov,.slice so ns sc,pv,.int .i64 G.start] 27)).alloc (.cells #[.int .i64 (t:Int)] 3));have hbS:aj w7 wS:=by rw[<-eS];exact((eH _ _).alloc (bJ _) _).alloc (by simp) _
        have sS:wS.heap.size=w7.heap.size+2:=by rw[<-eS];simp
        have nG:wS.heap[w7.heap.size]?=some (.cells #[tv,ov,.slice so ns sc,pv,.int .i64 G.start] 27 (0,0)):=by
         rw[<-eS];exact(Below.heap_alloc _ _ _ (by simp)).trans (aK _ _)
        have nT:wS.heap[w7.heap.size+1]?=some (.cells #[.int .i64 (t:Int)] 3 (0,0)):=by
         rw[<-eS];have h9:=aK (w7.alloc (.cells #[tv,ov,.slice so ns sc,pv,.int .i64 G.start] 27)) (.cells #[.int .i64 (t:Int)] 3)
         rwa [World.size_alloc]at h9
        have HO7:=hid (hmk.1.below hbS);have hlt7:=hmk.1.lt;have SEQ:=hid (Fq 5 (by decide) w HGr.o (by rw[HNP.o];omega) [w2.heap.size,g1] w7.heap.size (w7.heap.size+1) t wS HO7.o.bel nG nT (fun b hb=>by
         simp only[List.mem_cons,List.not_mem_nil,or_false]at hb;rcases hb with e | e<;>rw[e]<;>exact⟨by omega,by omega,by omega⟩) HO7.o.bel.size)
        have HMS:=hid (And.intro ((hbS.block _ (dZ hmk.2.1)).trans hmk.2.1) (And.intro ((hbS.block _ (dZ hmk.2.2.1)).trans hmk.2.2.1) (fun D hD=>(hbS.block _ (Array.getElem?_eq_some_iff.1 (hmk.2.2.2 D hD)).1).trans (hmk.2.2.2 D hD))));have HLB:=hid (And.intro (dZ hmk.2.1) (And.intro (dZ hmk.2.2.1) (fun D hD=>(Array.getElem?_eq_some_iff.1 (hmk.2.2.2 D hD)).1)));have HSS:=hid sS;have hst':=HST7.o;clear hmk hbt hB hbS sS nG nT hlt7 hst';go_wp2_with fail;refine(callsIn_wide (n:=6)).1 ((I5 6 _ _ _ _ _ _ _).mono ?_);rintro e w9 ⟨rfl,hw9⟩;have hw9':w9=wS:=hw9.trans eS;subst hw9';clear b0 b1 b2 b3 b4 ct ft hw9 eS e7;go_wp2_with fail;refine(wpIn_wide (n:=6)).1 ?_;refine wpIn_rangeFunc_ownH (n:=6) rfl (by decide) (gf:=127) (lb:=#[.pointer (some ⟨w7.heap.size,0,none⟩),.pointer (some ⟨w7.heap.size+1,0,none⟩)]) rfl trivial (enters_of Tryz.func127 (by kernel_rfl) rfl) SEQ.o
         (fun h k=>h.trans k)
         (fun W l' o o' hl' ho hc hw=>⟨rfl,rfl,rfl,by simp,fun g hg _=>World.putObj_heap_other (by omega)⟩)
         (eH _ _) (fun _=>rfl)
         (BgI w w9 w2.heap.size g1 O) (fun _ _ _=>False) (G6 HO7.o.bel.size) (fun _ _ _ _ _ hs _ _=>hs) ⟨g1,c1,by rw[List.append_nil];exact HO7.o,iZ.refl _ _ _,.inl rfl⟩
         (fun x a' W=>∃ (Bx:Nat),W.heap[Bx]?=some (.cells #[.int .i64 x.1,.int .i64 x.2] 60 (0,0))/\∃ (u0 u1 u2 u3 u4 u6 u7 u8 u9 u10 u11 u13 u14 u15 u16 u17 u18 u19 u20 u21 u22 u23 u24 u25 u26 u27 u28 u29 u30 u31 u32 u33 u34 u35 u36 u37 u38 u39 u40 u41 u42 u43 u44 u45 u46 u47 u48 u49 u50 u51 u52 u53 u54 u55 u56 u57 u58 u59 u60 u61 u62 u63 u64 u65 u66 u67 u68 u69 u70 u71 u72 u73 u74 u75 u76:Value),a'={tmps:=#[u0,u1,u2,u3,u4,.pointer (some ⟨w2.heap.size,0,none⟩),u6,u7,u8,u9,u10,u11,.pointer (some ⟨Bx,0,none⟩),u13,u14,u15,u16,u17,u18,u19,u20,u21,u22,u23,u24,u25,u26,u27,u28,u29,u30,u31,u32,u33,u34,u35,u36,u37,u38,u39,u40,u41,u42,u43,u44,u45,u46,u47,u48,u49,u50,u51,u52,u53,u54,u55,u56,u57,u58,u59,u60,u61,u62,u63,u64,u65,u66,u67,u68,u69,u70,u71,u72,u73,u74,u75,u76],defers:=[]})
         (fun x a' s A C row ⟨Bx,hb,e⟩ hg hr=>⟨Bx,(hg.block Bx (dZ hb) (fun e=>by
          obtain⟨_,o,ho,hc⟩:=hr Bx e.symm;rw[hb]at ho;obtain rfl:=Option.some.inj ho;cases hc)).trans hb,e⟩) ?assign ?body ?done ?stop
        case assign =>
         intro l' pre y W KK hi hK;have HI8:=hid hi;have HKK:=hid hK;clear hi hK;unfold encB
         gi_wp2
         obtain⟨g8,c8,h81,h82,h83⟩:=HI8.o;have hz:=h82.size;refine HKK.o _ _ ((KeepsOthers.alloc _ _).from _) ⟨rfl,rfl,rfl,by simp,fun q hq _=>Below.heap_alloc _ _ _ (by omega)⟩ ((G6 HO7.o.bel.size).alloc _ HI8.o) ⟨W.heap.size,aK _ _,?_⟩
         (repeat apply Exists.intro)
         rfl
        case body =>
         rintro l' pre y a' W hl' ⟨r,hr⟩ ⟨g8,c8,h81,h82,h83⟩ ⟨Bx,hbx,v0,v1,v2,v3,v4,v6,v7,v8,v9,v10,v11,v13,v14,v15,v16,v17,v18,v19,v20,v21,v22,v23,v24,v25,v26,v27,v28,v29,v30,v31,v32,v33,v34,v35,v36,v37,v38,v39,v40,v41,v42,v43,v44,v45,v46,v47,v48,v49,v50,v51,v52,v53,v54,v55,v56,v57,v58,v59,v60,v61,v62,v63,v64,v65,v66,v67,v68,v69,v70,v71,v72,v73,v74,v75,v76,rfl⟩ hlt;have d0:ay W Bx 0 (.int .i64 y.1):=ak hbx 0;have d1:ay W Bx 1 (.int .i64 y.2):=ak hbx 1;have cb:ay W w2.heap.size 0 (.slice (some ⟨g8,0,none⟩) (O++pre).length c8):=cell1 h81.box;obtain⟨W6,e6⟩:=ai (W.alloc (.cells #[.int .i64 y.1,.int .i64 y.2] 60));have hb6:aj W W6:=dM e6;have HN6:=hid (show W6.heap[W.heap.size]?=some (.cells #[.int .i64 y.1,.int .i64 y.2] 60 (0,0))from by rw[<-e6];exact aK _ _);have HO6:=hid (h81.below hb6);have HB6:=hid hb6;have H82:=hid h82;have H83:=hid h83;have hle6:=HO6.o.bel.size;have hOp:(O++pre).length<=1000000:=by
          rw[List.length_append];rw[HNP.o]at hlt;omega
         obtain⟨OP,hOP⟩:=ai (O++pre);have HOP:=hid hOP;rw[hOP]at cb hOp HO6;clear h81 h82 h83 hb6 hbx hr hl' hlt hOP
         gi_wp2_with (gi_at_builtin;refine wK rfl (.tmp 71) (.tmp 73) rfl w.heap.size (.slice (some ⟨g8,0,none⟩) OP.length c8) OP.length (icells OP) rfl HO6.o.own W.heap.size rfl y.1 y.2 HN6.o hOp hle6 ?_)
         intro v7 W7 hown hg hat;obtain⟨g9,c9,rfl,hb9,k1,k2,k3⟩:=bg_push (pre:=pre) (x:=y) (by rw[HOP.o];exact HO6.o) H82.o HB6.o H83.o (by rw[HOP.o];exact hown) hg hat;rw[HOP.o]at hb9;have cb9:ay W7 w2.heap.size 0 (.slice (some ⟨g8,0,none⟩) OP.length c8):=cell1 hb9;have fb9:=bY hb9 0;have HKK:=hid (And.intro k1 (And.intro k2 k3));rw[HOP.o]at HKK;clear hown hg hat hb9 k1 k2 k3 e6 cb d0 d1
         gi_wp2_with fail
         have hfin:=HKK.o;rw[<-HOP.o,List.length_append]at hfin;exact hfin
        case done =>
         rintro D' ys W hD rfl ⟨g8,c8,h81,h82,h83⟩ hK;have hgg:w9.heap.size=w7.heap.size+2:=HSS.o;have hg1:=HI6.o.out.lt;have HI7:=hid (show lX G l w W w.heap.size w2.heap.size bb #[tv,ov,.slice so ns sc,pv,.int .i64 G.start] (O++jc G t G.prods.length) g8 c8 (fun k=>if k=t then true else begun k) (i+1) (D'::ds)from
          { o := h81
            box:=(h82.block _ (by have:=HLB.o.1;omega) (fun hm=>by
               simp only[List.mem_cons,List.not_mem_nil,or_false]at hm;rcases hm with e | e
               . omega
               exact HI6.o.gG e.symm)).trans HMS.o.1
            bools:=(h82.block _ (by have:=HLB.o.2.1;omega) (fun hm=>by
               simp only[List.mem_cons,List.not_mem_nil,or_false]at hm;rcases hm with e | e
               . omega
               exact HI6.o.gb e.symm)).trans HMS.o.2.1
            clos:=HI6.o.clos.qM HX.o (by rw[HBB.o];congr 1;have:=HST7.o;omega)
            len:=by
               rw[List.length_append,Fh HBT.o];have:=HI6.o.len;omega
            le:=by rw[List.length_append];have:=HLE.o;omega
            gG:=by
               rcases h83 with e | e
               . rw[e];exact HI6.o.gG
               have:=HLB.o.1;omega
            gb:=by
               rcases h83 with e | e
               . rw[e];exact HI6.o.gb
               have:=HLB.o.2.1;omega
            nd:=List.nodup_cons.2 ⟨fun hm=>by have:=HLB.o.2.2 D' hm;omega,HI6.o.nd⟩
            dge:=fun D hm=>by
               rcases List.mem_cons.1 hm with e | e
               . have:=HO7.o.bel.size;omega
               exact HI6.o.dge D e
            ds:=fun D hm=>by
               rcases List.mem_cons.1 hm with e | e
               . rw[e];exact hK
               refine(h82.block _ (by have:=HLB.o.2.2 D e;omega) (fun hm=>?_)).trans (HMS.o.2.2 D e);simp only[List.mem_cons,List.not_mem_nil,or_false]at hm;rcases hm with e2 | e2
               . exact(HI6.o.dne e).2.1 e2
               exact(HI6.o.dne e).1 e2 })
         clear h81 h82 h83 hK;go_wp2_with fail
         skip
         refine⟨⟨i+1,g8,c8,O++jc G t G.prods.length,fun k=>if k=t then true else begun k,D'::ds,HI7,?_⟩,?_⟩
         ·first
            | ((repeat apply Exists.intro);rfl)
            | exact⟨rfl,rfl⟩
         ·first
            | (show l.length+np+1-((i:Int)+1).toNat<l.length+np+1-((i:Int)).toNat;omega)
            | (show n+np+1-((i:Int)+1).toNat<n+np+1-((i:Int)).toNat;omega)
        case stop =>
         rintro D c pre W _ _ h _;exact h.elim
       ·rw[hbt]at ct;have HI7:=hid (show lX G l w w6 w.heap.size w2.heap.size bb #[tv,ov,.slice so ns sc,pv,.int .i64 G.start] O g1 c1 begun (i+1) ds from
         {HI6.o with clos:=HI6.o.clos.skip HX.o (fun s' hs hs1=>by rw[hB]at hs;injection hs with hs;rw[<-hs,show(-1-s).toNat=t by omega];exact hbt),le:=hiO})
        go_wp2_with fail;refine⟨⟨i+1,g1,c1,O,begun,ds,HI7,?_⟩,?_⟩
        ·first
           | ((repeat apply Exists.intro);rfl)
           | exact⟨rfl,rfl⟩
        ·first
           | (show l.length+np+1-((i:Int)+1).toNat<l.length+np+1-((i:Int)).toNat;omega)
           | (show n+np+1-((i:Int)+1).toNat<n+np+1-((i:Int)).toNat;omega)
    ·have t3:¬ (i:Int)<(O.length:Int):=(by omega);have KR:=hid (EG (c:=c1) hrow hgl.2.1 hcap.1 (by omega) hcap.2);clear hrow hcap hout;go_wp2_with fail;refine KR.o.mono ?_;rintro e w9 ⟨L,hL1,hL2,hL3,rfl,hL4,hL5⟩;have HLL:=hid (And.intro hL1 (And.intro hL2 (And.intro hL3 (And.intro hL4 hL5))));clear hL1 hL2 hL3 hL4 hL5 KR;have hii:O.length<=i:=(by omega);have HII:=hid hii;clear hii;go_wp2_with fail;refine ul ds w9 HI.o.nd (fun D hD=>?_) (fun w' a1 a2 a3 a4 a5=>?_)
     ·exact(HLL.o.2.2.2.2.block D (Array.getElem?_eq_some_iff.1 (HI.o.ds D hD)).1 (HI.o.dne hD).1).trans (HI.o.ds D hD)
     ·have hng:g1∉ds:=fun hm=>(HI.o.dne hm).1 rfl;have hbel:aj w w9:=jv.bel HLL.o.2.2.2.2 HOUT.o.bel HOUT.o.bel.size HOUT.o.lt.1;refine⟨_,results_tmp rfl _ _ _,g1,c1,L,⟨HLL.o.1,fun x=>(HLL.o.2.1 x).trans (HI.o.clos.close HII.o x)⟩,rfl,HLL.o.2.2.2.1.kept (a1 g1 hng),HOUT.o.lt.1,?_,?_⟩
      ·rw[a2];exact Nat.lt_of_lt_of_le HOUT.o.lt.2.1 HLL.o.2.2.2.2.size
      ·refine⟨a3.trans hbel.os,a4.trans hbel.tape,a5.trans hbel.output,by rw[a2];exact hbel.size,fun q hq=>(a1 q (fun hm=>?_)).trans (hbel.block q hq)⟩;have:=HI.o.dge q hm;omega
end Go.Proofs.YticmnfmijdgmbaaGreatDoor
