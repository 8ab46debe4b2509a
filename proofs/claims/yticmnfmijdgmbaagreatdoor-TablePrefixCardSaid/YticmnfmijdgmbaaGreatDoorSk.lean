/- The closure of a row of items. -/
import Derived.Test.YticmnfmijdgmbaaGreatDoorSn
set_option linter.unusedVariables false
set_option linter.unusedSimpArgs false
namespace Go.Proofs.YticmnfmijdgmbaaGreatDoor
open Go Go.RowKit Go.Lib
open X14 (It thereX behX beginX rightX sortX IsClose Clos)
def ClosedP (G:GD) (l:List It) (w:World) (e:Ending) (w':World):Prop:=∃ g c L,IsClose G l L/\e=.returned (.slice (some ⟨g,0,none⟩) L.length c)/\RowH w' g L/\w.heap.size<=g/\g < w'.heap.size/\Below w.heap.size w w'
attribute [local go_sem] Oper.semAt_some
theorem take_filter_succ {l:List It} {x:It} {k:Nat} {f:It->Bool} (hx:l.getD k (0,0)=x) (hk:k < l.length):(l.take (k + 1)).filter f=(l.take k).filter f ++ if f x=true then [x] else []:=by
 have e:l[k]?=some x:=by rw [geQ hk,<-hx,gdQ,geQ hk]; rfl
 rw [List.take_add_one,e,List.filter_append]
 simp only [Option.toList_some,List.filter_cons,List.filter_nil]
theorem take_filter_true {l:List It} {x:It} {k:Nat} {f:It->Bool} (hx:l.getD k (0,0)=x) (hk:k < l.length) (hT:f x=true):(l.take (k + 1)).filter f=(l.take k).filter f ++ [x]:=by rw [take_filter_succ hx hk,if_pos hT]
theorem take_filter_false {l:List It} {x:It} {k:Nat} {f:It->Bool} (hx:l.getD k (0,0)=x) (hk:k < l.length) (hT:f x=false):(l.take (k + 1)).filter f=(l.take k).filter f:=by rw [take_filter_succ hx hk,hT]; simp
set_option maxRecDepth 100000 in
set_option maxHeartbeats 8000000 in
theorem closed_any {G:GD} {gv:Value} {w:World} (h:Gram w gv G) (hv:validB G=true) (v:Value) (l:List It) (hl:ItemsAt w v l) (hn:l.length<=100000) :
  Calls Tryz.prog 62 #[gv,v] w (ClosedP G l w):=by
 obtain ⟨tv,ov,sv,pv,tf,rv,hgr⟩:=h
 have hgv:=hgr.eq
 have HGr:=hid (show Gram w gv G from ⟨tv,ov,sv,pv,tf,rv,hgr⟩)
 have HV:=hid hv
 subst hgv
 have hsv:=hgr.sorts
 obtain ⟨so,sc,rfl,_⟩:=hsv
 have hvs:=valid_parts hv
 obtain ⟨ns,hns⟩:=nmQ (G.sorts.length)
 obtain ⟨np,hnp⟩:=nmQ (G.prods.length)
 have HNS:=hid hns
 have HNP:=hid hnp
 have hns60:ns<=60:=by rw [<-hns]; exact hvs.2.1
 have hnp120:np<=120:=by rw [<-hnp]; exact hvs.2.2.1
 have HL:=hid hl
 have hl':=hl
 obtain ⟨vo,vc,rfl,hvn,_⟩:=hl'
 obtain ⟨n,hln⟩:=nmQ (l.length)
 have HLN:=hid hln
 rw [hln] at HL hn ⊢
 rw [hns] at HGr ⊢
 obtain ⟨w1,e1⟩:=nmQ (w.alloc (.cells #[tv,ov,.slice so ns sc,pv,.int .i64 G.start] 27))
 obtain ⟨w2,e2⟩:=nmQ (w1.alloc (.cells (Array.replicate (n * 2) (.int .i64 0)) 60))
 obtain ⟨w3,e3⟩:=nmQ (w2.alloc (.cells #[.slice none 0 0] 45))
 have hb1:Below w.heap.size w w1:=baQ e1
 have hb2:Below w1.heap.size w1 w2:=baQ e2
 have hb3:Below w2.heap.size w2 w3:=baQ e3
 have s1:w1.heap.size=w.heap.size + 1:=by rw [<-e1]; simp
 have s2:w2.heap.size=w1.heap.size + 1:=by rw [<-e2]; simp
 have s3:w3.heap.size=w2.heap.size + 1:=by rw [<-e3]; simp
 have n1:w1.heap[w.heap.size]?=some (.cells #[tv,ov,.slice so ns sc,pv,.int .i64 G.start] 27 (0,0)):=nbQ e1
 have n2:w2.heap[w1.heap.size]?=some (.cells (Array.replicate (n * 2) (.int .i64 0)) 60 (0,0)):=nbQ e2
 have n3:w3.heap[w2.heap.size]?=some (.cells #[.slice none 0 0] 45 (0,0)):=nbQ e3
 have c3:w3.cell? ⟨w2.heap.size,0,none⟩=some (.slice none 0 0):=cell1 n3
 have f3:=foQ n3 0
 obtain ⟨w4,e4⟩:=nmQ (w3.setCell ⟨w2.heap.size,0,none⟩ (.slice (some ⟨w1.heap.size,0,none⟩) 0 n))
 have n4:w4.heap[w2.heap.size]?=some (.cells #[.slice (some ⟨w1.heap.size,0,none⟩) 0 n] 45 (0,0)):=hsQ e4 n3
 have s4:w4.heap.size=w3.heap.size:=by rw [<-e4]; simp
 have hk4:∀ q,q ≠ w2.heap.size->w4.heap[q]?=w3.heap[q]?:=fun q hq=>by rw [<-e4]; exact Below.heap_setCell _ _ _ _ hq
 have hb4:Below w.heap.size w w4:=by
  rw [<-e4]
  exact ((hb1.trans (hb2.mono (by omega))).trans (hb3.mono (by omega))).setCell (by show w.heap.size<=w2.heap.size; omega) _
 have m1:w4.heap[w.heap.size]?=some (.cells #[tv,ov,.slice so ns sc,pv,.int .i64 G.start] 27 (0,0)):=(hk4 _ (by omega)).trans ((hb3.block _ (by omega)).trans ((hb2.block _ (by omega)).trans n1))
 have m2:w4.heap[w1.heap.size]?=some (.cells (Array.replicate (n * 2) (.int .i64 0)) 60 (0,0)):=(hk4 _ (by omega)).trans ((hb3.block _ (by omega)).trans n2)
 have HO0:Hid (Out w w4 w2.heap.size [] w1.heap.size n):=hid ⟨n4,⟨by simp [icells],.inr ⟨_,_,Array.replicate (n * 2) (.int .i64 0),rfl,by omega,m2,by simp,(by unfold maxLen; omega),by simp,by simp [icells]⟩⟩,by omega,hb4,by omega⟩
 have HM1:=hid m1
 have MADE:=made_items n (by omega) w1
 rw [e2] at MADE
 have le1:w.heap.size < w1.heap.size:=by omega
 have le2:w1.heap.size < w2.heap.size:=by omega
 have le4:w2.heap.size < w4.heap.size:=by omega
 have HK4:=hid (KeptT.refl w4.heap.size [w2.heap.size,w1.heap.size] w4)
 clear hgr hvn hl hv hvs hns hnp hb1 hb2 s1 s2 s3 s4 hk4 m1 m2 n1 n2 n4 hb4
 refine (callsIn_wide (n:=6)).1 ?_
 refine callsIn_of_wp_marks Tryz.func62 rfl trivial ?_ rfl
 refine wpIn_wide.2 ?_
 simp only [Tryz.ntmps62,List.size_toArray,List.length_cons,List.length_nil,Nat.reduceAdd,Nat.reduceSub,Array.replicate_succ,Array.replicate_zero,List.push_toArray,List.append_toArray,List.nil_append,List.cons_append]
 go_wp2_with fail
 clear c3 f3 MADE e1 e2 e3 e4 hb3 n3
 go_loopw [7,18] (fun t7 t18 wr=>∃ (k g c:Nat),k<=n/\t18=.int .i64 (k:Int)/\Hid (Out w wr w2.heap.size ((l.take k).filter (thereX G)) g c)/\Hid (g=w1.heap.size\/w4.heap.size<=g)/\Hid (KeptT w4.heap.size [w2.heap.size,w1.heap.size] w4 wr)) (fun _ t18 _=>n - (intOf t18).toNat)
 case atStart=>exact ⟨0,w1.heap.size,n,Nat.zero_le _,rfl,HO0,hid (.inl rfl),HK4⟩
 case round =>
  obtain ⟨k,g,c,hk,rfl,HO,HG,HK⟩:=hrel
  by_cases hlt:k < n
  ·have t1:(k:Int) < (n:Int):=by omega
   have t2:(0:Int)<=(k:Int):=by omega
   have hkl:k < l.length:=by rw [HLN.out]; exact hlt
   have hle:=HK.out.size
   have hbx:=HO.out.bel
   obtain ⟨ro',rc',hro,_,hcs⟩:=HL.out
   injection hro with hro1 hro2 hro3
   subst hro1
   obtain ⟨lb,lo,rfl,hcq⟩:=hcs (by omega)
   obtain ⟨q0,q1⟩:=hcq k hkl
   have q0:=cell_below hbx q0
   have q1:=cell_below hbx q1
   obtain ⟨x,hx⟩:=nmQ (l.getD k (0,0))
   have HX:=hid hx
   rw [hx] at q0 q1
   obtain ⟨wx,ex⟩:=nmQ (wr.alloc (.cells #[.int .i64 0,.int .i64 0] 60))
   have nx:wx.heap[wr.heap.size]?=some (.cells #[.int .i64 0,.int .i64 0] 60 (0,0)):=nbQ ex
   obtain ⟨wa,ea⟩:=nmQ (wx.setCell ⟨wr.heap.size,0,none⟩ (.int .i64 x.1))
   obtain ⟨wb,eb⟩:=nmQ (wa.setCell ⟨wr.heap.size,1,none⟩ (.int .i64 x.2))
   have na:wa.heap[wr.heap.size]?=some (.cells #[.int .i64 x.1,.int .i64 0] 60 (0,0)):=hsQ ea nx
   have nb:wb.heap[wr.heap.size]?=some (.cells #[.int .i64 x.1,.int .i64 x.2] 60 (0,0)):=hsQ eb na
   have hbb:Below wr.heap.size wr wb:=by
    rw [<-eb,<-ea,<-ex]
    exact ((((Below.refl _ _).alloc (Nat.le_refl _) _).setCell (Nat.le_refl _) _).setCell (Nat.le_refl _) _)
   have c0:wx.cell? ⟨wr.heap.size,0,none⟩=some (.int .i64 0):=coQ nx 0
   have f0:=foQ nx 0
   have c1:wa.cell? ⟨wr.heap.size,1,none⟩=some (.int .i64 0):=coQ na 1
   have f1:=foQ na 1
   have d0:wb.cell? ⟨wr.heap.size,0,none⟩=some (.int .i64 x.1):=coQ nb 0
   have d1:wb.cell? ⟨wr.heap.size,1,none⟩=some (.int .i64 x.2):=coQ nb 1
   have hO2:=HO.out.below hbb
   have hK2:=HK.out.below hle hbb
   have hG2:wb.heap[w.heap.size]?=some (.cells #[tv,ov,.slice so ns sc,pv,.int .i64 G.start] 27 (0,0)):=(hK2.block _ (by omega) (by simp; omega)).trans HM1.out
   obtain ⟨b0,b1,b2,b3,b4⟩:=cells5 hG2
   have KT:=hid (there_any (HGr.out.below hO2.bel) HV.out x)
   have HO2:=hid hO2
   have HK2:=hid hK2
   have HNB:=hid nb
   have hsb:=hbb.size
   unfold itV at KT
   clear hcs hcq hx nx na nb hbb hO2 hK2 hG2 hbx HO HK hro2 hro3
   go_wp2_with fail
   refine KT.out.mono ?_
   rintro e w5 ⟨rfl,hb5⟩
   clear b0 b1 b2 b3 b4 d0 d1 c0 c1 f0 f1 q0 q1 ex ea eb KT
   have HO5:=hid (HO2.out.below hb5)
   have HK5:=hid (HK2.out.below (by omega) hb5)
   have n5:w5.heap[wr.heap.size]?=some (.cells #[.int .i64 x.1,.int .i64 x.2] 60 (0,0)):=(hb5.block _ (ltQ HNB.out)).trans HNB.out
   have hs5:=hb5.size
   clear hb5 HO2 HK2 HNB
   cases hT:thereX G x
   ·have HO6:=hid (show Out w w5 w2.heap.size ((l.take (k + 1)).filter (thereX G)) g c from by
     rw [take_filter_false HX.out hkl hT]; exact HO5.out)
    go_wp2_with fail
    refine ⟨⟨k + 1,g,c,by omega,rfl,HO6,HG,HK5⟩,?_⟩
    show n - ((k:Int) + 1).toNat < n - ((k:Int)).toNat
    omega
   ·obtain ⟨O,hO⟩:=nmQ ((l.take k).filter (thereX G))
    have HOE:=hid hO
    rw [hO] at HO5
    have d0:w5.cell? ⟨wr.heap.size,0,none⟩=some (.int .i64 x.1):=coQ n5 0
    have d1:w5.cell? ⟨wr.heap.size,1,none⟩=some (.int .i64 x.2):=coQ n5 1
    have cb:w5.cell? ⟨w2.heap.size,0,none⟩=some (.slice (some ⟨g,0,none⟩) O.length c):=cell1 HO5.out.box
    obtain ⟨w6,e6⟩:=nmQ (w5.alloc (.cells #[.int .i64 x.1,.int .i64 x.2] 60))
    have hb6:Below w5.heap.size w5 w6:=baQ e6
    have HN6:=hid (show w6.heap[w5.heap.size]?=some (.cells #[.int .i64 x.1,.int .i64 x.2] 60 (0,0)) from by rw [<-e6]; exact new_block _ _)
    have HO6:=hid (HO5.out.below hb6)
    have HK6:=hid (HK5.out.below (by omega) hb6)
    have hle6:=HO6.out.bel.size
    have hs6:=hb6.size
    have hOl:O.length<=k:=by
     rw [<-hO]
     exact Nat.le_trans (List.length_filter_le _ _) (by rw [List.length_take]; omega)
    clear hb6 hO n5
    go_wp2_with (at_builtin; refine wpList_push37 rfl (.tmp 25) (.tmp 27) rfl w.heap.size (.slice (some ⟨g,0,none⟩) O.length c) O.length (icells O) rfl HO6.out.own w5.heap.size rfl x.1 x.2 HN6.out (by omega) hle6 ?_)
    intro v7 w7 hown hg hat
    obtain ⟨g7,c7,rfl,hb7,hO7,hg7,hk7⟩:=HO6.out.push hown hg hat
    have cb7:w7.cell? ⟨w2.heap.size,0,none⟩=some (.slice (some ⟨g,0,none⟩) O.length c):=cell1 hb7
    have fb7:=foQ hb7 0
    have HO7:=hid (show Out w (w7.setCell ⟨w2.heap.size,0,none⟩ (.slice (some ⟨g7,0,none⟩) (O.length + 1) c7)) w2.heap.size ((l.take (k + 1)).filter (thereX G)) g7 c7 from by
     rw [take_filter_true HX.out hkl hT,HOE.out]; exact hO7)
    have hl7:((l.take (k + 1)).filter (thereX G)).length=O.length + 1:=by rw [take_filter_true HX.out hkl hT,HOE.out,List.length_append]; rfl
    have HG7:=hid (show g7=w1.heap.size\/w4.heap.size<=g7 from by
     rcases hg7 with e | e
     ·rw [e]; exact HG.out
     ·right; omega)
    have HK7:=hid (HK6.out.trans (hk7 w4.heap.size [w2.heap.size,w1.heap.size] (by omega) (by simp) (HG.out.imp (fun e=>by simp [e]) id)))
    clear hown hg hat hb7 hO7 hg7 hk7 e6 cb d0 d1
    go_wp2_with fail
    refine ⟨⟨k + 1,g7,c7,by omega,rfl,HO7,HG7,HK7⟩,?_⟩
    show n - ((k:Int) + 1).toNat < n - ((k:Int)).toNat
    omega
  ·have t1:¬ (k:Int) < (n:Int):=by omega
   have hkn:k=n:=by omega
   have HOF:=hid (show Out w wr w2.heap.size (l.filter (thereX G)) g c from by
    have h1:=HO.out
    rw [hkn,<-HLN.out,List.take_length] at h1
    exact h1)
   have hle:=HK.out.size
   have hG2:wr.heap[w.heap.size]?=some (.cells #[tv,ov,.slice so ns sc,pv,.int .i64 G.start] 27 (0,0)):=(HK.out.block _ (by omega) (by simp; omega)).trans HM1.out
   have HGB:=hid hG2
   have b2:wr.cell? ⟨w.heap.size,2,none⟩=some (.slice so ns sc):=coQ hG2 2
   obtain ⟨bb,hbb⟩:=nmQ (wr.heap.size)
   obtain ⟨w8,e8⟩:=nmQ (wr.alloc (.cells (Array.replicate ns (.bool false)) 4))
   have hb8:Below wr.heap.size wr w8:=baQ e8
   have n8:w8.heap[bb]?=some (.cells (Array.replicate ns (.bool false)) 4 (0,0)):=by rw [<-e8,<-hbb]; exact new_block _ _
   have hrep:Array.replicate ns (Value.bool false)=(Array.range G.sorts.length).map fun k=>.bool ((fun _=>false) k):=by
    rw [HNS.out]
    refine Array.ext (by simp) fun j h1 h2=>by simp
   have hglt:=HOF.out.lt
   have HI0:=hid (show InvS G l w w8 w.heap.size w2.heap.size bb #[tv,ov,.slice so ns sc,pv,.int .i64 G.start] (l.filter (thereX G)) g c (fun _=>false) 0 [] from
    ⟨HOF.out.below hb8,(hb8.block _ (by omega)).trans HGB.out,by rw [<-hrep]; exact n8,clos_start G l,by rw [cntB_none]; exact List.length_filter_le _ _,Nat.zero_le _,(by
     rcases HG.out with e | e
     ·omega
     ·omega),by omega,List.nodup_nil,(fun D hD=>by cases hD),fun D hD=>by cases hD⟩)
   have MADEB:=made_bools ns (by omega) wr
   rw [e8,hbb] at MADEB
   have lbb:w2.heap.size < bb:=by omega
   clear HOF HGB hG2 e8 hb8 n8 hrep hglt
   go_wp2_with fail
   clear MADEB b2
   refine wp_loop (fun a wz=>∃ (i g c:Nat) (O:List It) (begun:Nat->Bool) (ds:List Nat),Hid (InvS G l w wz w.heap.size w2.heap.size bb #[tv,ov,.slice so ns sc,pv,.int .i64 G.start] O g c begun i ds)/\∃ (u3 u6 u7 u10 u11 u12 u13 u14 u15 u16 u17 u18 u19 u20 u21 u22 u23 u24 u25 u26 u27 u28 u29 u30 u31 u32 u33 u34 u35 u36 u37 u38 u39 u40 u41 u42 u43 u44 u45 u46 u47 u48 u49 u50 u51 u52 u53 u54 u55 u56 u57 u58 u59 u60 u61 u62 u63 u64 u65 u66 u67 u68 u69 u70 u71 u72 u73 u74 u75 u76:Value),a={tmps:=#[.agg #[tv,ov,.slice so ns sc,pv,.int .i64 G.start],.slice vo n vc,.pointer (some ⟨w.heap.size,0,none⟩),u3,.slice none 0 0,.pointer (some ⟨w2.heap.size,0,none⟩),u6,u7,.slice (some ⟨bb,0,none⟩) ns ns,.int .i64 (i:Int),u10,u11,u12,u13,u14,u15,u16,u17,u18,u19,u20,u21,u22,u23,u24,u25,u26,u27,u28,u29,u30,u31,u32,u33,u34,u35,u36,u37,u38,u39,u40,u41,u42,u43,u44,u45,u46,u47,u48,u49,u50,u51,u52,u53,u54,u55,u56,u57,u58,u59,u60,u61,u62,u63,u64,u65,u66,u67,u68,u69,u70,u71,u72,u73,u74,u75,u76],defers:=ds.map markD}) (fun a _=>l.length + np + 1 - (intOf (a.tmps.getD 9 undef)).toNat) ?start ?round
   case start =>
    refine ⟨0,g,c,_,_,[],HI0,?_⟩
    (repeat apply Exists.intro)
    rfl
   case round =>
    rintro _ wz ⟨i,g1,c1,O,begun,ds,HI,u3,u6,u7,u10,u11,u12,u13,u14,u15,u16,u17,u18,u19,u20,u21,u22,u23,u24,u25,u26,u27,u28,u29,u30,u31,u32,u33,u34,u35,u36,u37,u38,u39,u40,u41,u42,u43,u44,u45,u46,u47,u48,u49,u50,u51,u52,u53,u54,u55,u56,u57,u58,u59,u60,u61,u62,u63,u64,u65,u66,u67,u68,u69,u70,u71,u72,u73,u74,u75,u76,rfl⟩
    clear HI0
    have hout:=HI.out.out
    have cb:=cell1 hout.box
    have hOl:O.length<=n + np:=by
     have h1:=HI.out.len
     have h2:=cntB_le G begun
     rw [HLN.out] at h1
     rw [HNP.out] at h2
     omega
    have hrow:=RowH.of_own hout.own rfl
    have hgl:=hout.lt
    have hcap:=hout.cap
    have HCAP:=hid hcap
    have HOUT:=hid hout
    by_cases hiO:i < O.length
    ·have t3:(i:Int) < (O.length:Int):=by omega
     have t4:(0:Int)<=(i:Int):=by omega
     obtain ⟨x,hx⟩:=nmQ (O[i])
     have HX:=hid (show O[i]?=some x from by rw [<-hx]; exact geQ hiO)
     have hxO:x ∈ O:=by rw [<-hx]; exact List.getElem_mem hiO
     have ht:=(HI.out.clos.inn x hxO).there
     obtain ⟨q0,q1,_,_⟩:=hrow i hiO
     rw [hx] at q0 q1
     have HB0:Hid (∀ w',Below wz.heap.size wz w'->w'.cell? ⟨w.heap.size,0,none⟩=some tv):=hid fun w' hC=>cell_below hC (coQ HI.out.box 0)
     have HB1:Hid (∀ w',Below wz.heap.size wz w'->w'.cell? ⟨w.heap.size,1,none⟩=some ov):=hid fun w' hC=>cell_below hC (coQ HI.out.box 1)
     have HB2:Hid (∀ w',Below wz.heap.size wz w'->w'.cell? ⟨w.heap.size,2,none⟩=some (.slice so ns sc)):=hid fun w' hC=>cell_below hC (coQ HI.out.box 2)
     have HB3:Hid (∀ w',Below wz.heap.size wz w'->w'.cell? ⟨w.heap.size,3,none⟩=some pv):=hid fun w' hC=>cell_below hC (coQ HI.out.box 3)
     have HB4:Hid (∀ w',Below wz.heap.size wz w'->w'.cell? ⟨w.heap.size,4,none⟩=some (.int .i64 G.start)):=hid fun w' hC=>cell_below hC (coQ HI.out.box 4)
     have HCB:Hid (∀ w',Below wz.heap.size wz w'->w'.cell? ⟨w2.heap.size,0,none⟩=some (.slice (some ⟨g1,0,none⟩) O.length c1)):=hid fun w' hC=>cell_below hC cb
     have HX0:Hid (∀ w',Below wz.heap.size wz w'->w'.cell? ⟨g1,i * 2,none⟩=some (.int .i64 x.1)):=hid fun w' hC=>cell_below hC q0
     have HX1:Hid (∀ w',Below wz.heap.size wz w'->w'.cell? ⟨g1,i * 2 + 1,none⟩=some (.int .i64 x.2)):=hid fun w' hC=>cell_below hC q1
     obtain ⟨sy,hsy⟩:=nmQ ((behX G x).getD 0)
     obtain ⟨ok,hok⟩:=nmQ ((behX G x).isSome)
     have KB:Hid (∀ w',Below wz.heap.size wz w'->Calls Tryz.prog 65 #[.agg #[tv,ov,.slice so ns sc,pv,.int .i64 G.start],.agg #[.int .i64 x.1,.int .i64 x.2]] w' fun e w''=>e=.returned (.tuple #[.int .i64 sy,.bool ok])/\Below w'.heap.size w' w''):=hid fun w' hC=>by
      have h0:=behind_any ((HGr.out.below HOUT.out.bel).below hC) HV.out x ht
      unfold BehP at h0
      rw [hsy,hok] at h0
      exact h0
     have HSY:=hid hsy
     have HOK:=hid hok
     clear hsy hok hrow hx hxO ht q0 q1 hcap hout
     go_wp2_with fail
     refine wp_region_below (by kernel_rfl) (by kernel_rfl) ?_
     repeat (first
               | (refine BigFrame.wpQuiet_skip (by rfl) ?_; try simp only [Act.put,List.setIfInBounds_toArray,List.set_cons_zero,List.set_cons_succ])
               | (refine BigFrame.wpQuiet_want (by rfl) (fun K hK=>?_)
                  apply Exists.intro
                  refine ⟨fun w' hC=>?_,hK _ ?_⟩
                  . first
                     | (have f0':=HB0.out w' hC
                        have f1':=HB1.out w' hC
                        have f2':=HB2.out w' hC
                        have f3':=HB3.out w' hC
                        have f4':=HB4.out w' hC
                        have f5':=HCB.out w' hC
                        have f6':=HX0.out w' hC
                        have f7':=HX1.out w' hC
                        unfold Oper.quietAt
                        go_simp
                        first
                          | with_reducible rfl
                          | done
                          | with_reducible exact below_call hC (Nat.le_refl _) (KB.out w' hC))
                  clear hK K
                  try simp only [Act.put,List.setIfInBounds_toArray,List.set_cons_zero,List.set_cons_succ]))
     refine wpQuiet_nil ?_
     intro w6 hb6
     have HI6:=hid (HI.out.below hb6)
     clear hb6 HB0 HB1 HB2 HB3 HB4 HCB HX0 HX1 KB HOUT HI cb
     rcases hB:behX G x with _ | s
     ·rw [hB] at HSY HOK
      obtain rfl:(0:Int)=sy:=HSY.out
      obtain rfl:false=ok:=HOK.out
      have HI7:=hid (show InvS G l w w6 w.heap.size w2.heap.size bb #[tv,ov,.slice so ns sc,pv,.int .i64 G.start] O g1 c1 begun (i + 1) ds from
       {HI6.out with clos:=HI6.out.clos.skip HX.out (fun s hs=>by rw [hB] at hs; cases hs),le:=hiO})
      go_wp2_with fail
      refine ⟨⟨i + 1,g1,c1,O,begun,ds,HI7,?_⟩,?_⟩
      ·first
         | ((repeat apply Exists.intro); rfl)
         | exact ⟨rfl,rfl⟩
      ·first
         | (show l.length + np + 1 - ((i:Int) + 1).toNat < l.length + np + 1 - ((i:Int)).toNat; omega)
         | (show n + np + 1 - ((i:Int) + 1).toNat < n + np + 1 - ((i:Int)).toNat; omega)
     ·rw [hB] at HSY HOK
      obtain rfl:s=sy:=HSY.out
      obtain rfl:true=ok:=HOK.out
      by_cases hs0:0<=s
      ·have HI7:=hid (show InvS G l w w6 w.heap.size w2.heap.size bb #[tv,ov,.slice so ns sc,pv,.int .i64 G.start] O g1 c1 begun (i + 1) ds from
        {HI6.out with clos:=HI6.out.clos.skip HX.out (fun s' hs hs1=>by rw [hB] at hs; injection hs with hs; omega),le:=hiO})
       go_wp2_with fail
       refine ⟨⟨i + 1,g1,c1,O,begun,ds,HI7,?_⟩,?_⟩
       ·first
          | ((repeat apply Exists.intro); rfl)
          | exact ⟨rfl,rfl⟩
       ·first
          | (show l.length + np + 1 - ((i:Int) + 1).toNat < l.length + np + 1 - ((i:Int)).toNat; omega)
          | (show n + np + 1 - ((i:Int) + 1).toNat < n + np + 1 - ((i:Int)).toNat; omega)
      ·have hbs:=beh_sort HV.out hB (by omega)
       rw [HNS.out] at hbs
       obtain ⟨t,hst⟩:∃ t:Nat,-1 - s=(t:Int):=⟨(-1 - s).toNat,by omega⟩
       have HST7:=hid hst
       have htn:t < ns:=by omega
       have t5:(t:Int) < (ns:Int):=by omega
       have t6:(0:Int)<=(t:Int):=by omega
       have ct:w6.cell? ⟨bb,t,none⟩=some (.bool (begun t)):=by
        rw [coQ HI6.out.bools]
        have hlt:t < G.sorts.length:=by rw [HNS.out]; exact htn
        simp [hlt]
       cases hbt:begun t
       ·rw [hbt] at ct
        have ft:w6.frozen? ⟨bb,t,none⟩=false:=foQ HI6.out.bools t
        have hmk:=HI6.out.mark t (by omega) (by omega) (by omega)
        obtain ⟨w7,e7⟩:=nmQ (w6.setCell ⟨bb,t,none⟩ (.bool true))
        rw [e7] at hmk
        have HMK:=hid hmk
        obtain ⟨b0,b1,b2,b3,b4⟩:=cells5 hmk.2.1
        have HBT:=hid hbt
        have HBB:=hid hB
        have HLE:=hid hiO
        obtain ⟨wS,eS⟩:=nmQ ((w7.alloc (.cells #[tv,ov,.slice so ns sc,pv,.int .i64 G.start] 27)).alloc (.cells #[.int .i64 (t:Int)] 3))
        have hbS:Below w7.heap.size w7 wS:=by rw [<-eS]; exact ((Below.refl _ _).alloc (Nat.le_refl _) _).alloc (by simp) _
        have sS:wS.heap.size=w7.heap.size + 2:=by rw [<-eS]; simp
        have nG:wS.heap[w7.heap.size]?=some (.cells #[tv,ov,.slice so ns sc,pv,.int .i64 G.start] 27 (0,0)):=by
         rw [<-eS]
         exact (Below.heap_alloc _ _ _ (by simp)).trans (new_block _ _)
        have nT:wS.heap[w7.heap.size + 1]?=some (.cells #[.int .i64 (t:Int)] 3 (0,0)):=by
         rw [<-eS]
         have h9:=new_block (w7.alloc (.cells #[tv,ov,.slice so ns sc,pv,.int .i64 G.start] 27)) (.cells #[.int .i64 (t:Int)] 3)
         rwa [World.size_alloc] at h9
        have HO7:=hid (hmk.1.below hbS)
        have hlt7:=hmk.1.lt
        have SEQ:=hid (begins_seq 5 (by decide) w HGr.out (by rw [HNP.out]; omega) [w2.heap.size,g1] w7.heap.size (w7.heap.size + 1) t wS HO7.out.bel nG nT (fun b hb=>by
         simp only [List.mem_cons,List.not_mem_nil,or_false] at hb
         rcases hb with e | e <;> rw [e] <;> exact ⟨by omega,by omega,by omega⟩) HO7.out.bel.size)
        have HMS:=hid (And.intro ((hbS.block _ (ltQ hmk.2.1)).trans hmk.2.1) (And.intro ((hbS.block _ (ltQ hmk.2.2.1)).trans hmk.2.2.1) (fun D hD=>(hbS.block _ (Array.getElem?_eq_some_iff.1 (hmk.2.2.2 D hD)).1).trans (hmk.2.2.2 D hD))))
        have HLB:=hid (And.intro (ltQ hmk.2.1) (And.intro (ltQ hmk.2.2.1) (fun D hD=>(Array.getElem?_eq_some_iff.1 (hmk.2.2.2 D hD)).1)))
        have HSS:=hid sS
        have hst':=HST7.out
        clear hmk hbt hB hbS sS nG nT hlt7 hst'
        go_wp2_with fail
        refine (callsIn_wide (n:=6)).1 ((begins_in 6 _ _ _ _ _ _ _).mono ?_)
        rintro e w9 ⟨rfl,hw9⟩
        have hw9':w9=wS:=hw9.trans eS
        subst hw9'
        clear b0 b1 b2 b3 b4 ct ft hw9 eS e7
        go_wp2_with fail
        refine (wpIn_wide (n:=6)).1 ?_
        refine wpIn_rangeFunc_ownH (n:=6) rfl (by decide) (gf:=127) (lb:=#[.pointer (some ⟨w7.heap.size,0,none⟩),.pointer (some ⟨w7.heap.size + 1,0,none⟩)]) rfl trivial (enters_of Tryz.func127 (by kernel_rfl) rfl) SEQ.out
         (fun h k=>h.trans k)
         (fun W l' o o' hl' ho hc hw=>⟨rfl,rfl,rfl,by simp,fun g hg _=>World.putObj_heap_other (by omega)⟩)
         (Below.refl _ _) (fun _=>rfl)
         (BgI w w9 w2.heap.size g1 O) (fun _ _ _=>False) (bgI_own HO7.out.bel.size) (fun _ _ _ _ _ hs _ _=>hs) ⟨g1,c1,by rw [List.append_nil]; exact HO7.out,KeptT.refl _ _ _,.inl rfl⟩
         (fun x a' W=>∃ (Bx:Nat),W.heap[Bx]?=some (.cells #[.int .i64 x.1,.int .i64 x.2] 60 (0,0))/\∃ (u0 u1 u2 u3 u4 u6 u7 u8 u9 u10 u11 u13 u14 u15 u16 u17 u18 u19 u20 u21 u22 u23 u24 u25 u26 u27 u28 u29 u30 u31 u32 u33 u34 u35 u36 u37 u38 u39 u40 u41 u42 u43 u44 u45 u46 u47 u48 u49 u50 u51 u52 u53 u54 u55 u56 u57 u58 u59 u60 u61 u62 u63 u64 u65 u66 u67 u68 u69 u70 u71 u72 u73 u74 u75 u76:Value),a'={tmps:=#[u0,u1,u2,u3,u4,.pointer (some ⟨w2.heap.size,0,none⟩),u6,u7,u8,u9,u10,u11,.pointer (some ⟨Bx,0,none⟩),u13,u14,u15,u16,u17,u18,u19,u20,u21,u22,u23,u24,u25,u26,u27,u28,u29,u30,u31,u32,u33,u34,u35,u36,u37,u38,u39,u40,u41,u42,u43,u44,u45,u46,u47,u48,u49,u50,u51,u52,u53,u54,u55,u56,u57,u58,u59,u60,u61,u62,u63,u64,u65,u66,u67,u68,u69,u70,u71,u72,u73,u74,u75,u76],defers:=[]})
         (fun x a' s A C row ⟨Bx,hb,e⟩ hg hr=>⟨Bx,(hg.block Bx (ltQ hb) (fun e=>by
          obtain ⟨_,o,ho,hc⟩:=hr Bx e.symm
          rw [hb] at ho; obtain rfl:=Option.some.inj ho; cases hc)).trans hb,e⟩) ?assign ?body ?done ?stop
        case assign =>
         intro l' pre y W KK hi hK
         have HI8:=hid hi
         have HKK:=hid hK
         clear hi hK
         unfold encB
         gi_wp2
         obtain ⟨g8,c8,h81,h82,h83⟩:=HI8.out
         have hz:=h82.size
         refine HKK.out _ _ ((KeepsOthers.alloc _ _).from _) ⟨rfl,rfl,rfl,by simp,fun q hq _=>Below.heap_alloc _ _ _ (by omega)⟩ ((bgI_own HO7.out.bel.size).alloc _ HI8.out) ⟨W.heap.size,new_block _ _,?_⟩
         (repeat apply Exists.intro)
         rfl
        case body =>
         rintro l' pre y a' W hl' ⟨r,hr⟩ ⟨g8,c8,h81,h82,h83⟩ ⟨Bx,hbx,v0,v1,v2,v3,v4,v6,v7,v8,v9,v10,v11,v13,v14,v15,v16,v17,v18,v19,v20,v21,v22,v23,v24,v25,v26,v27,v28,v29,v30,v31,v32,v33,v34,v35,v36,v37,v38,v39,v40,v41,v42,v43,v44,v45,v46,v47,v48,v49,v50,v51,v52,v53,v54,v55,v56,v57,v58,v59,v60,v61,v62,v63,v64,v65,v66,v67,v68,v69,v70,v71,v72,v73,v74,v75,v76,rfl⟩ hlt
         have d0:W.cell? ⟨Bx,0,none⟩=some (.int .i64 y.1):=coQ hbx 0
         have d1:W.cell? ⟨Bx,1,none⟩=some (.int .i64 y.2):=coQ hbx 1
         have cb:W.cell? ⟨w2.heap.size,0,none⟩=some (.slice (some ⟨g8,0,none⟩) (O ++ pre).length c8):=cell1 h81.box
         obtain ⟨W6,e6⟩:=nmQ (W.alloc (.cells #[.int .i64 y.1,.int .i64 y.2] 60))
         have hb6:Below W.heap.size W W6:=baQ e6
         have HN6:=hid (show W6.heap[W.heap.size]?=some (.cells #[.int .i64 y.1,.int .i64 y.2] 60 (0,0)) from by rw [<-e6]; exact new_block _ _)
         have HO6:=hid (h81.below hb6)
         have HB6:=hid hb6
         have H82:=hid h82
         have H83:=hid h83
         have hle6:=HO6.out.bel.size
         have hOp:(O ++ pre).length<=1000000:=by
          rw [List.length_append]
          rw [HNP.out] at hlt
          omega
         obtain ⟨OP,hOP⟩:=nmQ (O ++ pre)
         have HOP:=hid hOP
         rw [hOP] at cb hOp HO6
         clear h81 h82 h83 hb6 hbx hr hl' hlt hOP
         gi_wp2_with (gi_at_builtin; refine wpListIn_push37 rfl (.tmp 71) (.tmp 73) rfl w.heap.size (.slice (some ⟨g8,0,none⟩) OP.length c8) OP.length (icells OP) rfl HO6.out.own W.heap.size rfl y.1 y.2 HN6.out hOp hle6 ?_)
         intro v7 W7 hown hg hat
         obtain ⟨g9,c9,rfl,hb9,k1,k2,k3⟩:=bg_push (pre:=pre) (x:=y) (by rw [HOP.out]; exact HO6.out) H82.out HB6.out H83.out (by rw [HOP.out]; exact hown) hg hat
         rw [HOP.out] at hb9
         have cb9:W7.cell? ⟨w2.heap.size,0,none⟩=some (.slice (some ⟨g8,0,none⟩) OP.length c8):=cell1 hb9
         have fb9:=foQ hb9 0
         have HKK:=hid (And.intro k1 (And.intro k2 k3))
         rw [HOP.out] at HKK
         clear hown hg hat hb9 k1 k2 k3 e6 cb d0 d1
         gi_wp2_with fail
         have hfin:=HKK.out
         rw [<-HOP.out,List.length_append] at hfin
         exact hfin
        case done =>
         rintro D' ys W hD rfl ⟨g8,c8,h81,h82,h83⟩ hK
         have hgg:w9.heap.size=w7.heap.size + 2:=HSS.out
         have hg1:=HI6.out.out.lt
         have HI7:=hid (show InvS G l w W w.heap.size w2.heap.size bb #[tv,ov,.slice so ns sc,pv,.int .i64 G.start] (O ++ beginX G t G.prods.length) g8 c8 (fun k=>if k=t then true else begun k) (i + 1) (D' :: ds) from
          { out:=h81
            box:=(h82.block _ (by have:=HLB.out.1; omega) (fun hm=>by
               simp only [List.mem_cons,List.not_mem_nil,or_false] at hm
               rcases hm with e | e
               . omega
               exact HI6.out.gG e.symm)).trans HMS.out.1
            bools:=(h82.block _ (by have:=HLB.out.2.1; omega) (fun hm=>by
               simp only [List.mem_cons,List.not_mem_nil,or_false] at hm
               rcases hm with e | e
               . omega
               exact HI6.out.gb e.symm)).trans HMS.out.2.1
            clos:=HI6.out.clos.begin_ HX.out (by rw [HBB.out]; congr 1; have:=HST7.out; omega)
            len:=by
               rw [List.length_append,cntB_begin HBT.out]
               have:=HI6.out.len
               omega
            le:=by rw [List.length_append]; have:=HLE.out; omega
            gG:=by
               rcases h83 with e | e
               . rw [e]; exact HI6.out.gG
               have:=HLB.out.1; omega
            gb:=by
               rcases h83 with e | e
               . rw [e]; exact HI6.out.gb
               have:=HLB.out.2.1; omega
            nd:=List.nodup_cons.2 ⟨fun hm=>by have:=HLB.out.2.2 D' hm; omega,HI6.out.nd⟩
            dge:=fun D hm=>by
               rcases List.mem_cons.1 hm with e | e
               . have:=HO7.out.bel.size; omega
               exact HI6.out.dge D e
            ds:=fun D hm=>by
               rcases List.mem_cons.1 hm with e | e
               . rw [e]; exact hK
               refine (h82.block _ (by have:=HLB.out.2.2 D e; omega) (fun hm=>?_)).trans (HMS.out.2.2 D e)
               simp only [List.mem_cons,List.not_mem_nil,or_false] at hm
               rcases hm with e2 | e2
               . exact (HI6.out.dne e).2.1 e2
               exact (HI6.out.dne e).1 e2 })
         clear h81 h82 h83 hK
         go_wp2_with fail
         skip
         refine ⟨⟨i + 1,g8,c8,O ++ beginX G t G.prods.length,fun k=>if k=t then true else begun k,D' :: ds,HI7,?_⟩,?_⟩
         ·first
            | ((repeat apply Exists.intro); rfl)
            | exact ⟨rfl,rfl⟩
         ·first
            | (show l.length + np + 1 - ((i:Int) + 1).toNat < l.length + np + 1 - ((i:Int)).toNat; omega)
            | (show n + np + 1 - ((i:Int) + 1).toNat < n + np + 1 - ((i:Int)).toNat; omega)
        case stop =>
         rintro D c pre W _ _ h _
         exact h.elim
       ·rw [hbt] at ct
        have HI7:=hid (show InvS G l w w6 w.heap.size w2.heap.size bb #[tv,ov,.slice so ns sc,pv,.int .i64 G.start] O g1 c1 begun (i + 1) ds from
         {HI6.out with clos:=HI6.out.clos.skip HX.out (fun s' hs hs1=>by rw [hB] at hs; injection hs with hs; rw [<-hs,show (-1 - s).toNat=t by omega]; exact hbt),le:=hiO})
        go_wp2_with fail
        refine ⟨⟨i + 1,g1,c1,O,begun,ds,HI7,?_⟩,?_⟩
        ·first
           | ((repeat apply Exists.intro); rfl)
           | exact ⟨rfl,rfl⟩
        ·first
           | (show l.length + np + 1 - ((i:Int) + 1).toNat < l.length + np + 1 - ((i:Int)).toNat; omega)
           | (show n + np + 1 - ((i:Int) + 1).toNat < n + np + 1 - ((i:Int)).toNat; omega)
    ·have t3:¬ (i:Int) < (O.length:Int):=by omega
     have KR:=hid (rising_any (c:=c1) hrow hgl.2.1 hcap.1 (by omega) hcap.2)
     clear hrow hcap hout
     go_wp2_with fail
     refine KR.out.mono ?_
     rintro e w9 ⟨L,hL1,hL2,hL3,rfl,hL4,hL5⟩
     have HLL:=hid (And.intro hL1 (And.intro hL2 (And.intro hL3 (And.intro hL4 hL5))))
     clear hL1 hL2 hL3 hL4 hL5 KR
     have hii:O.length<=i:=by omega
     have HII:=hid hii
     clear hii
     go_wp2_with fail
     refine leaves_marks ds w9 HI.out.nd (fun D hD=>?_) (fun w' a1 a2 a3 a4 a5=>?_)
     ·exact (HLL.out.2.2.2.2.block D (Array.getElem?_eq_some_iff.1 (HI.out.ds D hD)).1 (HI.out.dne hD).1).trans (HI.out.ds D hD)
     ·have hng:g1 ∉ ds:=fun hm=>(HI.out.dne hm).1 rfl
      have hbel:Below w.heap.size w w9:=KeptX.bel HLL.out.2.2.2.2 HOUT.out.bel HOUT.out.bel.size HOUT.out.lt.1
      refine ⟨_,results_tmp rfl _ _ _,g1,c1,L,⟨HLL.out.1,fun x=>(HLL.out.2.1 x).trans (HI.out.clos.close HII.out x)⟩,rfl,HLL.out.2.2.2.1.kept (a1 g1 hng),HOUT.out.lt.1,?_,?_⟩
      ·rw [a2]; exact Nat.lt_of_lt_of_le HOUT.out.lt.2.1 HLL.out.2.2.2.2.size
      ·refine ⟨a3.trans hbel.os,a4.trans hbel.tape,a5.trans hbel.output,by rw [a2]; exact hbel.size,fun q hq=>(a1 q (fun hm=>?_)).trans (hbel.block q hq)⟩
       have:=HI.out.dge q hm
       omega
end Go.Proofs.YticmnfmijdgmbaaGreatDoor
