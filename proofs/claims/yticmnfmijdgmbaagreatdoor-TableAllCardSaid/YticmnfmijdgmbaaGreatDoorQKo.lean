import Derived.Test.YticmnfmijdgmbaaGreatDoorQJc
set_option linter.all false
set_option maxRecDepth 100000
set_option maxHeartbeats 4000000
namespace Go.Proofs.YticmnfmijdgmbaaGreatDoor.aJ
open Go Go.RowKit Go.Lib
theorem vk {base:Nat}{l:List Nat}{W:World}{v:Value}(h:Listed base l W v):(l=[]/\v=.slice none 0 0)\/∃ g cap,v=.slice (some ⟨g,0,none⟩) l.length cap/\base<=g:=by
 rcases h.1.2 with⟨rfl,h0⟩ | ⟨g,cap,cur,rfl,hb,_⟩
 ·exact .inl ⟨List.eq_nil_of_length_eq_zero h0,rfl⟩
 ·exact .inr ⟨g,cap,rfl,hb⟩
theorem ofN_two (a b:Nat)(ha:a<18446744073709551616)(hb:b<18446744073709551616):BQ (ints (upto a 64++upto b 64))=a ||| b:=by
 refine AC (ES _) (oH ha hb) fun i hi=>?_;rw[vU,Nat.testBit_or,Bool.eq_iff_iff,decide_eq_true_eq,Bool.or_eq_true];simp only[ints,List.mem_map,List.mem_append,J4];constructor
 ·rintro⟨_,j,h,e⟩;obtain rfl:j=i:=by omega
  exact h.imp (·.2) (·.2)
 ·exact fun h=>⟨hi,i,h.imp (⟨hi,·⟩) (⟨hi,·⟩),rfl⟩
theorem nums_append (l m:List Nat):nums (l++m)=nums l++nums m:=by simp[nums]
theorem qA {base:Nat}{l m:List Nat}{W:World}{v:Value}(h:W.ownsRow base 3 1 v (l.length+m.length) (nums l++nums m))(hm:m≠[]):Listed base (l++m) W v:=by
 have hpos:0<m.length:=List.length_pos_iff.2 hm;obtain⟨n,hn⟩:∃ n,m.length=n+1:=⟨m.length-1,by omega⟩;rw[hn,<-Nat.add_assoc]at h;obtain⟨g,cap,rfl⟩:=ownsRow_succ h;refine⟨?_,by simp[hm]⟩;rw[nums_append,List.length_append,hn,<-Nat.add_assoc];exact h
theorem xW (l:List Nat):∀ u∈nums l,u.oneCell'=true:=by
 intro u hu;obtain⟨k,_,rfl⟩:=List.mem_map.1 hu;rfl
theorem nums_length (l:List Nat):(nums l).length=l.length*1:=by simp[nums]
theorem vw {base:Nat}{l:List Nat}{W:World}{g cap:Nat}(h:Listed base l W (.slice (some ⟨g,0,none⟩) l.length cap)):l≠[]:=fun e=>by have:=h.2.2 e;cases this
theorem nH (a b:Nat)(ha:a<18446744073709551616)(hb:b<18446744073709551616)(w:World) :
  Calls Tryz.prog 94 #[u64 a,u64 b] w fun e W'=>e=.returned (u64 (a ||| b))/\Below w.heap.size w W':=by
 obtain⟨i0,hi,hz0,hz1,hz2⟩:=info_parts info3;have hla:=upto_length a 64;have hlb:=upto_length b 64;have kla:=hid fun w=>Aj a ha w;have klb:=hid fun w=>Aj b hb w;have H:=hid (ofN_two a b ha hb);generalize upto a 64=l at *;generalize upto b 64=m at *;generalize a ||| b=S at *;have HE:Hid (∀ (base:Nat) (W:World) (v:Value),Listed base (l++m) W v->Calls Tryz.prog 49 #[v] W fun e w'=>e=.returned (u64 S)/\W=w'):=fun base W v h=>by
  have:=Ai (by simp[ints];omega) h.reads
  rwa [H.o]at this
 clear H;go_enter Tryz.func94,Tryz.ntmps94;go_wp2_with fail;refine(kla.o _).mono ?_;rintro e w1 ⟨va,rfl,hLa,hB⟩;rcases vk hLa with⟨rfl,rfl⟩ | ⟨ga,ca,rfl,hga⟩
 ·go_wp2_with (at_builtin;go_must (refine wpList_append_own_none rfl _ _ 43 rfl w.heap.size 3 i0 1 Tryz.underlying43 hi (.slice none 0 0) _ _ rfl (World.ownsRow_nil w1 w.heap.size 3 1) rfl ?_));refine(klb.o _).mono ?_;rintro e w2 ⟨vb,rfl,hLb,hB2⟩;have hsz:=hB.size;replace hLb:Listed w.heap.size m w2 vb:=⟨Go.Joins.ownsRow_le hLb.1 hsz,hLb.2⟩;replace hB:=hB.trans (hB2.mono hB.size);clear hB2 hsz hLa;have hsz:=hB.size;rcases vk hLb with⟨rfl,rfl⟩ | ⟨gb,cb,rfl,hgb⟩
  ·go_wp2_with (first | (at_builtin;go_must (refine wpList_append_own_none rfl _ _ 43 rfl w.heap.size 3 i0 1 Tryz.underlying43 hi (.slice none 0 0) _ _ rfl (World.ownsRow_nil w2 w.heap.size 3 1) rfl ?_)) | (go_at_call 49;refine(HE.o _ _ _ (listed_nil w.heap.size w2)).mono ?_;rintro e w' ⟨rfl,rfl⟩));go_ret;exact⟨rfl,hB⟩
  ·go_wp2_with (at_builtin;go_must (refine wpList_append_own _ rfl _ _ 43 rfl w.heap.size 3 i0 (.int .i64 0) 1 8 Tryz.underlying43 hi hz0 hz1 hz2 rfl (by decide) _ _ _ rfl (World.ownsRow_nil w2 w.heap.size 3 1) ⟨gb,0,none⟩ m.length cb (nums m) rfl (nums_length m) (hLb.1.cells rfl) (xW m) (by unfold maxLen;simp;omega) (by simp;omega) (by omega) ?_);intro v' w3 hown' hgrow _);have hL3:=qA (l:=[]) (m:=m) (by simpa[nums] using hown') (vw hLb);have hB3:Below w.heap.size w w3:=hB.grown hgrow hsz (fun k e=>by cases e);go_wp2_with (go_at_call 49;refine(HE.o _ _ _ hL3).mono ?_;rintro e w' ⟨rfl,rfl⟩);go_ret;exact⟨rfl,hB3⟩
 ·have hsz:=hB.size;go_wp2_with (at_builtin;go_must (refine wpList_append_own _ rfl _ _ 43 rfl w.heap.size 3 i0 (.int .i64 0) 1 8 Tryz.underlying43 hi hz0 hz1 hz2 rfl (by decide) _ _ _ rfl (World.ownsRow_nil w1 w.heap.size 3 1) ⟨ga,0,none⟩ l.length ca (nums l) rfl (nums_length l) (hLa.1.cells rfl) (xW l) (by unfold maxLen;simp;omega) (by simp;omega) (by omega) ?_);intro va w2 hown2 hgrow2 _);have hLl:Listed w.heap.size l w2 va:=by
   have:=qA (l:=[]) (m:=l) (by simpa[nums] using hown2) (vw hLa);simpa using this
  have hB2:Below w.heap.size w w2:=hB.grown hgrow2 hsz (fun k e=>by cases e);clear hB hLa hown2 hgrow2 hsz;go_wp2_with fail;refine(klb.o _).mono ?_;rintro e w3 ⟨vb,rfl,hLb,hB3⟩;have hsz2:=hB2.size;replace hLb:Listed w.heap.size m w3 vb:=⟨Go.Joins.ownsRow_le hLb.1 hsz2,hLb.2⟩;replace hLl:=hLl.below hB3;have hB:=hB2.trans (hB3.mono hsz2);clear hB2 hB3 hsz2;have hsz:=hB.size;have hrow:=hLl.1;rcases vk hLb with⟨rfl,rfl⟩ | ⟨gb,cb,rfl,hgb⟩
  ·rw[List.append_nil]at HE;go_wp2_with (first | (at_builtin;go_must (refine wpList_append_own_none rfl _ _ 43 rfl w.heap.size 3 i0 1 Tryz.underlying43 hi va _ _ rfl hrow rfl ?_)) | (go_at_call 49;refine(HE.o _ _ _ hLl).mono ?_;rintro e w' ⟨rfl,rfl⟩));go_ret;exact⟨rfl,hB⟩
  ·go_wp2_with (at_builtin;go_must (refine wpList_append_own _ rfl _ _ 43 rfl w.heap.size 3 i0 (.int .i64 0) 1 8 Tryz.underlying43 hi hz0 hz1 hz2 rfl (by decide) _ _ _ rfl hrow ⟨gb,0,none⟩ m.length cb (nums m) rfl (nums_length m) (hLb.1.cells rfl) (xW m) (by unfold maxLen;omega) (by omega) (by omega) ?_);intro v' w4 hown' hgrow _);have hL3:=qA hown' (vw hLb);have hB3:Below w.heap.size w w4:=hB.grown hgrow hsz (fun k e=>(hrow.lt k e).1);go_wp2_with (go_at_call 49;refine(HE.o _ _ _ hL3).mono ?_;rintro e w' ⟨rfl,rfl⟩);go_ret;exact⟨rfl,hB3⟩
end Go.Proofs.YticmnfmijdgmbaaGreatDoor.aJ
/- The document's own answer: with what a row begins. -/
namespace Go.Proofs.YticmnfmijdgmbaaGreatDoor.aJ
open Go Go.RowKit Go.Lib Go.Joins
theorem Hg (s:Int)(w:World)(b:Nat)(h:w.cell? ⟨b,0,none⟩=some (.int .i64 s)):Calls Tryz.prog 49 #[.slice (some ⟨b,0,none⟩) 1 1] w fun e w'=>e=.returned (u64 (aZ s))/\Below w.heap.size w w':=by
 have hr:Reads w (.slice (some ⟨b,0,none⟩) 1 1) [s]:=⟨_,_,rfl,fun _=>⟨b,0,rfl,fun i hi=>by
  obtain rfl:i=0:=by simpa using hi
  simpa using h⟩⟩
 refine(Ai (by simp) hr).mono ?_;rintro e w' ⟨h1,h2⟩;refine⟨by rw[h1];simp[BQ],?_⟩
 first
   | (rw[h2];exact eH _ _)
   | (rw[<-h2];exact eH _ _)
   | exact h2
theorem Eh {G:GD}{gv tv ov sv pv:Value}{tf:Nat->Nat->Value}{rv:Nat->Value}{W:World}(h:nJ W gv G tv ov sv pv tf rv){eb fb b:Nat}{E:List Bool}{F:List Nat}{l:List Int}{lv:Value}
  (hE:W.heap[eb]?=some (.cells (E.map Value.bool).toArray 4)) (hF:W.heap[fb]?=some (.cells (sets F) 69)) (hEl:E.length=G.sorts.length) (hFl:F.length=G.sorts.length) (hFt:∀ x∈F,x<top) (hb:b<top) (hl:dw W lv l) :
  Calls Tryz.prog 123 #[gv,.slice (some ⟨eb,0,none⟩) G.sorts.length G.sorts.length,.slice (some ⟨fb,0,none⟩) G.sorts.length G.sorts.length,lv,u64 b] W fun e W'=>e=.returned (u64 (ofRow G.terms.length E F l b))/\Below W.heap.size W W':=by
 obtain⟨W1,B,hW1,hB,c0,c1,c2,c3,c4,hG,hbb,hsz⟩:=gU h;subst hB;have hgv:=h.eq;have ht:=hG.terms;have hs:=hG.sorts;subst hgv;obtain⟨ta,tc,rfl,htn,_⟩:=ht;obtain⟨sa,sc,rfl,hsn,_⟩:=hs;clear h hG;replace hE:=hid (dh hbb hE);replace hF:=hid (dh hbb hF);have HLR:=hid (hl.mono hbb).2;obtain⟨⟨la,lc,rfl,hln,hlc⟩,_⟩:=hl.mono hbb;have HLC:=hid hlc;clear hl hlc;have hL:=iJ G.terms.length E hFt l hb;have ku:=hid (fun(a c:Nat) ha hc w=>nH a c ha hc w);have hR0:Hid (0 ||| ofRow G.terms.length E F l b=ofRow G.terms.length E F l b):=Nat.zero_or _;generalize G.sorts.length=ns at *;generalize G.terms.length=nt at *;generalize hres:ofRow nt E F l b=R at *;generalize hll:l.length=ll at *;have HM:Hid (∀ k,k<ll->-9223372036854775808<=l.getD k 0/\l.getD k 0<=9223372036854775807):=fun k hk=>HLR.o _ (lu (by omega));have HD:Hid (∀ k,k<ll->l.drop k=l.getD k 0::l.drop (k+1)):=fun k hk=>by
  rw[List.drop_eq_getElem_cons (by omega),dL,dH (by omega)];rfl
 have HLL:=hid hll;clear hll;go_enter Tryz.func123,Tryz.ntmps123;go_wp2_with fail;rw[<-hW1];clear hW1
 go_loopw [11,12] (fun o i wr=>∃ (k a:Nat),k<=ll/\i=.int .i64 (k:Int)/\o=.int .u64 (a:Int)/\a<top/\a ||| ofRow nt E F (l.drop k) b=R/\Below W1.heap.size W1 wr) (fun _ i _=>ll-(RowKit.intOf i).toNat)
 case atStart=>exact⟨0,0,by omega,rfl,rfl,by decide,by rw[List.drop_zero,hres];exact hR0.o,eH _ _⟩
 case round =>
  obtain⟨k,a,hk,rfl,rfl,ha,hr,hBW⟩:=hrel;have d0:=cell_below hBW c0;have d2:=cell_below hBW c2;by_cases hlt:k<ll
  ·obtain⟨lb,lo,rfl,hcc⟩:=HLC.o (by omega);have g1:ay W1 lb (lo+k) (.int .i64 (l.getD k 0)):=hcc k hlt;replace g1:=cell_below hBW g1;obtain⟨m1,m2⟩:=HM.o k hlt;rw[HD.o k hlt]at hr;have hof:ofRow nt E F (l.getD k 0::l.drop (k+1)) b=if 0<=l.getD k 0 then(if l.getD k 0<nt then aZ (l.getD k 0)else 0)else if (F.length:Int)<=-1-l.getD k 0 then 0 else
    F.getD (-1-l.getD k 0).toNat 0 ||| (if E.getD (-1-l.getD k 0).toNat false=true then ofRow nt E F (l.drop (k+1)) b else 0):=rfl
   rw[hof]at hr;clear hof hcc;have i0:(0:Int)<=(k:Int):=by omega
   have i1:(k:Int)<(ll:Int):=by omega
   generalize hrest:ofRow nt E F (l.drop (k+1)) b=rest at *;have HRE:=hid hrest;clear hrest;obtain⟨s,hs⟩:=ai (l.getD k 0);rw[hs]at g1 m1 m2 hr;clear hs;by_cases hs0:0<=s
   ·rw[if_pos hs0]at hr;have hs1:¬ (s<0):=by omega
    have b1:decide (s<0)=false:=dA hs1;have b0:decide (0<=s)=true:=eP hs0;by_cases hst:s<nt
    ·rw[if_pos hst]at hr;have b2:decide ((nt:Int)<=s)=false:=dA (by omega);have HR:=hid hr;clear hr;go_wp2_with fail;refine(Hg s _ _ (by simp)).mono ?_;rintro e w5 ⟨rfl,hB5⟩;have HB5:=hid ((iy (eH _ wr) _).trans (hB5.mono (iy (eH _ wr) _).size));clear hB5;go_wp2_with fail;refine(ku.o a _ ha (jW s) _).mono ?_;rintro e w6 ⟨rfl,hB6⟩;go_wp2;go_ret;exact⟨by rw[<-HR.o]<;>rfl,hbb.trans ((hBW.trans ((HB5.o.trans (hB6.mono HB5.o.size)).mono hBW.size)).mono hsz)⟩
    ·rw[if_neg hst,Nat.or_zero]at hr;have b2:decide ((nt:Int)<=s)=true:=eP (by omega);have HR:=hid hr;clear hr;go_wp2;go_ret;exact⟨by rw[<-HR.o]<;>rfl,hbb.trans (hBW.mono hsz)⟩
   ·rw[if_neg hs0,hFl]at hr;have hs1:s<0:=by omega
    have b1:decide (s<0)=true:=eP hs1;have b0:decide (0<=s)=false:=dA hs0;have b2:decide ((nt:Int)<=s)=false:=dA (by omega);have i5:IntKind.i64.wrap (-1-s)=-1-s:=by rw[IntKind.wrap_i64];omega
    by_cases hsn:(ns:Int)<=-1-s
    ·rw[if_pos hsn,Nat.or_zero]at hr;have b3:decide ((ns:Int)<=-1-s)=true:=eP hsn;have HR:=hid hr;clear hr;go_wp2;go_ret;exact⟨by rw[<-HR.o]<;>rfl,hbb.trans (hBW.mono hsz)⟩
    ·rw[if_neg hsn]at hr;have b3:decide ((ns:Int)<=-1-s)=false:=dA hsn;have j0:0<=-1-s:=by omega
     have j1:-1-s<ns:=(by omega);have g2:=mM (dh hBW hF.o) (i:=(-1-s).toNat) (by omega);have g3:=pq (dh hBW hE.o) (i:=(-1-s).toNat) (by omega);have hft:=getD_lt hFt (-1-s).toNat;generalize F.getD (-1-s).toNat 0=f at *;generalize E.getD (-1-s).toNat false=eb at *;cases eb
     ·rw[if_neg (by simp),Nat.or_zero]at hr;have HR:=hid hr;clear hr;go_wp2_with fail;refine(ku.o a f ha hft _).mono ?_;rintro e w5 ⟨rfl,hB5⟩;replace g3:=cell_below hB5 g3;go_wp2;go_ret;exact⟨by rw[<-HR.o]<;>rfl,hbb.trans ((hBW.trans (hB5.mono hBW.size)).mono hsz)⟩
     ·rw[if_pos rfl]at hr;have HR:Hid ((a ||| f) ||| rest=R):=by rw[Nat.or_assoc];exact hr
      have hor:=oH ha hft;clear hr;go_wp2_with fail;refine(ku.o a f ha hft _).mono ?_;rintro e w5 ⟨rfl,hB5⟩;replace g3:=cell_below hB5 g3;have HB5:=hid (hBW.trans (hB5.mono hBW.size));clear hB5;go_wp2;exact⟨⟨k+1,a ||| f,by omega,by go_num,rfl,hor,by rw[HRE.o];exact HR.o,HB5.o⟩,by simp[RowKit.intOf];omega⟩
  ·have hd:l.drop k=[]:=List.drop_eq_nil_of_le (by have:=HLL.o;omega);rw[hd]at hr;have hr2:Hid (a ||| b=R):=hr;clear hr hd;have i1:¬ ((k:Int)<(ll:Int)):=by omega
   go_wp2_with fail;refine(ku.o a b ha hb _).mono ?_;rintro e w5 ⟨rfl,hB5⟩;go_wp2;go_ret;exact⟨by rw[<-hr2.o]<;>rfl,hbb.trans ((hBW.trans (hB5.mono hBW.size)).mono hsz)⟩
end Go.Proofs.YticmnfmijdgmbaaGreatDoor.aJ
/- The document's own answer: with what they begin. -/
namespace Go.Proofs.YticmnfmijdgmbaaGreatDoor.aJ
open Go Go.RowKit Go.Lib Go.Joins
theorem CP {nt:Nat}{E:List Bool}{ps:List PD}{L:List Nat}{j:Nat}(h:j<ps.length) :
  fK (zf (qJ nt E (ps.take (j+1)))) L=stepS (fK (zf (qJ nt E (ps.take j))) L) ((ps.getD j default).sort.toNat,fun L=>ofRow nt E L (ps.getD j default).rs 0):=by
 unfold fK zf qJ;rw[List.take_add_one,List.map_append,List.map_append,List.foldl_append,dL,dH h];rfl
theorem JB {w:World}{lb so:Nat}{M:List Nat}(h:w.heap[lb]?=some (.cells (sets M) 69))(x:Nat):(w.setCell ⟨lb,so,none⟩ (u64 x)).heap[lb]?=some (.cells (sets (M.set so x)) 69):=by
 rw[block_setCell (i:=so) h (u64 x)];simp[sets,List.map_set]
theorem FI {G:GD}{gv tv ov sv pv:Value}{tf:Nat->Nat->Value}{rv:Nat->Value}{w:World}(h:nJ w gv G tv ov sv pv tf rv)(hV:aB G=true) :
  Calls Tryz.prog 122 #[gv] w fun e W'=>∃ fb,e=.returned (.slice (some ⟨fb,0,none⟩) G.sorts.length G.sorts.length)/\∃ E F,Least false G.prods G.sorts.length E/\fV (qJ G.terms.length E G.prods) G.sorts.length F /\
   W'.heap[fb]?=some (.cells (sets F) 69)/\w.heap.size<=fb/\Below w.heap.size w W':=by
 obtain⟨W1,B,hW1,hB,c0,c1,c2,c3,c4,hG,hb,hsz⟩:=gU h;subst hB;have kv:=yN hG hV;have HV:=hid hV;have HR:=hid hG.rights;have HG:=hid hG;have hgv:=h.eq;have hs:=hG.sorts;have hp:=hG.prods;subst hgv;obtain⟨sa,sc,rfl,hsn,_⟩:=hs;obtain⟨pa,pc,rfl,hpn,hp⟩:=hp;have HP:=hid hp;obtain⟨n60,s60,p120⟩:=gm hV;obtain⟨st0,st1⟩:=dR hV;have hsort:∀ p∈G.prods,p.sort.toNat<G.sorts.length:=fun p hp=>by
  obtain⟨h1,h2,_⟩:=gy hV p hp;omega
 have HLE:Hid (∀ E,fV (qJ G.terms.length E G.prods) G.sorts.length (dU (zf (qJ G.terms.length E G.prods)) (G.sorts.length+1) (List.replicate G.sorts.length 0))):=fun E=>y7 (locF hsort);have HINV:Hid (∀ E r j,lX G.sorts.length (fK (zf (qJ G.terms.length E (G.prods.take j))) (dU (zf (qJ G.terms.length E G.prods)) r (List.replicate G.sorts.length 0)))):=
  fun E r j=>(Az (locF (fun p hp=>hsort p (List.mem_of_mem_take hp))) 0).inv _ ((Az (locF hsort) 0).invs (vC _) r)
 have KR:Hid (∀ (W':World) (E:List Bool) (F:List Nat) (eb fb:Nat) (l:List Int) (lv:Value),Below W1.heap.size W1 W'->W'.heap[eb]?=some (.cells (E.map Value.bool).toArray 4)->W'.heap[fb]?=some (.cells (sets F) 69)->E.length=G.sorts.length->F.length=G.sorts.length->(∀ x∈F,x<top)->dw W' lv l ->
   Calls Tryz.prog 123 #[.agg #[tv,ov,.slice sa G.sorts.length sc,.slice pa G.prods.length pc,.int .i64 G.start],.slice (some ⟨eb,0,none⟩) G.sorts.length G.sorts.length,.slice (some ⟨fb,0,none⟩) G.sorts.length G.sorts.length,lv,.int .u64 0] W' fun e W''=>e=.returned (u64 (ofRow G.terms.length E F l 0))/\Below W'.heap.size W' W''):=
  fun W' E F eb fb l lv hb hE hF hEl hFl hFt hl=>Eh (HG.o.mono hb) hE hF hEl hFl hFt (b:=0) (by decide) hl
 have ku:=hid (fun(a c:Nat) ha hc w=>nH a c ha hc w);have HIW:Hid (∀ j,j<G.prods.length->dw W1 (rv j) (G.prods.getD j default).rs):=hG.rights;clear hp h hG;have hz1:w.heap.size<W1.heap.size:=by rw[hW1];simp
 clear hV hsort;generalize hns:G.sorts.length=ns at *;generalize hnp:G.prods.length=np at *;generalize hnt:G.terms.length=nt at *;have HNP:=hid hnp;have HNS:=hid hns;have hn0:¬ ((ns:Int)=0):=by omega
 have hn1:¬ (ns=0):=by omega
 have hn4:((ns:Int) == 0)=false:=beq_eq_false_iff_ne.2 hn0;have hn2:decide ((ns:Int)=0)=false:=dA hn0;have hn3:decide (ns=0)=false:=dA hn1;clear hnp hns hnt HG;go_enter Tryz.func122,Tryz.ntmps122;go_wp2_with fail;rw[<-hW1];clear hW1;refine kv.mono ?_;rintro e w1 ⟨eb,E,rfl,hE1,hE2,hE3,hB1⟩;have hEl:=hE1.length;have d2:=cell_below hB1 c2;have km:=ve ns (by omega);have i0:(0:Int)<=(ns:Int):=by omega
 obtain⟨w2,hw2⟩:∃ w2,w2=w1.alloc (.cells (sets (List.replicate ns 0)) 69):=⟨_,rfl⟩;have hl0:w2.heap[w1.heap.size]?=some (.cells (sets (List.replicate ns 0)) 69):=by
  rw[hw2];exact aK w1 _
 have hB2:Below w1.heap.size w1 w2:=by rw[hw2];exact iy (eH _ _) _
 have hz2:=hB1.size;have hE4:=hid (dh hB2 hE2);have hel:eb<w1.heap.size:=(dZ hE2);have hBA:=hB1.trans (hB2.mono hz2);have HE1:=hid hE1;clear hE1 hE2
 go_upto_region 5 with fail
 rw[<-hw2];clear hw2 km d2;generalize hlb:w1.heap.size=lb at *;have hlb1:W1.heap.size<=lb:=by omega
 clear hlb;have hBL:=hid hBA;go_wp2_with fail
 go_loopw [5] (fun i wr=>∃ r:Nat,r<=ns+1/\i=.int .i64 (r:Int)/\wr.heap[lb]?=some (.cells (sets (dU (zf (qJ nt E G.prods)) r (List.replicate ns 0))) 69)/\Far (fun k=>k=lb) w2 wr) (fun i _=>ns+1-(RowKit.intOf i).toNat)
 case atStart=>exact⟨0,by omega,rfl,hl0,Far.refl _ _⟩
 case round =>
  obtain⟨r,hr,rfl,hl1,hF1⟩:=hrel;have hBr:Below W1.heap.size W1 wr:=hBL.o.trans (hF1.kW hBL.o.size (by rintro k rfl;exact hlb1));have d2:=cell_below hBr c2;have d3:=cell_below hBr c3;by_cases hrn:r<=ns
  ·have r1:(r:Int)<=(ns:Int):=by omega
   have HF1:=hid hF1;have HI:=hid (HINV.o E r);generalize hLr:dU (zf (qJ nt E G.prods)) r (List.replicate ns 0)=L0 at *;have HLR:=hid hLr;clear hLr;go_wp2_with fail
   go_loopw [6] (fun i wr=>∃ j:Nat,j<=np/\i=.int .i64 (j:Int)/\wr.heap[lb]?=some (.cells (sets (fK (zf (qJ nt E (G.prods.take j))) L0)) 69)/\Far (fun k=>k=lb) w2 wr) (fun i _=>np-(RowKit.intOf i).toNat)
   case atStart=>exact⟨0,by omega,rfl,hl1,HF1.o⟩
   case round =>
    clear d2 d3 hl1;obtain⟨j,hj,rfl,hl1,hF2⟩:=hrel;have hBj:Below W1.heap.size W1 wr:=hBL.o.trans (hF2.kW hBL.o.size (by rintro k rfl;exact hlb1));have d2:=cell_below hBj c2;have d3:=cell_below hBj c3;by_cases hlt:j<np
    ·obtain⟨b,off,rfl,hc⟩:=HP.o (by omega);obtain⟨x0,x1,x2,x3⟩:=hc j hlt;obtain⟨v1,v2,v3,v4⟩:=jy (mP HV.o (k:=j) (by have:=HNP.o;omega));have hIW:=HIW.o j hlt;have HSN:=hid (CP (nt:=nt) (E:=E) (L:=L0) (j:=j) (ps:=G.prods) (by have:=HNP.o;omega));obtain⟨hMl,hMt⟩:=HI.o j;clear hc;generalize hM:fK (zf (qJ nt E (G.prods.take j))) L0=M at *;generalize G.prods.getD j default=P at *;obtain⟨so,hso⟩:∃ so:Nat,P.sort=so:=⟨P.sort.toNat,by omega⟩;rw[hso]at x1;have hsn':so<ns:=by have:=HNS.o;omega
     have hstep:stepS M (P.sort.toNat,fun L=>ofRow nt E L P.rs 0)=M.set so (M.getD so 0 ||| ofRow nt E M P.rs 0):=by unfold stepS;rw[hso];rfl
     rw[hstep]at HSN;replace x0:=cell_below hBj x0;replace x1:=cell_below hBj x1;replace x2:=cell_below hBj x2;replace x3:=cell_below hBj x3;have hx:=iJ nt E hMt P.rs (b:=0) (by decide);have hy:=getD_lt hMt so;obtain⟨⟨ra,rc,hrv,hrn2,hrc⟩,hri⟩:=hIW;have hIW:dw W1 (rv j) P.rs:=⟨⟨ra,rc,hrv,hrn2,hrc⟩,hri⟩;rw[hrv]at x2 hIW;have j0:(0:Int)<=(j:Int):=by omega
     have j1:(j:Int)<(np:Int):=(by omega);have s0:(0:Int)<=(so:Int):=(by omega);have s1:(so:Int)<(ns:Int):=(by omega);obtain⟨w3,hw3⟩:∃ w3,w3=wr.alloc (.cells #[.string P.lab,.int .i64 (so:Int),.slice ra P.rs.length rc,.int .i64 P.cls] 71):=⟨_,rfl⟩;have hb3:Below wr.heap.size wr w3:=by rw[hw3];exact iy (eH _ _) _
     have p1:w3.cell? ⟨wr.heap.size,1,none⟩=some (.int .i64 (so:Int)):=by rw[hw3,World.cell?_alloc_mark];rfl
     have p2:w3.cell? ⟨wr.heap.size,2,none⟩=some (.slice ra P.rs.length rc):=by rw[hw3,World.cell?_alloc_mark];rfl
     have hB3:Below W1.heap.size W1 w3:=hBj.trans (hb3.mono hBj.size);have hl3:=dh hb3 hl1;have hE3':w3.heap[eb]?=some (.cells (E.map Value.bool).toArray 4):=dh hb3 (hF2.heap hE4.o (by omega));have y3:=mM hl3 (i:=so) (by omega);have q0:=cell_below hB3 c0;have q1:=cell_below hB3 c1;have q2:=cell_below hB3 c2;have q3:=cell_below hB3 c3;have q4:=cell_below hB3 c4;have kr:Hid (Calls Tryz.prog 123 #[.agg #[tv,ov,.slice sa ns sc,.slice (some ⟨b,off,none⟩) np pc,.int .i64 G.start],.slice (some ⟨eb,0,none⟩) ns ns,.slice (some ⟨lb,0,none⟩) ns ns,.slice ra P.rs.length rc,.int .u64 0] w3.drew fun e W''=>e=.returned (u64 (ofRow nt E M P.rs 0))/\Below w3.heap.size w3 W''):=
      (KR.o w3.drew E M eb lb P.rs _ hB3.drew (dh (eH _ _).drew hE3') (dh (eH _ _).drew hl3) hEl hMl hMt (hIW.mono hB3.drew)).mono fun e W'' ⟨h1,h2⟩=>⟨h1,(eH _ _).drew.trans h2⟩
     have kU:=hid (ku.o _ _ hy hx);have HL3:=hid hl3;have HF3:Hid (Far (fun k=>k=lb) w2 w3):=hF2.trans (Far.kZ hb3);clear hrc hri hrv v1 v2 v3 v4 hso hstep hM hIW hMl hMt hx hy hl1 hl3 hE3';generalize hxx:ofRow nt E M P.rs 0=x at *;generalize hyy:M.getD so 0=y at *;clear hxx hyy;generalize P.rs.length=rl at *;go_wp2_with fail;rw[<-hw3];clear hw3 d2 d3 x0 x1 x2 x3;generalize hpb:wr.heap.size=pb at *;clear hpb;refine aW 16 (fun w'=>w'.cell? ⟨pb,1,none⟩=some (.int .i64 (so:Int))/\w'.cell? ⟨pb,2,none⟩=some (.slice ra rl rc)/\w'.cell? ⟨w.heap.size,0,none⟩=some tv/\w'.cell? ⟨w.heap.size,1,none⟩=some ov/\w'.cell? ⟨w.heap.size,2,none⟩=some (.slice sa ns sc)/\w'.cell? ⟨w.heap.size,3,none⟩=some (.slice (some ⟨b,off,none⟩) np pc)/\w'.cell? ⟨w.heap.size,4,none⟩=some (.int .i64 G.start)/\w'.cell? ⟨lb,so,none⟩=some (u64 y)) (by kernel_rfl) ⟨p1,p2,q0,q1,q2,q3,q4,y3⟩ (fun inv hHeld=>?_);iterate 13
      refine aF (v:=?_) rfl (by kernel_rfl) (fun _ _ _ h=>h) (Or.inl ⟨by rfl,?_⟩) hHeld inv (fun inv=>?_)
      rotate_left
      ·intro w hSw;try dsimp only at hSw
       go_simp;try with_reducible rfl
      simp only[Act.put,List.setIfInBounds_toArray,List.set_cons_zero,List.set_cons_succ]
     refine eu (i:=13) rfl (by kernel_rfl) (by decide) inv (fun inv K' hK=>?_);go_simp;refine kr.o.mono ?_;rintro e w5 ⟨rfl,hb5⟩;have hd:w5.cell? ⟨pb,1,none⟩=some (.int .i64 (so:Int))/\w5.cell? ⟨pb,2,none⟩=some (.slice ra rl rc)/\w5.cell? ⟨w.heap.size,0,none⟩=some tv/\w5.cell? ⟨w.heap.size,1,none⟩=some ov/\w5.cell? ⟨w.heap.size,2,none⟩=some (.slice sa ns sc)/\w5.cell? ⟨w.heap.size,3,none⟩=some (.slice (some ⟨b,off,none⟩) np pc)/\w5.cell? ⟨w.heap.size,4,none⟩=some (.int .i64 G.start)/\w5.cell? ⟨lb,so,none⟩=some (u64 y):=⟨cell_below hb5 p1,cell_below hb5 p2,cell_below hb5 q0,cell_below hb5 q1,cell_below hb5 q2,cell_below hb5 q3,cell_below hb5 q4,cell_below hb5 y3⟩;go_wp2_with fail;refine hK.out _ _ hd ?_;clear hK K';try simp only[Act.put,List.setIfInBounds_toArray,List.set_cons_zero,List.set_cons_succ]
     refine eu (i:=14) rfl (by kernel_rfl) (by decide) inv (fun inv K' hK=>?_);go_simp;refine(kU.o _).mono ?_;rintro e w6 ⟨rfl,hb6⟩;have hd6:w6.cell? ⟨pb,1,none⟩=some (.int .i64 (so:Int))/\w6.cell? ⟨pb,2,none⟩=some (.slice ra rl rc)/\w6.cell? ⟨w.heap.size,0,none⟩=some tv/\w6.cell? ⟨w.heap.size,1,none⟩=some ov/\w6.cell? ⟨w.heap.size,2,none⟩=some (.slice sa ns sc)/\w6.cell? ⟨w.heap.size,3,none⟩=some (.slice (some ⟨b,off,none⟩) np pc)/\w6.cell? ⟨w.heap.size,4,none⟩=some (.int .i64 G.start)/\w6.cell? ⟨lb,so,none⟩=some (u64 y):=⟨cell_below hb6 (cell_below hb5 p1),cell_below hb6 (cell_below hb5 p2),cell_below hb6 (cell_below hb5 q0),cell_below hb6 (cell_below hb5 q1),cell_below hb6 (cell_below hb5 q2),cell_below hb6 (cell_below hb5 q3),cell_below hb6 (cell_below hb5 q4),cell_below hb6 (cell_below hb5 y3)⟩;have hb7:=hb5.trans (hb6.mono hb5.size);go_wp2_with fail;refine hK.out _ _ hd6 ?_;clear hK K';try simp only[Act.put,List.setIfInBounds_toArray,List.set_cons_zero,List.set_cons_succ]
     have hl6:=dh hb7 HL3.o;have u6:=unfrozen_of_block hl6 so;have y6:=hd6.2.2.2.2.2.2.2;have HSET:=hid (JB hl6 (so:=so) (y ||| x));have HFF:Hid (Far (fun k=>k=lb) w2 (w6.setCell ⟨lb,so,none⟩ (u64 (y ||| x)))):=Far.set (p:=⟨lb,so,none⟩) (HF3.o.trans (Far.kZ hb7)) rfl _;clear hl6;iterate 1
      refine aF (v:=?_) rfl (by kernel_rfl) (fun _ _ _ h=>h) (Or.inl ⟨by rfl,?_⟩) hd6 inv (fun inv=>?_)
      rotate_left
      ·intro w hSw;try dsimp only at hSw
       go_simp;try with_reducible rfl
      simp only[Act.put,List.setIfInBounds_toArray,List.set_cons_zero,List.set_cons_succ]
     refine fQ (i:=16) rfl (by kernel_rfl) (fun K' hK=>?_);go_simp;refine hK.out _ _ (fun h=>absurd h (by decide)) ?_;clear hK K';try simp only[Act.put,List.setIfInBounds_toArray,List.set_cons_zero,List.set_cons_succ]
     refine aQ (by kernel_rfl) ?_ _;go_wp2;exact⟨⟨j+1,by omega,by go_num,by rw[HSN.o];exact HSET.o,HFF.o⟩,by simp[RowKit.intOf];omega⟩
    ·have j1:¬ ((j:Int)<(np:Int)):=(by omega);rw[List.take_of_length_le (by have:=HNP.o;omega)]at hl1;have HL2:Hid (wr.heap[lb]?=some (.cells (sets (dU (zf (qJ nt E G.prods)) (r+1) (List.replicate ns 0))) 69)):=by
      show wr.heap[lb]?=some (.cells (sets (fK (zf (qJ nt E G.prods)) (dU (zf (qJ nt E G.prods)) r (List.replicate ns 0)))) 69);rw[HLR.o];exact hl1
     have HF2:=hid hF2;clear hl1 hF2;go_wp2;exact⟨⟨r+1,by omega,by go_num,HL2.o,HF2.o⟩,by simp[RowKit.intOf];omega⟩
  ·obtain rfl:r=ns+1:=by omega
   have r1:¬ (((ns+1:Nat):Int)<=(ns:Int)):=by omega
   have HL1:=hid hl1;clear hl1;go_wp2;go_ret;exact⟨lb,rfl,E,HE1.o,_,HLE.o E,HL1.o,by omega,hb.trans (hBr.mono hsz)⟩
end Go.Proofs.YticmnfmijdgmbaaGreatDoor.aJ
/- The document's own answer: with what a row begins. -/
namespace Go.Proofs.YticmnfmijdgmbaaGreatDoor.aJ
open Go Go.RowKit Go.Lib Go.Joins
theorem FH {G:GD}{gv tv ov sv pv:Value}{tf:Nat->Nat->Value}{rv:Nat->Value}{w:World}(h:nJ w gv G tv ov sv pv tf rv)(hV:aB G=true){l:List Int}{lv:Value}{b:Nat}(hl:dw w lv l)(hb0:b<top) :
  Calls Tryz.prog 93 #[gv,lv,u64 b] w fun e W' =>
   ∃ E F,e=.returned (u64 (ofRow G.terms.length E F l b))/\Least false G.prods G.sorts.length E/\fV (qJ G.terms.length E G.prods) G.sorts.length F/\Below w.heap.size w W':=by
 obtain⟨W1,B,hW1,hB,c0,c1,c2,c3,c4,hG,hb,hsz⟩:=gU h;subst hB;have kf:=FI hG hV;have HG:=hid hG;have HV:=hid hV;have HL:=hid (hl.mono hb);have HL0:=hid hl;have hgv:=h.eq;have hs:=hG.sorts;obtain⟨st0,st1⟩:=dR hV;subst hgv;obtain⟨sa,sc,rfl,hsn,_⟩:=hs;have KE:Hid (∀ W',Below W1.heap.size W1 W'->Calls Tryz.prog 124 #[.agg #[tv,ov,.slice sa G.sorts.length sc,pv,.int .i64 G.start]] W' fun e W''=>∃ lb L,e=.returned (.slice (some ⟨lb,0,none⟩) G.sorts.length G.sorts.length)/\Least false G.prods G.sorts.length L/\W''.heap[lb]?=some (.cells (L.map Value.bool).toArray 4)/\W'.heap.size<=lb/\Below W'.heap.size W' W''):=
  fun W' hb=>yN (HG.o.mono hb) HV.o
 have KR:Hid (∀ (W':World) (E:List Bool) (F:List Nat) (eb fb:Nat),Below W1.heap.size W1 W'->W'.heap[eb]?=some (.cells (E.map Value.bool).toArray 4)->W'.heap[fb]?=some (.cells (sets F) 69)->E.length=G.sorts.length->F.length=G.sorts.length->(∀ x∈F,x<top) ->
   Calls Tryz.prog 123 #[.agg #[tv,ov,.slice sa G.sorts.length sc,pv,.int .i64 G.start],.slice (some ⟨eb,0,none⟩) G.sorts.length G.sorts.length,.slice (some ⟨fb,0,none⟩) G.sorts.length G.sorts.length,lv,u64 b] W' fun e W''=>e=.returned (u64 (ofRow G.terms.length E F l b))/\Below W'.heap.size W' W''):=
  fun W' E F eb fb hb hE hF hEl hFl hFt=>Eh (HG.o.mono hb) hE hF hEl hFl hFt hb0 (HL.o.mono hb)
 clear h hG hV hl;generalize G.sorts.length=ns at *;generalize G.terms.length=nt at *;have hn0:¬ ((ns:Int)=0):=by omega
 have hn4:((ns:Int) == 0)=false:=beq_eq_false_iff_ne.2 hn0;go_enter Tryz.func93,Tryz.ntmps93;go_wp2_with fail;rw[<-hW1];clear hW1;refine kf.mono ?_;rintro e w1 ⟨fb,rfl,E,F,hE1,hF1,hF2,hF3,hB1⟩;have d0:=cell_below hB1 c0;have d1:=cell_below hB1 c1;have d2:=cell_below hB1 c2;have d3:=cell_below hB1 c3;have d4:=cell_below hB1 c4;have HF1:=hid hF1;have HF2:=hid hF2;have HE0:=hid hE1;clear hF1 hF2 hE1;go_wp2_with fail;refine aW 7 (fun w'=>w'.cell? ⟨w.heap.size,0,none⟩=some tv/\w'.cell? ⟨w.heap.size,1,none⟩=some ov/\w'.cell? ⟨w.heap.size,2,none⟩=some (.slice sa ns sc)/\w'.cell? ⟨w.heap.size,3,none⟩=some pv/\w'.cell? ⟨w.heap.size,4,none⟩=some (.int .i64 G.start)) (by kernel_rfl) ⟨d0,d1,d2,d3,d4⟩ (fun inv hHeld=>?_);iterate 5
  refine aF (v:=?_) rfl (by kernel_rfl) (fun _ _ _ h=>h) (Or.inl ⟨by rfl,?_⟩) hHeld inv (fun inv=>?_)
  rotate_left
  ·intro w hSw;try dsimp only at hSw
   go_simp;try with_reducible rfl
  simp only[Act.put,List.setIfInBounds_toArray,List.set_cons_zero,List.set_cons_succ]
 refine eu (i:=2) rfl (by kernel_rfl) (by decide) inv (fun inv K' hK=>?_);go_simp;refine(KE.o w1.drew hB1.drew).mono ?_;rintro e w5 ⟨eb,E',rfl,hE1,hE2,hE3,hB5⟩;obtain rfl:=HE0.o.same hE1;have hb5:Below w1.heap.size w1 w5:=(eH _ _).drew.trans hB5;have hd:w5.cell? ⟨w.heap.size,0,none⟩=some tv/\w5.cell? ⟨w.heap.size,1,none⟩=some ov/\w5.cell? ⟨w.heap.size,2,none⟩=some (.slice sa ns sc)/\w5.cell? ⟨w.heap.size,3,none⟩=some pv/\w5.cell? ⟨w.heap.size,4,none⟩=some (.int .i64 G.start):=⟨cell_below hb5 d0,cell_below hb5 d1,cell_below hb5 d2,cell_below hb5 d3,cell_below hb5 d4⟩;have kr:=hid (KR.o w5 _ F eb fb (hB1.trans (hb5.mono hB1.size)) hE2 (dh hb5 HF2.o) hE1.length HF1.o.length HF1.o.2.2);have HE1:=hid hE1;clear hE1 hE2;go_wp2_with fail;refine hK.out _ _ hd ?_;clear hK K';try simp only[Act.put,List.setIfInBounds_toArray,List.set_cons_zero,List.set_cons_succ]
 refine eu (i:=6) rfl (by kernel_rfl) (by decide) inv (fun inv K' hK=>?_);go_simp;refine kr.o.mono ?_;rintro e w6 ⟨rfl,hb6⟩;have hb7:=hb5.trans (hb6.mono hb5.size);have hd6:w6.cell? ⟨w.heap.size,0,none⟩=some tv/\w6.cell? ⟨w.heap.size,1,none⟩=some ov/\w6.cell? ⟨w.heap.size,2,none⟩=some (.slice sa ns sc)/\w6.cell? ⟨w.heap.size,3,none⟩=some pv/\w6.cell? ⟨w.heap.size,4,none⟩=some (.int .i64 G.start):=⟨cell_below hb7 d0,cell_below hb7 d1,cell_below hb7 d2,cell_below hb7 d3,cell_below hb7 d4⟩;go_wp2_with fail;refine hK.out _ _ hd6 ?_;clear hK K';try simp only[Act.put,List.setIfInBounds_toArray,List.set_cons_zero,List.set_cons_succ]
 refine fQ (i:=7) rfl (by kernel_rfl) (fun K' hK=>?_);go_simp;refine hK.out _ _ (fun h=>absurd h (by decide)) ?_;clear hK K';try simp only[Act.put,List.setIfInBounds_toArray,List.set_cons_zero,List.set_cons_succ]
 refine aQ (by kernel_rfl) ?_ _;go_wp2;go_ret;exact⟨_,F,rfl,HE1.o,HF1.o,hb.trans ((hB1.trans (hb7.mono hB1.size)).mono hsz)⟩
end Go.Proofs.YticmnfmijdgmbaaGreatDoor.aJ
