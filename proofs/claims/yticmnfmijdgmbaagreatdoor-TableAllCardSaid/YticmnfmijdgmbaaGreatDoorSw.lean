import Derived.Test.YticmnfmijdgmbaaGreatDoorSr
set_option linter.all false
set_option maxRecDepth 100000
set_option maxHeartbeats 8000000
namespace Go.Proofs.YticmnfmijdgmbaaGreatDoor
open Go Go.RowKit Go.Lib
open aO (It fG)
open Go.Maps (Keyed)
theorem info28:(Tryz.prog.info? 45).map (fun i=>(i.zero,i.size,i.bytes))=some (some (.slice none 0 0),1,24):=by kernel_rfl
theorem KY:(Tryz.prog.info? 43).map (fun i=>(i.zero,i.size,i.bytes))=some (some (.slice none 0 0),1,24):=by kernel_rfl
theorem info3:(Tryz.prog.info? 3).map (fun i=>(i.zero,i.size,i.bytes))=some (some (.int .i64 0),1,8):=by kernel_rfl
theorem dB {ops:Array Oper}{rest:List Oper}{o:Oper}{a:Act}{w:World}{Q:Exit->Act->World->Prop}(hgd:o.guard=none)(s x:Operand)(t e:TypeId)(ho:o.op=.call {callee:=.builtin .append,args:=#[s,x],argTypes:=#[t,t]})
  (z:Value) (bytes:Nat) (ht:Tryz.prog.underlying t=some (.slice e)) (hinfo:(Tryz.prog.info? e).map (fun i=>(i.zero,i.size,i.bytes))=some (some z,1,bytes)) (hz1:z.cells.size=1) (hby:bytes<=24)
  (base:Nat) (v:Value) (xs:List Value) (hs:a.eval s=v) (hown:w.ownsRow base e 1 v xs.length xs) (g:Nat) (hx:a.eval x=.slice (some ⟨g,0,none⟩) 1 1) (q:Value) (hb:w.heap[g]?=some (.cells #[q] e (0,0))) (hq:q.oneCell'=true) (hn:xs.length<=1000000) (hbase:base<=w.heap.size)
  (h:∀ v' w',w'.ownsRow base e 1 v' (xs++[q]).length (xs++[q])->w.grownBy w' v.ownBlock->(v'.ownBlock=v.ownBlock\/v'.ownBlock=some w.heap.size)->wpList Tryz.prog ops Q rest (a.put o.dst v') w'):wpList Tryz.prog ops Q (o::rest) a w:=by
 obtain⟨i,hi,h0,h1,h2⟩:=info_parts hinfo;refine wpList_append_own_at w hgd s x t ho base e i z 1 bytes ht hi h0 h1 h2 hz1 (by decide) v xs.length xs hs hown ⟨g,0,none⟩ 1 1 [q] hx rfl (fun j u hj=>?_) (fun u hu=>?_) (by unfold maxLen;omega) ?_ hbase (fun v' w' a1 a2 _ a4=>h v' w' (by rw[List.length_append];exact a1) a2 a4)
 ·rw[jr,Nat.zero_add,ak hb,<-hj];simp
 ·obtain rfl:u=q:=by simpa using hu
  exact hq
 ·have:(xs.length+1)*bytes<=(xs.length+1)*24:=Nat.mul_le_mul_left _ hby;omega
abbrev KR:=Nat×Nat×List It
def kval (q:KR):Value:=.slice (some ⟨q.1,0,none⟩) q.2.2.length q.2.1
def kers (K:List KR):List (List It):=K.map (·.2.2)
abbrev NR:=Nat×Nat×List Int
def nval (q:NR):Value:=.slice (some ⟨q.1,0,none⟩) q.2.2.length q.2.1
def nxts (N:List NR):List (List Int):=N.map (·.2.2)
def zints (l:List Int):List Value:=l.map fun x=>.int .i64 x
def IntH (w:World)(g:Nat)(l:List Int):Prop:=∀ i x,l[i]?=some x->w.cell? ⟨g,i,none⟩=some (.int .i64 x)
def dY (F:List (Nat×List It)):Item where
 bl:=F.map (·.1)
 ok w:=∀ q∈F,je w q.1 q.2
 kept h hw q hq:=(hw q hq).kept (h q.1 (List.mem_map.2 ⟨q,hq,rfl⟩))
def nfI (N:List NR):Item where
 bl:=N.map (·.1)
 ok w:=∀ q∈N,IntH w q.1 q.2.2
 kept {w w'} h hw q hq i x hi:=(World.cell?_of_block (a:=⟨q.1,i,none⟩) (h q.1 (List.mem_map.2 ⟨q,hq,rfl⟩))).trans (hw q hq i x hi)
def yh (k:List It):Value:=.string ⟨(jw k).toArray⟩
theorem Kr {a b:List It}(h:yh a=yh b):a=b:=by
 unfold yh at h;injection h with h;injection h with h;have:=congrArg Array.toList h;exact Dz (by simpa using this)
theorem key9 {k:List It}(hr:∀ x∈k,inR x)(hl:k.length<=1000000):keyOf Tryz.prog 9 (yh k)=some (.string (jw k)):=
 WideMaps.keyOf_string_mk Tryz.underlying9 (s:=⟨(jw k).toArray⟩) (by
  show(jw k).toArray.size<=maxLen;rw[List.size_toArray];have:=Dy k hr;unfold maxLen;omega)
def kmap (L:List (List It)):List (Value×Value):=L.zipIdx.map fun p=>(yh p.1,.int .i64 (p.2:Int))
theorem Iw {L:List (List It)}{k:List It}{i:Nat}(h:L[i]?=some k):(yh k,Value.int .i64 (i:Int))∈kmap L:=by
 unfold kmap;exact List.mem_map.2 ⟨(k,i),by rw[List.mem_zipIdx_iff_getElem?];exact h,rfl⟩
theorem Iz {L:List (List It)}{k:List It}(h:k∉L):∀ p∈kmap L,p.1≠yh k:=by
 intro p hp he;obtain⟨q,hq,rfl⟩:=List.mem_map.1 hp;rw[List.mem_zipIdx_iff_getElem?]at hq;have:q.1=k:=Kr he;exact h (this▸List.mem_of_getElem? hq)
theorem Iy (L:List (List It))(k:List It):kmap (L++[k])=kmap L++[(yh k,.int .i64 (L.length:Int))]:=by
 unfold kmap;rw[List.zipIdx_append,List.map_append];simp
theorem zero3 (w:World):(zeroValue 3).run Tryz.prog w=.ok (.int .i64 0) w:=by kernel_rfl
def Fv (B bA bN bM bG bR:Nat)(gc:Array Value)(kv nv:Value)(K:List KR)(N:List NR)(F:List (Nat×List It))(rv:Value)(xs:List Value)(mi:Item):List Item:=
 [ae bA (.cells #[kv,nv] 55 (0,0)),ae bN (.cells #[.map (some bM)] 121 (0,0)),lI 9 bM (kmap (kers K)),pU B 45 kv (K.map kval),pU B 43 nv (N.map nval),dY F,nfI N,pU B 3 rv xs,ae bG (.cells gc 27 (0,0)),ae bR (.cells #[.slice none 0 0,.slice none 0 0] 55 (0,0)),mi]
def Ho (F:List (Nat×List It))(v:Value)(k:List It):Prop:=(v=.slice none 0 0/\k=[])\/∃ g c,v=.slice (some ⟨g,0,none⟩) k.length c/\k≠[]/\(g,k)∈F
theorem Ho.items {F:List (Nat×List It)}{v:Value}{k:List It}{w:World}(h:Ho F v k)(hF:(dY F).ok w)(hl:k.length<=9223372036854775807):aS w v k:=by
 rcases h with⟨rfl,rfl⟩ | ⟨g,c,rfl,_,h2⟩
 ·exact IB w
 ·exact eQ (hF _ h2) hl
structure BF (B:Nat) (W w:World) (bA bN bM bG bR:Nat) (gc:Array Value) (kv nv:Value) (K:List KR) (N:List NR) (F:List (Nat×List It)) (rv:Value) (xs:List Value) (mi:Item):Prop where
 foot:az B W w (Fv B bA bN bM bG bR gc kv nv K N F rv xs mi)
 inF:∀ q∈K,(q.1,q.2.2)∈F
section
variable {B:Nat}{W w w':World}{bA bN bM bG bR:Nat}{gc:Array Value}{kv nv:Value}{K:List KR}{N:List NR}{F:List (Nat×List It)}{rv:Value}{xs:List Value}{mi:Item}
theorem BF.below (h:BF B W w bA bN bM bG bR gc kv nv K N F rv xs mi)(hb:aj w w'):BF B W w' bA bN bM bG bR gc kv nv K N F rv xs mi:=⟨h.foot.below hb,h.inF⟩
theorem BF.tq (h:BF B W w bA bN bM bG bR gc kv nv K N F rv xs mi):w.heap[bA]?=some (.cells #[kv,nv] 55 (0,0)):=h.foot.ok 0 _ rfl
theorem BF.boxN (h:BF B W w bA bN bM bG bR gc kv nv K N F rv xs mi):w.heap[bN]?=some (.cells #[.map (some bM)] 121 (0,0)):=h.foot.ok 1 _ rfl
theorem BF.map_ (h:BF B W w bA bN bM bG bR gc kv nv K N F rv xs mi):bH Tryz.prog 9 w bM (kmap (kers K)):=h.foot.ok 2 _ rfl
theorem BF.rM (h:BF B W w bA bN bM bG bR gc kv nv K N F rv xs mi):w.ownsRow B 45 1 kv (K.map kval).length (K.map kval):=h.foot.ok 3 _ rfl
theorem BF.EF (h:BF B W w bA bN bM bG bR gc kv nv K N F rv xs mi):w.ownsRow B 43 1 nv (N.map nval).length (N.map nval):=h.foot.ok 4 _ rfl
theorem BF.froz (h:BF B W w bA bN bM bG bR gc kv nv K N F rv xs mi):(dY F).ok w:=h.foot.ok 5 _ rfl
theorem BF.nf (h:BF B W w bA bN bM bG bR gc kv nv K N F rv xs mi):(nfI N).ok w:=h.foot.ok 6 _ rfl
theorem BF.row (h:BF B W w bA bN bM bG bR gc kv nv K N F rv xs mi):w.ownsRow B 3 1 rv xs.length xs:=h.foot.ok 7 _ rfl
theorem BF.vP (h:BF B W w bA bN bM bG bR gc kv nv K N F rv xs mi):w.heap[bG]?=some (.cells gc 27 (0,0)):=h.foot.ok 8 _ rfl
theorem BF.LH (h:BF B W w bA bN bM bG bR gc kv nv K N F rv xs mi):w.heap[bR]?=some (.cells #[.slice none 0 0,.slice none 0 0] 55 (0,0)):=h.foot.ok 9 _ rfl
theorem BF.mi_ (h:BF B W w bA bN bM bG bR gc kv nv K N F rv xs mi):mi.ok w:=h.foot.ok 10 _ rfl
theorem BF.bel (h:BF B W w bA bN bM bG bR gc kv nv K N F rv xs mi):Below B W w:=h.foot.bel
theorem BF.size (h:BF B W w bA bN bM bG bR gc kv nv K N F rv xs mi):B<=w.heap.size:=eX h.foot.le h.foot.bel.size
end
theorem Dk {k:List It}{ker:List (List It)}{i:Nat}(hk:k≠[])(h:ker.idxOf? k=some i):ker[i]?=some k/\fG k ker=((i:Int),ker):=by
 obtain⟨hi,hp,_⟩:=List.findIdx?_eq_some_iff_getElem.1 h;refine⟨by rw[dH hi,beq_iff_eq.1 hp],?_⟩;unfold aO.fG;rw[if_neg hk,h]
theorem Dl {k:List It}{ker:List (List It)}(hk:k≠[])(h:ker.idxOf? k=none):k∉ker/\fG k ker=((ker.length:Int),ker++[k]):=by
 refine⟨fun hm=>?_,?_⟩
 ·have:=List.findIdx?_eq_none_iff.1 h k hm;simp at this
 ·unfold aO.fG;rw[if_neg hk,h]
def NumP (k:List It)(B:Nat)(W:World)(bA bN bM bG bR:Nat)(gc:Array Value)(nv:Value)(K:List KR)(N:List NR)(F:List (Nat×List It))(rv:Value)(xs:List Value)(mi:Item)(e:Ending)(w':World):Prop:=
 ∃ K' kv',e=.returned (.int .i64 (fG k (kers K)).1)/\kers K'=(fG k (kers K)).2/\BF B W w' bA bN bM bG bR gc kv' nv K' N F rv xs mi
theorem dI (K:List KR):(kers K).length=K.length:=by unfold kers;rw[List.length_map]
section
variable {B:Nat}{W w w':World}{bA bN bM bG bR:Nat}{gc:Array Value}{kv nv:Value}{K:List KR}{N:List NR}{F:List (Nat×List It)}{rv:Value}{xs:List Value}{mi:Item}
theorem Ll {l:List Item}(h:az B W w l){L L':List (Value×Value)}(i:Nat)(hx:l[i]?=some (lI 9 bM L))(hm:bH Tryz.prog 9 w' bM L')(hg:w.grownBy w' (some bM)):az B W w' (l.set i (lI 9 bM L')):=
 h.upd i hx (lI 9 bM L') (Touch.grown hg) hm fun b hb=>by
  have hb':b=bM:=by
   have:b∈[bM]:=hb;simpa using this
  subst hb';exact⟨.inl hb,hm.lt⟩
theorem iq {l:List Item}(h:az B W w l){b k:Nat}{cs:Array Value}{e:TypeId}{v:Value}(i:Nat)(hx:l[i]?=some (ae b (.cells cs e (0,0)))):az B W (w.setCell ⟨b,k,none⟩ v) (l.set i (ae b (.cells (cs.setIfInBounds k v) e (0,0)))):=
 h.upd i hx (ae b (.cells (cs.setIfInBounds k v) e (0,0))) (Touch.set w b k v) (heap_setCell_same w b k cs e v (h.ok i _ hx)) fun c hc=>by
  have hb':c=b:=by
   have:c∈[b]:=hc;simpa using this
  subst hb';exact⟨.inl hc,by have:=(h.lt i _ hx c hc).2;simpa using this⟩
end
theorem uj {B Bt:Nat}{W w:World}{bA bN bM bG bR:Nat}{gc:Array Value}{kv nv:Value}{K:List KR}{N:List NR}{F:List (Nat×List It)}{rv:Value}{xs:List Value}{mi:Item}{v:Value}{k:List It}
  (h:BF B W w bA bN bM bG bR gc kv nv K N F rv xs mi) (hv:Ho F v k) (hr:∀ x∈k,inR x) (hl:k.length<=2000) (hK:K.length<=100000) (ht:Tab Bt W) (hBt:Bt<=B) :
  Calls Tryz.prog 60 #[v,.pointer (some ⟨bN,0,none⟩),.pointer (some ⟨bA,0,none⟩)] w (NumP k B W bA bN bM bG bR gc nv K N F rv xs mi):=by
 have HH:=hid h;have HR:=hid hr;have hit:=hv.items h.froz (by omega);by_cases hk:k=[]
 ·have hv0:v=.slice none 0 0:=by
   rcases hv with⟨e,_⟩ | ⟨_,_,_,e,_⟩
   ·exact e
   ·exact absurd hk e
  subst hk hv0;clear h hv hit;go_enter Tryz.func60,Tryz.ntmps60;go_wp2_with fail;go_ret;refine⟨K,kv,?_,?_,HH.o⟩
  ·unfold aO.fG;rw[if_pos rfl];rfl
  ·unfold aO.fG;rw[if_pos rfl]
 ·obtain⟨g,c,rfl,hkF⟩:∃ g c,v=.slice (some ⟨g,0,none⟩) k.length c/\(g,k)∈F:=by
   rcases hv with⟨_,e⟩ | ⟨g,c,e,_,hF⟩
   ·exact absurd e hk
   ·exact⟨g,c,e,hF⟩
  have hkl:0<k.length:=List.length_pos_iff.2 hk;have htw:Tab B w:=Tab.up (ht.on (h.bel.mono hBt)) hBt;have KA:=hid (zM hit hr (by omega) htw h.size);have HKF:=hid hkF;obtain⟨n,hn⟩:=ai (k.length);have HN:=hid hn;rw[hn]at KA hkl hl ⊢;have t0:((n:Int) == 0)=false:=by rw[beq_eq_false_iff_ne];omega
  have t1:¬ (n:Int)=0:=by omega
  clear h hv hit hkF htw hn;go_enter Tryz.func60,Tryz.ntmps60;go_wp2_with fail;refine KA.o.mono ?_;rintro e w2 ⟨rfl,hb2⟩;have HF2:=hid (HH.o.below hb2);have cN:ay w2 bN 0 (.map (some bM)):=cell1 HF2.o.boxN;have hkey:=key9 HR.o (by rw[HN.o];omega);clear hb2 KA;cases hidx:(kers K).idxOf? k with
  | some i =>
   obtain⟨h1,h2⟩:=Dk hk hidx;have HNX:=hid h2;have HME:=hid (Iw h1);clear h1 h2 hidx;unfold yh at HME hkey;go_wp2_with (at_lookup;refine uM rfl (.tmp 14) (.tmp 15) 121 rfl Bf Tryz.underlying121 rfl HF2.o.map_ (.string ⟨(jw k).toArray⟩) (.int .i64 (i:Int)) (.string (jw k)) rfl hkey HME.o ?_);go_ret;refine⟨K,kv,?_,?_,HF2.o⟩
   ·rw[HNX.o];rfl
   ·rw[HNX.o]
  | none =>
   obtain⟨h1,h2⟩:=Dl hk hidx;have HNX:=hid h2;have HNN:=hid (Iz h1);clear h1 h2 hidx;have hrow:=HF2.o.rM;obtain⟨ko,kc,rfl⟩:=bF hrow;rw[List.length_map]at HH HF2 hrow;have cA:ay w2 bA 0 (.slice ko K.length kc):=ak HF2.o.tq 0;have HRW:=hid hrow;clear hrow;unfold yh at HNN hkey;go_wp2_with (first | (at_lookup;refine uN rfl (.tmp 14) (.tmp 15) 121 rfl Bf Tryz.underlying121 rfl HF2.o.map_ (.string ⟨(jw k).toArray⟩) (.int .i64 0) (.string (jw k)) rfl hkey (zero3 _) HNN.o ?_) | (at_mapUpdate;refine rV rfl (.tmp 24) (.tmp 25) (.tmp 26) 121 (.inl rfl) Bf Tryz.underlying121 rfl HF2.o.map_ (.string ⟨(jw k).toArray⟩) (.int .i64 (K.length:Int)) (.string (jw k)) rfl rfl hkey HNN.o ?_));intro w3 hm3 hg3;have hm4:bH Tryz.prog 9 w3 bM (kmap (kers K++[k])):=by rw[Iy,dI];exact hm3
   have F3:=Ll HF2.o.foot 2 rfl hm4 hg3;have cA:ay w3 bA 0 (.slice ko K.length kc):=ak (F3.ok 0 _ rfl) 0;obtain⟨wq,eq⟩:=ai (w3.alloc (.cells #[.slice (some ⟨g,0,none⟩) n c] 45));have hbq:aj w3 wq:=dM eq;have HNQ:=hid (show wq.heap[w3.heap.size]?=some (.cells #[.slice (some ⟨g,0,none⟩) n c] 45 (0,0))from by rw[<-eq];exact aK _ _);have HF4:=hid (F3.below hbq);have hdq:B<=wq.heap.size:=eX HF4.o.le HF4.o.bel.size;have HROW:=hid (show wq.ownsRow B 45 1 (.slice ko K.length kc) (K.map kval).length (K.map kval)from HF4.o.ok 3 _ rfl);have hKl:(K.map kval).length<=1000000:=by rw[List.length_map];omega
   clear hm3 hg3 hm4 F3 hbq;go_wp2_with (at_builtin;refine dB rfl (.tmp 28) (.tmp 30) 53 45 rfl (.slice none 0 0) 24 Tryz.underlying53 info28 rfl (by decide) B (.slice ko K.length kc) (K.map kval) rfl HROW.o w3.heap.size rfl (.slice (some ⟨g,0,none⟩) n c) HNQ.o rfl hKl hdq ?_);intro v7 w7 hown7 hg7 hat7;have F7:=HF4.o.push 3 (ys:=K.map kval++[.slice (some ⟨g,0,none⟩) n c]) rfl (by rw[List.length_append,List.length_map];exact hown7) hg7 hat7;have nA:w7.heap[bA]?=some (.cells #[.slice ko K.length kc,nv] 55 (0,0)):=F7.ok 0 _ rfl;have cA7:ay w7 bA 0 (.slice ko K.length kc):=ak nA 0;have fA7:=bY nA 0;have HF8:=hid (iq (k:=0) (v:=v7) F7 0 rfl);obtain⟨o7,c7,rfl⟩:=bF hown7;clear hown7 hg7 hat7 F7 nA eq cA;go_wp2_with fail;go_ret;refine⟨K++[(g,c,k)],.slice o7 (K.length+1) c7,?_,?_,?_,fun q hq=>?_⟩
   rotate_left 2
   ·have e1:kers (K++[(g,c,k)])=kers K++[k]:=(by simp[kers]);have e2:(K++[(g,c,k)]).map kval=K.map kval++[.slice (some ⟨g,0,none⟩) n c]:=by rw[<-HN.o];simp[kval]
    unfold Fv;rw[e1,e2];exact HF8.o
   ·rcases List.mem_append.1 hq with hq | hq
    ·exact HH.o.inF q hq
    ·obtain rfl:q=(g,c,k):=by simpa using hq
     exact HKF.o
   ·rw[HNX.o,dI];rfl
   ·rw[HNX.o];simp[kers]
end Go.Proofs.YticmnfmijdgmbaaGreatDoor
namespace Go.Proofs.aO
open Go.Proofs.YticmnfmijdgmbaaGreatDoor (GD PD aB inR)
theorem xI (G:GD)(c:List It):∀ (r:List Int) (s:List Int×List (List It)),∀ k∈(jP G c r s).2,k∈s.2\/∃ y,k=aX G c y
 | [],s,k,h=>.inl h
 | y::r,s,k,h=>by
  rw[jP]at h;rcases xI G c r _ k h with h | h
  ·simp only at h;unfold fG at h;split at h
   ·exact .inl h
   ·split at h
    ·exact .inl h
    ·rcases List.mem_append.1 h with h | h
     ·exact .inl h
     ·exact .inr ⟨y,List.mem_singleton.1 h⟩
  ·exact .inr h
def fF (G:GD)(c:List It)(ker:List (List It))(t:Nat):List Int×List (List It):=jP G c ((cO G).take t) ([],ker)
theorem qX {G:GD}{c:List It}{ker:List (List It)}{t:Nat}{y:Int}(h:(cO G)[t]?=some y):fF G c ker (t+1)=((fF G c ker t).1++[(fG (aX G c y) (fF G c ker t).2).1],(fG (aX G c y) (fF G c ker t).2).2):=by
 unfold fF;rw[List.take_add_one,h,CO];rfl
theorem xK (G:GD)(c:List It)(ker:List (List It)):fF G c ker (cO G).length=jP G c (cO G) ([],ker):=by unfold fF;rw[List.take_length]
theorem xJ (G:GD)(c:List It)(ker:List (List It))(t:Nat):(fF G c ker t).1.length<=t/\(fF G c ker t).2.length<=ker.length+t:=by
 obtain⟨h1,h2,h3⟩:=ou G c ((cO G).take t) ([],ker);unfold fF;rw[List.length_take]at h1 h3;exact⟨by simp only[List.length_nil]at h1;omega,by simp only at h3;omega⟩
theorem qR {G:GD}{t:Nat}(h:t<G.terms.length):(cO G)[t]?=some (t:Int):=by
 unfold cO;rw[List.getElem?_append_left (by simpa using h)];simp[h]
theorem qU {G:GD}{s:Nat}(h:s<G.sorts.length):(cO G)[G.terms.length+s]?=some (-1-(s:Int)):=by
 unfold cO;rw[List.getElem?_append_right (by simp),List.length_map,List.length_range,Nat.add_sub_cancel_left];simp[h]
theorem Cj {G:GD}(hv:aB G=true){c:List It}(hc:∀ x∈c,bu G x=true){s:Int} : (∀ y∈aX G c s,inR y):=fun y hy=>by
 obtain⟨x,hx,hb,rfl⟩:=iU.1 hy;obtain⟨h1,h2,h3,h4⟩:=bW.1 (hc x hx);have h5:=right_le hv h1 h2;have h6:=(Go.Proofs.YticmnfmijdgmbaaGreatDoor.bn hv).2.2.1;exact⟨⟨by show -9223372036854775808<=x.1;omega,by show x.1<=9223372036854775807;omega⟩,by show -9223372036854775808<=x.2+1;omega,by show x.2+1<=9223372036854775807;omega⟩
theorem FW {G:GD}(l:List It)(s:Int)(hv:aB G=true):(aX G (aP G l) s).length<=1573:=by
 have:=uO G l s;unfold pK fD at this;rw[if_pos hv]at this;exact this
theorem lw {G:GD}(hv:aB G=true):∀ m,∀ k∈(ag G m).ker,k.length<=1573
 | 0,k,hk=>by
  rw[show k=[(-1,0)]by simpa[ag] using hk];decide
 | m+1,k,hk=>by
  rcases xI G _ _ _ k hk with h | ⟨y,rfl⟩
  ·exact lw hv m k h
  ·exact FW _ y hv
theorem fB.zero (G:GD):fB G 0:=⟨fun m hm=>absurd hm (Nat.not_lt_zero m),fun m hm=>absurd hm (Nat.not_lt_zero m)⟩
theorem fB.le {G:GD}{m:Nat}(h:fB G m):(ag G m).ker.length<=2000:=by
 cases m with
 | zero=>show(1:Nat)<=2000;omega
 | succ m=>exact h.2 m (Nat.lt_succ_self m)
theorem fB.succ {G:GD}{m:Nat}(h:fB G m)(h1:m<(ag G m).ker.length)(h2:(ag G (m+1)).ker.length<=2000):fB G (m+1):=
 ⟨fun q hq=>by
  rcases Nat.lt_succ_iff_lt_or_eq.1 hq with e | e
  ·exact h.1 q e
  ·rw[e];exact h1,fun q hq=>by
  rcases Nat.lt_succ_iff_lt_or_eq.1 hq with e | e
  ·exact h.2 q e
  ·rw[e];exact h2⟩
theorem jb (G:GD)(m:Nat):(ag G (m+1)).ker=(fF G (aP G ((ag G m).ker.getD m [])) (ag G m).ker (cO G).length).2/\(ag G (m+1)).nx=(ag G m).nx++[(fF G (aP G ((ag G m).ker.getD m [])) (ag G m).ker (cO G).length).1]:=by
 have h:=(iL G m).1;show(gJ G (ag G m)).ker=_/\(gJ G (ag G m)).nx=_;unfold gJ;rw[h,xK];exact⟨rfl,rfl⟩
theorem Dj {G:GD}{n:Nat}(h:aN G n):∀ R∈(ag G n).nx,∀ v∈R,-9223372036854775808<=v/\v<=9223372036854775807:=fun R hR v hv=>by
 obtain⟨i,hi⟩:=List.mem_iff_getElem?.1 hR;obtain⟨k,hk⟩:=List.mem_iff_getElem?.1 hv;obtain⟨hI,ha,hl⟩:=h.inv;have hrl:=hI.rl i R hi;have hil:=(List.getElem?_eq_some_iff.1 hi).1;have hkl:=(List.getElem?_eq_some_iff.1 hk).1;obtain⟨s,hs⟩:∃ s,(cO G)[k]?=some s:=⟨_,dH (by omega)⟩;have h2:=h.1.le;rcases hI.gY (by rw[ha];have:=(iL G n).2;omega) hs hi hk with⟨e,_⟩ | ⟨q,e,_,hq,_⟩
 ·omega
 ·omega
end Go.Proofs.aO
namespace Go.Proofs.YticmnfmijdgmbaaGreatDoor
open Go Go.RowKit Go.Lib
open aO (It fG aX aP ag aN dn)
def bz (w:World)(v:Value)(n:Nat)(p:Nat->Value->Prop):Prop:=eU v n (fun i b off=>∃ u,w.cell? ⟨b,off+i,none⟩=some u/\p i u)
theorem bz.below {w w':World}{v:Value}{n:Nat}{p q:Nat->Value->Prop}(h:bz w v n p)(hb:aj w w')(hpq:∀ i u,p i u->q i u):bz w' v n q:=eU.mono h fun i b off ⟨u,h1,h2⟩=>⟨u,cell_below hb h1,hpq i u h2⟩
theorem bz.at_ {w:World}{o:Option Addr}{n n' c:Nat}{p:Nat->Value->Prop}(h:bz w (.slice o n' c) n p){k:Nat}(hk:k<n):∃ b off u,o=some ⟨b,off,none⟩/\w.cell? ⟨b,off+k,none⟩=some u/\p k u:=by
 obtain⟨o',c',e,_,hcs⟩:=h;injection e with e1 e2 e3;subst e1;obtain⟨b,off,rfl,hq⟩:=hcs (by omega);obtain⟨u,h1,h2⟩:=hq k hk;exact⟨b,off,u,rfl,h1,h2⟩
theorem bz.len {w:World}{v:Value}{n:Nat}{p:Nat->Value->Prop}(h:bz w v n p):∃ o c,v=.slice o n c/\n<=9223372036854775807:=by
 obtain⟨o,c,e,h1,_⟩:=h;exact⟨o,c,e,h1⟩
def jY (w:World)(av:Value)(ker:List (List It))(nx:List (List Int)):Prop:=
 ∃ kv nv,av=.agg #[kv,nv]/\bz w kv ker.length (fun i u=>aS w u (ker.getD i []))/\bz w nv nx.length (fun i u=>dw w u (nx.getD i []))
theorem jY.below {w w':World}{av:Value}{ker:List (List It)}{nx:List (List Int)}(h:jY w av ker nx)(hb:aj w w'):jY w' av ker nx:=by
 obtain⟨kv,nv,e,h1,h2⟩:=h;exact⟨kv,nv,e,h1.below hb fun i u hu=>hu.below hb,h2.below hb fun i u hu=>hu.mono hb⟩
def wu:Value:=.agg #[.slice none 0 0,.slice none 0 0]
def MZ (G:GD)(w:World)(e:Ending)(w':World):Prop:=
 aj w w'/\((aB G=false/\e=.returned (.tuple #[wu,.int .i64 1]))\/(aB G=true/\∃ n,(dn G n/\e=.returned (.tuple #[wu,.int .i64 4]))\/(aN G n/\∃ av,e=.returned (.tuple #[av,.int .i64 0])/\jY w' av (ag G n).ker (ag G n).nx)))
theorem oG {w:World}{B:Nat}{e:TypeId}{v:Value}{vs:List Value}{p:Nat->Value->Prop}(h:w.ownsRow B e 1 v vs.length vs)(hl:vs.length<=9223372036854775807)(hp:∀ (i:Nat) u,vs[i]?=some u->p i u):bz w v vs.length p:=by
 obtain⟨o,c,rfl⟩:=bF h;refine⟨o,c,rfl,hl,fun h0=>?_⟩;rcases h.2 with⟨h1,h2⟩ | ⟨g,cap,cur,h1,hB,hg,h2,h3,h4,h5⟩
 ·omega
 ·injection h1 with h1 _ _;subst h1;refine⟨g,0,rfl,fun i hi=>?_⟩;obtain⟨u,hu⟩:∃ u,vs[i]?=some u:=⟨_,dH hi⟩;refine⟨u,?_,hp i u hu⟩;rw[Nat.zero_add,ak hg,<-Array.getElem?_toList,<-List.getElem?_take_of_lt (show i<vs.length*1 by omega),h5,hu]
theorem GK {w:World}{g c:Nat}{l:List Int}(h:IntH w g l)(hl:l.length<=9223372036854775807)(hr:∀ x∈l,-9223372036854775808<=x/\x<=9223372036854775807):dw w (.slice (some ⟨g,0,none⟩) l.length c) l:=by
 refine⟨⟨_,_,rfl,hl,fun _=>⟨g,0,rfl,fun i hi=>?_⟩⟩,hr⟩;show w.cell? ⟨g,0+i,none⟩=_;rw[Nat.zero_add];refine h i _ ?_;rw[dH hi,dL,dH hi];rfl
theorem Di {w:World}{B g n c:Nat}{l:List Int}(h:w.ownsRow B 3 1 (.slice (some ⟨g,0,none⟩) n c) n (zints l)):IntH w g l:=fun i x hi=>by
 have hlen:l.length=n:=by
  have:=h.1;unfold zints at this;rw[List.length_map]at this;omega
 rcases h.2 with⟨h1,_⟩ | ⟨g',cap,cur,h1,hB,hg,h2,h3,h4,h5⟩
 ·cases h1
 ·injection h1 with h1 _ _;injection h1 with h1;injection h1 with h1;subst h1;have hil:=(List.getElem?_eq_some_iff.1 hi).1;rw[ak hg,<-Array.getElem?_toList,<-List.getElem?_take_of_lt (show i<n*1 by omega),h5];unfold zints;rw[List.getElem?_map,hi];rfl
section
variable {B:Nat}{W w w':World}{bA bN bM bG bR:Nat}{gc:Array Value}{kv nv:Value}{K:List KR}{N:List NR}{F:List (Nat×List It)}{rv:Value}{xs:List Value}{mi:Item}
theorem aut_of (hrK:w.ownsRow B 45 1 kv (K.map kval).length (K.map kval))(hrN:w.ownsRow B 43 1 nv (N.map nval).length (N.map nval))(hfz:(dY F).ok w)(hnf:(nfI N).ok w)(hin:∀ q∈K,(q.1,q.2.2)∈F)(hK:K.length<=1000000)(hN:N.length<=1000000)(hk:∀ k∈kers K,k.length<=1000000)(hn:∀ R∈nxts N,R.length<=1000000/\∀ v∈R,-9223372036854775808<=v/\v<=9223372036854775807):jY w (.agg #[kv,nv]) (kers K) (nxts N):=by
 refine⟨kv,nv,rfl,?_,?_⟩
 ·have:=oG (p:=fun i u=>aS w u ((kers K).getD i [])) hrK (by rw[List.length_map];omega) fun i u hu=>by
   rw[List.getElem?_map]at hu;cases hq:K[i]? with
   | none=>rw[hq]at hu;cases hu
   | some q =>
    rw[hq]at hu;obtain rfl:kval q=u:=Option.some.inj hu;have hm:=List.mem_of_getElem? hq;have e:(kers K).getD i []=q.2.2:=aO.getD_get (by unfold kers;rw[List.getElem?_map,hq];rfl);rw[e];exact eQ (hfz (q.1,q.2.2) (hin q hm)) (eX (hk q.2.2 (List.mem_map.2 ⟨q,hm,rfl⟩)) (by decide))
  rw[List.length_map]at this;rw[dI];exact this
 ·have:=oG (p:=fun i u=>dw w u ((nxts N).getD i [])) hrN (by rw[List.length_map];omega) fun i u hu=>by
   rw[List.getElem?_map]at hu;cases hq:N[i]? with
   | none=>rw[hq]at hu;cases hu
   | some q =>
    rw[hq]at hu;obtain rfl:nval q=u:=Option.some.inj hu;have hm:=List.mem_of_getElem? hq;have e:(nxts N).getD i []=q.2.2:=aO.getD_get (by unfold nxts;rw[List.getElem?_map,hq];rfl);rw[e];have h2:=hn q.2.2 (List.mem_map.2 ⟨q,hm,rfl⟩);exact GK (hnf q hm) (eX h2.1 (by decide)) h2.2
  rw[List.length_map]at this;unfold nxts;rw[List.length_map];exact this
end
open aO (It fG)
theorem az.two {B:Nat}{W w:World}{l:List Item}(h:az B W w l)(i j:Nat){x y:Item}(hx:l[i]?=some x)(hy:l[j]?=some y)(hij:i≠j)(z u:Item)(hz:z.ok w)(hu:u.ok w)(hbz:∀ b∈z.bl,b∈x.bl\/b∈y.bl)(hbu:∀ b∈u.bl,b∈x.bl\/b∈y.bl)(hd:∀ b∈z.bl,b∉u.bl):az B W w ((l.set j u).set i z):=by
 have hil:=(List.getElem?_eq_some_iff.1 hx).1;have hjl:=(List.getElem?_eq_some_iff.1 hy).1;have key:∀ (k:Nat) v,((l.set j u).set i z)[k]?=some v->(k=i/\v=z)\/(k=j/\v=u)\/(k≠i/\k≠j/\l[k]?=some v):=by
  intro k v hv;by_cases e:k=i
  ·subst e;rw[List.getElem?_set_self (by rw[List.length_set];exact hil)]at hv;injection hv with hv;exact .inl ⟨rfl,hv.symm⟩
  ·rw[List.getElem?_set_ne (fun e'=>e e'.symm)]at hv;by_cases e2:k=j
   ·subst e2;rw[List.getElem?_set_self hjl]at hv;injection hv with hv;exact .inr (.inl ⟨rfl,hv.symm⟩)
   ·rw[List.getElem?_set_ne (fun e'=>e2 e'.symm)]at hv;exact .inr (.inr ⟨e,e2,hv⟩)
 have out:∀ b,(b∈x.bl\/b∈y.bl)->(B<=b/\b<w.heap.size)/\∀ k v,k≠i->k≠j->l[k]?=some v->b∉v.bl:=fun b hb=>by
  rcases hb with hb | hb
  ·exact⟨h.lt i x hx b hb,fun k v k1 k2 hv hm=>k1 (h.apart k i v x b hv hx hm hb)⟩
  ·exact⟨h.lt j y hy b hb,fun k v k1 k2 hv hm=>k2 (h.apart k j v y b hv hy hm hb)⟩
 refine⟨h.bel,h.le,fun k v hv=>?_,fun k v hv b hb=>?_,fun k m v q b hv hq hb hb'=>?_⟩
 ·rcases key k v hv with⟨_,rfl⟩ | ⟨_,rfl⟩ | ⟨_,_,h3⟩
  ·exact hz
  ·exact hu
  ·exact h.ok k v h3
 ·rcases key k v hv with⟨_,rfl⟩ | ⟨_,rfl⟩ | ⟨_,_,h3⟩
  ·exact(out b (hbz b hb)).1
  ·exact(out b (hbu b hb)).1
  ·exact h.lt k v h3 b hb
 ·rcases key k v hv with⟨rfl,rfl⟩ | ⟨rfl,rfl⟩ | ⟨k1,k2,k3⟩
  ·rcases key m q hq with⟨rfl,rfl⟩ | ⟨rfl,rfl⟩ | ⟨m1,m2,m3⟩
   ·rfl
   ·exact absurd hb' (hd b hb)
   ·exact absurd hb' ((out b (hbz b hb)).2 m q m1 m2 m3)
  ·rcases key m q hq with⟨rfl,rfl⟩ | ⟨rfl,rfl⟩ | ⟨m1,m2,m3⟩
   ·exact absurd hb (hd b hb')
   ·rfl
   ·exact absurd hb' ((out b (hbu b hb)).2 m q m1 m2 m3)
  ·rcases key m q hq with⟨rfl,rfl⟩ | ⟨rfl,rfl⟩ | ⟨m1,m2,m3⟩
   ·exact absurd hb ((out b (hbz b hb')).2 k v k1 k2 k3)
   ·exact absurd hb ((out b (hbu b hb')).2 k v k1 k2 k3)
   ·exact h.apart k m v q b k3 m3 hb hb'
theorem Ir (n:Nat)(hn:n<=1000000)(w:World):(Instr.makeSlice 43 (.int .i64 0) (.int .i64 (n:Int))).run Tryz.prog w=.ok (.slice (some ⟨w.heap.size,0,none⟩) 0 n) (w.alloc (.cells (Array.replicate n (.int .i64 0)) 3)):=by
 obtain⟨i0,hi,hz0,hz1,hz2⟩:=info_parts info3;have:=run_makeSlice (P:=Tryz.prog) (w:=w) 43 3 i0 (.int .i64 0) Tryz.underlying43 hi hz0 .i64 .i64 (0:Int) (n:Int) (by omega) (by omega) (by rw[hz1];omega) (by rw[hz2];omega) (by omega);rw[this,hz1];have e:madeCells (Value.int .i64 0).cells ((n:Int).toNat*1)=Array.replicate n (.int .i64 0):=by
  rw[Int.toNat_natCast,Nat.mul_one];refine Array.ext (by simp[madeCells]) fun i h1 h2=>?_;simp[madeCells,Value.cells,Nat.mod_one]
 rw[e,Int.toNat_natCast];rfl
def pairI (b:Nat)(L:List (Value×Value))(R:List (Nat×List It)):Item where
 bl:=b::R.map (·.1)
 ok w:=bH Tryz.prog 61 w b L/\∀ q∈R,je w q.1 q.2
 kept h hw:=⟨hw.1.kept (h b (by simp)),fun q hq=>(hw.2 q hq).kept (h q.1 (List.mem_cons_of_mem _ (List.mem_map.2 ⟨q,hq,rfl⟩)))⟩
def rowsOf (f:Int->List It)(M:List FU):List (Nat×List It):=M.map fun p=>(p.2.1,f p.1)
section
variable {B:Nat}{W w w':World}{bA bN bM bG bR:Nat}{gc:Array Value}{kv nv:Value}{K:List KR}{N:List NR}{F:List (Nat×List It)}{rv:Value}{xs:List Value}{mi:Item}
theorem BF.steps (h:BF B W w bA bN bM bG bR gc kv nv K N F rv xs mi){f:Int->List It}{b:Nat}{M:List FU}(hs:wP w w' f b M):BF B W w' bA bN bM bG bR gc kv nv K N (F++rowsOf f M) rv xs (lI 61 b (M.map (lV f))):=by
 have hrow:∀ q∈rowsOf f M,je w' q.1 q.2/\w.heap.size<=q.1/\q.1<w'.heap.size/\b≠q.1:=fun q hq=>by
  obtain⟨p,hp,rfl⟩:=List.mem_map.1 hq;have h1:=hs.own p hp;obtain⟨cur,hc⟩:=ik h1;exact⟨je.nZ h1 rfl,(iF h1 p.2.1 rfl).1,(iF h1 p.2.1 rfl).2,ja hs.map hc⟩
 have h1:=h.foot.upd 10 rfl (pairI b (M.map (lV f)) (rowsOf f M)) ((Touch.below hs.bel).mono (by simp)) ⟨hs.map,fun q hq=>(hrow q hq).1⟩ (fun c hc=>by
  rcases List.mem_cons.1 hc with e | e
  ·rw[e];exact⟨.inr hs.ge,hs.map.lt⟩
  ·obtain⟨q,hq,rfl⟩:=List.mem_map.1 e;exact⟨.inr (hrow q hq).2.1,(hrow q hq).2.2.1⟩)
 have h2:=h1.two 5 10 rfl rfl (by decide) (dY (F++rowsOf f M)) (lI 61 b (M.map (lV f))) (fun q hq=>by
  rcases List.mem_append.1 hq with e | e
  ·exact(h1.ok 5 _ rfl) q e
  ·exact(hrow q e).1) hs.map (fun c hc=>by
  obtain⟨q,hq,rfl⟩:=List.mem_map.1 hc;rcases List.mem_append.1 hq with e | e
  ·exact .inl (List.mem_map.2 ⟨q,e,rfl⟩)
  ·exact .inr (List.mem_cons_of_mem _ (List.mem_map.2 ⟨q,e,rfl⟩))) (fun c hc=>by
  have e:c=b:=by
   have:c∈[b]:=hc;simpa using this
  rw[e];exact .inr (List.mem_cons_self)) (fun c hc hc2=>by
  have e:c=b:=by
   have:c∈[b]:=hc2;simpa using this
  subst e;obtain⟨q,hq,e2⟩:=List.mem_map.1 hc;rcases List.mem_append.1 hq with e | e
  ·have h5:=(h.foot.lt 5 _ rfl q.1 (List.mem_map.2 ⟨q,e,rfl⟩)).2;have h6:=hs.ge;omega
  ·exact(hrow q e).2.2.2 e2.symm)
 exact⟨h2,fun q hq=>List.mem_append_left _ (h.inF q hq)⟩
theorem BF.qM (h:BF B W w bA bN bM bG bR gc kv nv K N F rv xs mi){n:Nat}(hn:n<=1000000)(ew:w.alloc (.cells (Array.replicate n (.int .i64 0)) 3)=w'):BF B W w' bA bN bM bG bR gc kv nv K N F (.slice (some ⟨w.heap.size,0,none⟩) 0 n) [] mi:=by
 have hb:aj w w':=dM ew;have hh:w'.heap[w.heap.size]?=some (.cells (Array.replicate n (.int .i64 0)) 3 (0,0)):=dO ew;refine⟨h.foot.upd 7 rfl (pU B 3 (.slice (some ⟨w.heap.size,0,none⟩) 0 n) []) ((Touch.below hb).mono (by simp)) ?_ ?_,h.inF⟩
 ·exact⟨by simp,.inr ⟨_,_,_,rfl,h.size,hh,by simp,(by unfold maxLen;omega),by simp,by simp⟩⟩
 ·intro c hc;have e:c=w.heap.size:=by
   have:c∈(Value.slice (some ⟨w.heap.size,0,none⟩) 0 n).ownBlock.toList:=hc;simpa[Value.ownBlock] using this
  rw[e];exact⟨.inr (bJ _),(dZ hh)⟩
theorem BF.number (h:BF B W w bA bN bM bG bR gc kv nv K N F rv xs mi){v':Value}{ys:List Value}(hown:w'.ownsRow B 3 1 v' ys.length ys)(hg:w.grownBy w' rv.ownBlock)(hat:v'.ownBlock=rv.ownBlock\/v'.ownBlock=some w.heap.size):BF B W w' bA bN bM bG bR gc kv nv K N F v' ys mi:=
 ⟨h.foot.push 7 rfl hown hg hat,h.inF⟩
theorem BF.JY {R:List Int}{g c:Nat}(h:BF B W w bA bN bM bG bR gc kv nv K N F (.slice (some ⟨g,0,none⟩) R.length c) (zints R) mi){v':Value}(hown:w'.ownsRow B 43 1 v' (N.length+1) (N.map nval++[.slice (some ⟨g,0,none⟩) R.length c]))(hg:w.grownBy w' nv.ownBlock)(hat:v'.ownBlock=nv.ownBlock\/v'.ownBlock=some w.heap.size) :
  w'.heap[bA]?=some (.cells #[kv,nv] 55 (0,0))/\BF B W (w'.setCell ⟨bA,1,none⟩ v') bA bN bM bG bR gc kv v' K (N++[(g,c,R)]) F (.slice none 0 0) [] Dq:=by
 have e2:(N++[(g,c,R)]).map nval=N.map nval++[.slice (some ⟨g,0,none⟩) R.length c]:=by simp[nval]
 have h1:=h.foot.push 4 (ys:=N.map nval++[.slice (some ⟨g,0,none⟩) R.length c]) rfl (by rw[List.length_append,List.length_map];exact hown) hg hat;have h2:=iq (k:=1) (v:=v') h1 0 rfl;have hrow:=h2.ok 7 _ rfl;have h3:=h2.two 6 7 rfl rfl (by decide) (nfI (N++[(g,c,R)])) (pU B 3 (.slice none 0 0) []) (fun q hq=>by
  rcases List.mem_append.1 hq with e | e
  ·exact(h2.ok 6 _ rfl) q e
  ·obtain rfl:q=(g,c,R):=by simpa using e
   refine Di (n:=R.length) (c:=c) (B:=B) ?_;have hl:(zints R).length=R.length:=by unfold zints;rw[List.length_map]
   have:World.ownsRow _ B 3 1 (.slice (some ⟨g,0,none⟩) R.length c) (zints R).length (zints R):=hrow;rw[hl]at this;exact this) (World.ownsRow_nil _ _ _ _) (fun b hb=>by
  obtain⟨q,hq,rfl⟩:=List.mem_map.1 hb;rcases List.mem_append.1 hq with e | e
  ·exact .inl (List.mem_map.2 ⟨q,e,rfl⟩)
  ·obtain rfl:q=(g,c,R):=by simpa using e
   refine .inr ?_;show g∈(Value.slice (some ⟨g,0,none⟩) R.length c).ownBlock.toList;simp[Value.ownBlock]) (fun b hb=>by
  have:b∈(Value.slice none 0 0).ownBlock.toList:=hb;simp[Value.ownBlock]at this) (fun b _ hb=>by
  have:b∈(Value.slice none 0 0).ownBlock.toList:=hb;simp[Value.ownBlock]at this)
 have h4:=h3.say 10 rfl Dq trivial (fun b hb=>by cases hb);refine⟨h1.ok 0 _ rfl,?_,h.inF⟩;unfold Fv;rw[e2];exact h4
theorem BF.ker (h:BF B W w bA bN bM bG bR gc kv nv K N F rv xs mi)(hK:K.length<=1000000){i:Nat}{q:KR}(hi:K[i]?=some q):∃ g c,kv=.slice (some ⟨g,0,none⟩) K.length c/\w.cell? ⟨g,i,none⟩=some (kval q):=by
 obtain⟨o,c,e⟩:=bF h.rM;rw[List.length_map]at e;have hr:=oG (p:=fun j u=>(K.map kval)[j]?=some u) h.rM (by rw[List.length_map];omega) (fun j u hu=>hu);rw[e]at hr;obtain⟨b,off,u,e1,e2,e3⟩:=hr.at_ (k:=i) (by rw[List.length_map];exact(List.getElem?_eq_some_iff.1 hi).1);have hu:u=kval q:=by
  have e3':(K.map kval)[i]?=some u:=e3;rw[List.getElem?_map,hi]at e3';exact(Option.some.inj e3').symm
 have hrow:=h.rM;rw[e,List.length_map]at hrow;rcases hrow.2 with⟨h1,h2⟩ | ⟨g,cap,cur,h1,_⟩
 ·injection h1 with h1;rw[h1]at e1;cases e1
 ·injection h1 with h1 _ h2;rw[h1]at e1;injection e1 with e1;injection e1 with e1 e4;subst e1;refine⟨g,c,by rw[e,h1],?_⟩;rw[<-hu,show i=off+i by omega];exact e2
end
end Go.Proofs.YticmnfmijdgmbaaGreatDoor
