/- The automaton while it is built: what lies in memory; a kernel's number. -/
import Derived.Test.YticmnfmijdgmbaaGreatDoorSr
set_option linter.unusedVariables false
set_option linter.unusedSimpArgs false
namespace Go.Proofs.YticmnfmijdgmbaaGreatDoor
open Go Go.RowKit Go.Lib
open X14 (It numX)
open Go.Maps (Keyed)
theorem info28:(Tryz.prog.info? 45).map (fun i=>(i.zero,i.size,i.bytes))=some (some (.slice none 0 0),1,24):=by kernel_rfl
theorem info58:(Tryz.prog.info? 43).map (fun i=>(i.zero,i.size,i.bytes))=some (some (.slice none 0 0),1,24):=by kernel_rfl
theorem info3:(Tryz.prog.info? 3).map (fun i=>(i.zero,i.size,i.bytes))=some (some (.int .i64 0),1,8):=by kernel_rfl
theorem wpList_push1 {ops:Array Oper} {rest:List Oper} {o:Oper} {a:Act} {w:World} {Q:Exit->Act->World->Prop} (hgd:o.guard=none) (s x:Operand) (t e:TypeId) (ho:o.op=.call {callee:=.builtin .append,args:=#[s,x],argTypes:=#[t,t]})
  (z:Value) (bytes:Nat) (ht:Tryz.prog.underlying t=some (.slice e)) (hinfo:(Tryz.prog.info? e).map (fun i=>(i.zero,i.size,i.bytes))=some (some z,1,bytes)) (hz1:z.cells.size=1) (hby:bytes<=24)
  (base:Nat) (v:Value) (xs:List Value) (hs:a.eval s=v) (hown:w.ownsRow base e 1 v xs.length xs) (g:Nat) (hx:a.eval x=.slice (some ⟨g,0,none⟩) 1 1) (q:Value) (hb:w.heap[g]?=some (.cells #[q] e (0,0))) (hq:q.oneCell'=true) (hn:xs.length<=1000000) (hbase:base<=w.heap.size)
  (h:∀ v' w',w'.ownsRow base e 1 v' (xs ++ [q]).length (xs ++ [q])->w.grownBy w' v.ownBlock->(v'.ownBlock=v.ownBlock\/v'.ownBlock=some w.heap.size)->wpList Tryz.prog ops Q rest (a.put o.dst v') w'):wpList Tryz.prog ops Q (o :: rest) a w:=by
 obtain ⟨i,hi,h0,h1,h2⟩:=info_parts hinfo
 refine wpList_append_own_at w hgd s x t ho base e i z 1 bytes ht hi h0 h1 h2 hz1 (by decide) v xs.length xs hs hown ⟨g,0,none⟩ 1 1 [q] hx rfl (fun j u hj=>?_) (fun u hu=>?_) (by unfold maxLen; omega) ?_ hbase (fun v' w' a1 a2 _ a4=>h v' w' (by rw [List.length_append]; exact a1) a2 a4)
 ·rw [add_one_cell,Nat.zero_add,coQ hb,<-hj]
  simp
 ·obtain rfl:u=q:=by simpa using hu
  exact hq
 ·have:(xs.length + 1) * bytes<=(xs.length + 1) * 24:=Nat.mul_le_mul_left _ hby
  omega
abbrev KR:=Nat × Nat × List It
def kval (q:KR):Value:=.slice (some ⟨q.1,0,none⟩) q.2.2.length q.2.1
def kers (K:List KR):List (List It):=K.map (·.2.2)
abbrev NR:=Nat × Nat × List Int
def nval (q:NR):Value:=.slice (some ⟨q.1,0,none⟩) q.2.2.length q.2.1
def nxts (N:List NR):List (List Int):=N.map (·.2.2)
def zints (l:List Int):List Value:=l.map fun x=>.int .i64 x
def IntH (w:World) (g:Nat) (l:List Int):Prop:=∀ i x,l[i]?=some x->w.cell? ⟨g,i,none⟩=some (.int .i64 x)
def frozI (F:List (Nat × List It)):Item where
 bl:=F.map (·.1)
 ok w:=∀ q ∈ F,RowH w q.1 q.2
 kept h hw q hq:=(hw q hq).kept (h q.1 (List.mem_map.2 ⟨q,hq,rfl⟩))
def nfI (N:List NR):Item where
 bl:=N.map (·.1)
 ok w:=∀ q ∈ N,IntH w q.1 q.2.2
 kept {w w'} h hw q hq i x hi:=(World.cell?_of_block (a:=⟨q.1,i,none⟩) (h q.1 (List.mem_map.2 ⟨q,hq,rfl⟩))).trans (hw q hq i x hi)
def keyV (k:List It):Value:=.string ⟨(keyI k).toArray⟩
theorem keyV_inj {a b:List It} (h:keyV a=keyV b):a=b:=by
 unfold keyV at h
 injection h with h
 injection h with h
 have:=congrArg Array.toList h
 exact keyI_inj (by simpa using this)
theorem key9 {k:List It} (hr:∀ x ∈ k,inR x) (hl:k.length<=1000000):keyOf Tryz.prog 9 (keyV k)=some (.string (keyI k)):=
 WideMaps.keyOf_string_mk Tryz.underlying9 (s:=⟨(keyI k).toArray⟩) (by
  show (keyI k).toArray.size<=maxLen
  rw [List.size_toArray]
  have:=keyI_len k hr
  unfold maxLen; omega)
def kmap (L:List (List It)):List (Value × Value):=L.zipIdx.map fun p=>(keyV p.1,.int .i64 (p.2:Int))
theorem kmap_some {L:List (List It)} {k:List It} {i:Nat} (h:L[i]?=some k):(keyV k,Value.int .i64 (i:Int)) ∈ kmap L:=by
 unfold kmap
 exact List.mem_map.2 ⟨(k,i),by rw [List.mem_zipIdx_iff_getElem?]; exact h,rfl⟩
theorem kmap_none {L:List (List It)} {k:List It} (h:k ∉ L):∀ p ∈ kmap L,p.1 ≠ keyV k:=by
 intro p hp he
 obtain ⟨q,hq,rfl⟩:=List.mem_map.1 hp
 rw [List.mem_zipIdx_iff_getElem?] at hq
 have:q.1=k:=keyV_inj he
 exact h (this ▸ List.mem_of_getElem? hq)
theorem kmap_push (L:List (List It)) (k:List It):kmap (L ++ [k])=kmap L ++ [(keyV k,.int .i64 (L.length:Int))]:=by
 unfold kmap
 rw [List.zipIdx_append,List.map_append]
 simp
theorem zero3 (w:World):(zeroValue 3).run Tryz.prog w=.ok (.int .i64 0) w:=by kernel_rfl
def bItems (B bA bN bM bG bR:Nat) (gc:Array Value) (kv nv:Value) (K:List KR) (N:List NR) (F:List (Nat × List It)) (rv:Value) (xs:List Value) (mi:Item):List Item:=
 [blkI bA (.cells #[kv,nv] 55 (0,0)),blkI bN (.cells #[.map (some bM)] 121 (0,0)),mapI 9 bM (kmap (kers K)),rowI B 45 kv (K.map kval),rowI B 43 nv (N.map nval),frozI F,nfI N,rowI B 3 rv xs,blkI bG (.cells gc 27 (0,0)),blkI bR (.cells #[.slice none 0 0,.slice none 0 0] 55 (0,0)),mi]
def KerAt (F:List (Nat × List It)) (v:Value) (k:List It):Prop:=(v=.slice none 0 0/\k=[])\/∃ g c,v=.slice (some ⟨g,0,none⟩) k.length c/\k ≠ []/\(g,k) ∈ F
theorem KerAt.items {F:List (Nat × List It)} {v:Value} {k:List It} {w:World} (h:KerAt F v k) (hF:(frozI F).ok w) (hl:k.length<=9223372036854775807):ItemsAt w v k:=by
 rcases h with ⟨rfl,rfl⟩ | ⟨g,c,rfl,_,h2⟩
 ·exact items_nil w
 ·exact rowH_items (hF _ h2) hl
structure BF (B:Nat) (W w:World) (bA bN bM bG bR:Nat) (gc:Array Value) (kv nv:Value) (K:List KR) (N:List NR) (F:List (Nat × List It)) (rv:Value) (xs:List Value) (mi:Item):Prop where
 foot:Foot B W w (bItems B bA bN bM bG bR gc kv nv K N F rv xs mi)
 inF:∀ q ∈ K,(q.1,q.2.2) ∈ F
section
variable {B:Nat} {W w w':World} {bA bN bM bG bR:Nat} {gc:Array Value} {kv nv:Value} {K:List KR} {N:List NR} {F:List (Nat × List It)} {rv:Value} {xs:List Value} {mi:Item}
theorem BF.below (h:BF B W w bA bN bM bG bR gc kv nv K N F rv xs mi) (hb:Below w.heap.size w w'):BF B W w' bA bN bM bG bR gc kv nv K N F rv xs mi:=⟨h.foot.below hb,h.inF⟩
theorem BF.boxA (h:BF B W w bA bN bM bG bR gc kv nv K N F rv xs mi):w.heap[bA]?=some (.cells #[kv,nv] 55 (0,0)):=h.foot.ok 0 _ rfl
theorem BF.boxN (h:BF B W w bA bN bM bG bR gc kv nv K N F rv xs mi):w.heap[bN]?=some (.cells #[.map (some bM)] 121 (0,0)):=h.foot.ok 1 _ rfl
theorem BF.map_ (h:BF B W w bA bN bM bG bR gc kv nv K N F rv xs mi):MapIs Tryz.prog 9 w bM (kmap (kers K)):=h.foot.ok 2 _ rfl
theorem BF.rowK (h:BF B W w bA bN bM bG bR gc kv nv K N F rv xs mi):w.ownsRow B 45 1 kv (K.map kval).length (K.map kval):=h.foot.ok 3 _ rfl
theorem BF.rowN (h:BF B W w bA bN bM bG bR gc kv nv K N F rv xs mi):w.ownsRow B 43 1 nv (N.map nval).length (N.map nval):=h.foot.ok 4 _ rfl
theorem BF.froz (h:BF B W w bA bN bM bG bR gc kv nv K N F rv xs mi):(frozI F).ok w:=h.foot.ok 5 _ rfl
theorem BF.nf (h:BF B W w bA bN bM bG bR gc kv nv K N F rv xs mi):(nfI N).ok w:=h.foot.ok 6 _ rfl
theorem BF.row (h:BF B W w bA bN bM bG bR gc kv nv K N F rv xs mi):w.ownsRow B 3 1 rv xs.length xs:=h.foot.ok 7 _ rfl
theorem BF.boxG (h:BF B W w bA bN bM bG bR gc kv nv K N F rv xs mi):w.heap[bG]?=some (.cells gc 27 (0,0)):=h.foot.ok 8 _ rfl
theorem BF.boxR (h:BF B W w bA bN bM bG bR gc kv nv K N F rv xs mi):w.heap[bR]?=some (.cells #[.slice none 0 0,.slice none 0 0] 55 (0,0)):=h.foot.ok 9 _ rfl
theorem BF.mi_ (h:BF B W w bA bN bM bG bR gc kv nv K N F rv xs mi):mi.ok w:=h.foot.ok 10 _ rfl
theorem BF.bel (h:BF B W w bA bN bM bG bR gc kv nv K N F rv xs mi):Below B W w:=h.foot.bel
theorem BF.size (h:BF B W w bA bN bM bG bR gc kv nv K N F rv xs mi):B<=w.heap.size:=Nat.le_trans h.foot.le h.foot.bel.size
end
theorem num_some {k:List It} {ker:List (List It)} {i:Nat} (hk:k ≠ []) (h:ker.idxOf? k=some i):ker[i]?=some k/\numX k ker=((i:Int),ker):=by
 obtain ⟨hi,hp,_⟩:=List.findIdx?_eq_some_iff_getElem.1 h
 refine ⟨by rw [geQ hi,beq_iff_eq.1 hp],?_⟩
 unfold X14.numX
 rw [if_neg hk,h]
theorem num_none {k:List It} {ker:List (List It)} (hk:k ≠ []) (h:ker.idxOf? k=none):k ∉ ker/\numX k ker=((ker.length:Int),ker ++ [k]):=by
 refine ⟨fun hm=>?_,?_⟩
 ·have:=List.findIdx?_eq_none_iff.1 h k hm
  simp at this
 ·unfold X14.numX
  rw [if_neg hk,h]
def NumP (k:List It) (B:Nat) (W:World) (bA bN bM bG bR:Nat) (gc:Array Value) (nv:Value) (K:List KR) (N:List NR) (F:List (Nat × List It)) (rv:Value) (xs:List Value) (mi:Item) (e:Ending) (w':World):Prop:=
 ∃ K' kv',e=.returned (.int .i64 (numX k (kers K)).1)/\kers K'=(numX k (kers K)).2/\BF B W w' bA bN bM bG bR gc kv' nv K' N F rv xs mi
theorem kers_len (K:List KR):(kers K).length=K.length:=by unfold kers; rw [List.length_map]
section
variable {B:Nat} {W w w':World} {bA bN bM bG bR:Nat} {gc:Array Value} {kv nv:Value} {K:List KR} {N:List NR} {F:List (Nat × List It)} {rv:Value} {xs:List Value} {mi:Item}
theorem foot_put {l:List Item} (h:Foot B W w l) {L L':List (Value × Value)} (i:Nat) (hx:l[i]?=some (mapI 9 bM L)) (hm:MapIs Tryz.prog 9 w' bM L') (hg:w.grownBy w' (some bM)):Foot B W w' (l.set i (mapI 9 bM L')):=
 h.upd i hx (mapI 9 bM L') (Touch.grown hg) hm fun b hb=>by
  have hb':b=bM:=by
   have:b ∈ [bM]:=hb
   simpa using this
  subst hb'
  exact ⟨.inl hb,hm.lt⟩
theorem foot_cell {l:List Item} (h:Foot B W w l) {b k:Nat} {cs:Array Value} {e:TypeId} {v:Value} (i:Nat) (hx:l[i]?=some (blkI b (.cells cs e (0,0)))):Foot B W (w.setCell ⟨b,k,none⟩ v) (l.set i (blkI b (.cells (cs.setIfInBounds k v) e (0,0)))):=
 h.upd i hx (blkI b (.cells (cs.setIfInBounds k v) e (0,0))) (Touch.set w b k v) (heap_setCell_same w b k cs e v (h.ok i _ hx)) fun c hc=>by
  have hb':c=b:=by
   have:c ∈ [b]:=hc
   simpa using this
  subst hb'
  exact ⟨.inl hc,by have:=(h.lt i _ hx c hc).2; simpa using this⟩
end
set_option maxRecDepth 100000 in
set_option maxHeartbeats 8000000 in
theorem numberOf_any {B Bt:Nat} {W w:World} {bA bN bM bG bR:Nat} {gc:Array Value} {kv nv:Value} {K:List KR} {N:List NR} {F:List (Nat × List It)} {rv:Value} {xs:List Value} {mi:Item} {v:Value} {k:List It}
  (h:BF B W w bA bN bM bG bR gc kv nv K N F rv xs mi) (hv:KerAt F v k) (hr:∀ x ∈ k,inR x) (hl:k.length<=2000) (hK:K.length<=100000) (ht:Tab Bt W) (hBt:Bt<=B) :
  Calls Tryz.prog 60 #[v,.pointer (some ⟨bN,0,none⟩),.pointer (some ⟨bA,0,none⟩)] w (NumP k B W bA bN bM bG bR gc nv K N F rv xs mi):=by
 have HH:=hid h
 have HR:=hid hr
 have hit:=hv.items h.froz (by omega)
 by_cases hk:k=[]
 ·have hv0:v=.slice none 0 0:=by
   rcases hv with ⟨e,_⟩ | ⟨_,_,_,e,_⟩
   ·exact e
   ·exact absurd hk e
  subst hk hv0
  clear h hv hit
  go_enter Tryz.func60,Tryz.ntmps60
  go_wp2_with fail
  go_ret
  refine ⟨K,kv,?_,?_,HH.out⟩
  ·unfold X14.numX; rw [if_pos rfl]; rfl
  ·unfold X14.numX; rw [if_pos rfl]
 ·obtain ⟨g,c,rfl,hkF⟩:∃ g c,v=.slice (some ⟨g,0,none⟩) k.length c/\(g,k) ∈ F:=by
   rcases hv with ⟨_,e⟩ | ⟨g,c,e,_,hF⟩
   ·exact absurd e hk
   ·exact ⟨g,c,e,hF⟩
  have hkl:0 < k.length:=List.length_pos_iff.2 hk
  have htw:Tab B w:=Tab.up (ht.on (h.bel.mono hBt)) hBt
  have KA:=hid (keyOf_any hit hr (by omega) htw h.size)
  have HKF:=hid hkF
  obtain ⟨n,hn⟩:=nmQ (k.length)
  have HN:=hid hn
  rw [hn] at KA hkl hl ⊢
  have t0:((n:Int) == 0)=false:=by rw [beq_eq_false_iff_ne]; omega
  have t1:¬ (n:Int)=0:=by omega
  clear h hv hit hkF htw hn
  go_enter Tryz.func60,Tryz.ntmps60
  go_wp2_with fail
  refine KA.out.mono ?_
  rintro e w2 ⟨rfl,hb2⟩
  have HF2:=hid (HH.out.below hb2)
  have cN:w2.cell? ⟨bN,0,none⟩=some (.map (some bM)):=cell1 HF2.out.boxN
  have hkey:=key9 HR.out (by rw [HN.out]; omega)
  clear hb2 KA
  cases hidx:(kers K).idxOf? k with
  | some i =>
   obtain ⟨h1,h2⟩:=num_some hk hidx
   have HNX:=hid h2
   have HME:=hid (kmap_some h1)
   clear h1 h2 hidx
   unfold keyV at HME hkey
   go_wp2_with (at_lookup; refine wpList_look_some rfl (.tmp 14) (.tmp 15) 121 rfl keyed9 Tryz.underlying121 rfl HF2.out.map_ (.string ⟨(keyI k).toArray⟩) (.int .i64 (i:Int)) (.string (keyI k)) rfl hkey HME.out ?_)
   go_ret
   refine ⟨K,kv,?_,?_,HF2.out⟩
   ·rw [HNX.out]; rfl
   ·rw [HNX.out]
  | none =>
   obtain ⟨h1,h2⟩:=num_none hk hidx
   have HNX:=hid h2
   have HNN:=hid (kmap_none h1)
   clear h1 h2 hidx
   have hrow:=HF2.out.rowK
   obtain ⟨ko,kc,rfl⟩:=own_shape hrow
   rw [List.length_map] at HH HF2 hrow
   have cA:w2.cell? ⟨bA,0,none⟩=some (.slice ko K.length kc):=coQ HF2.out.boxA 0
   have HRW:=hid hrow
   clear hrow
   unfold keyV at HNN hkey
   go_wp2_with (first | (at_lookup; refine wpList_look_none rfl (.tmp 14) (.tmp 15) 121 rfl keyed9 Tryz.underlying121 rfl HF2.out.map_ (.string ⟨(keyI k).toArray⟩) (.int .i64 0) (.string (keyI k)) rfl hkey (zero3 _) HNN.out ?_) | (at_mapUpdate; refine wpList_put rfl (.tmp 24) (.tmp 25) (.tmp 26) 121 (.inl rfl) keyed9 Tryz.underlying121 rfl HF2.out.map_ (.string ⟨(keyI k).toArray⟩) (.int .i64 (K.length:Int)) (.string (keyI k)) rfl rfl hkey HNN.out ?_))
   intro w3 hm3 hg3
   have hm4:MapIs Tryz.prog 9 w3 bM (kmap (kers K ++ [k])):=by rw [kmap_push,kers_len]; exact hm3
   have F3:=foot_put HF2.out.foot 2 rfl hm4 hg3
   have cA:w3.cell? ⟨bA,0,none⟩=some (.slice ko K.length kc):=coQ (F3.ok 0 _ rfl) 0
   obtain ⟨wq,eq⟩:=nmQ (w3.alloc (.cells #[.slice (some ⟨g,0,none⟩) n c] 45))
   have hbq:Below w3.heap.size w3 wq:=baQ eq
   have HNQ:=hid (show wq.heap[w3.heap.size]?=some (.cells #[.slice (some ⟨g,0,none⟩) n c] 45 (0,0)) from by rw [<-eq]; exact new_block _ _)
   have HF4:=hid (F3.below hbq)
   have hdq:B<=wq.heap.size:=Nat.le_trans HF4.out.le HF4.out.bel.size
   have HROW:=hid (show wq.ownsRow B 45 1 (.slice ko K.length kc) (K.map kval).length (K.map kval) from HF4.out.ok 3 _ rfl)
   have hKl:(K.map kval).length<=1000000:=by rw [List.length_map]; omega
   clear hm3 hg3 hm4 F3 hbq
   go_wp2_with (at_builtin; refine wpList_push1 rfl (.tmp 28) (.tmp 30) 53 45 rfl (.slice none 0 0) 24 Tryz.underlying53 info28 rfl (by decide) B (.slice ko K.length kc) (K.map kval) rfl HROW.out w3.heap.size rfl (.slice (some ⟨g,0,none⟩) n c) HNQ.out rfl hKl hdq ?_)
   intro v7 w7 hown7 hg7 hat7
   have F7:=HF4.out.push 3 (ys:=K.map kval ++ [.slice (some ⟨g,0,none⟩) n c]) rfl (by rw [List.length_append,List.length_map]; exact hown7) hg7 hat7
   have nA:w7.heap[bA]?=some (.cells #[.slice ko K.length kc,nv] 55 (0,0)):=F7.ok 0 _ rfl
   have cA7:w7.cell? ⟨bA,0,none⟩=some (.slice ko K.length kc):=coQ nA 0
   have fA7:=foQ nA 0
   have HF8:=hid (foot_cell (k:=0) (v:=v7) F7 0 rfl)
   obtain ⟨o7,c7,rfl⟩:=own_shape hown7
   clear hown7 hg7 hat7 F7 nA eq cA
   go_wp2_with fail
   go_ret
   refine ⟨K ++ [(g,c,k)],.slice o7 (K.length + 1) c7,?_,?_,?_,fun q hq=>?_⟩
   rotate_left 2
   ·have e1:kers (K ++ [(g,c,k)])=kers K ++ [k]:=by simp [kers]
    have e2:(K ++ [(g,c,k)]).map kval=K.map kval ++ [.slice (some ⟨g,0,none⟩) n c]:=by rw [<-HN.out]; simp [kval]
    unfold bItems
    rw [e1,e2]
    exact HF8.out
   ·rcases List.mem_append.1 hq with hq | hq
    ·exact HH.out.inF q hq
    ·obtain rfl:q=(g,c,k):=by simpa using hq
     exact HKF.out
   ·rw [HNX.out,kers_len]; rfl
   ·rw [HNX.out]; simp [kers]
end Go.Proofs.YticmnfmijdgmbaaGreatDoor

namespace Go.Proofs.X14
open Go.Proofs.YticmnfmijdgmbaaGreatDoor (GD PD validB inR)
theorem rowX_mem (G:GD) (c:List It):∀ (r:List Int) (s:List Int × List (List It)),∀ k ∈ (rowX G c r s).2,k ∈ s.2\/∃ y,k=stepX G c y
 | [],s,k,h=>.inl h
 | y :: r,s,k,h=>by
  rw [rowX] at h
  rcases rowX_mem G c r _ k h with h | h
  ·simp only at h
   unfold numX at h
   split at h
   ·exact .inl h
   ·split at h
    ·exact .inl h
    ·rcases List.mem_append.1 h with h | h
     ·exact .inl h
     ·exact .inr ⟨y,List.mem_singleton.1 h⟩
  ·exact .inr h
def rowS (G:GD) (c:List It) (ker:List (List It)) (t:Nat):List Int × List (List It):=rowX G c ((symsX G).take t) ([],ker)
theorem rowS_succ {G:GD} {c:List It} {ker:List (List It)} {t:Nat} {y:Int} (h:(symsX G)[t]?=some y):rowS G c ker (t + 1)=((rowS G c ker t).1 ++ [(numX (stepX G c y) (rowS G c ker t).2).1],(numX (stepX G c y) (rowS G c ker t).2).2):=by
 unfold rowS
 rw [List.take_add_one,h,rowX_app]
 rfl
theorem rowS_all (G:GD) (c:List It) (ker:List (List It)):rowS G c ker (symsX G).length=rowX G c (symsX G) ([],ker):=by unfold rowS; rw [List.take_length]
theorem rowS_len (G:GD) (c:List It) (ker:List (List It)) (t:Nat):(rowS G c ker t).1.length<=t/\(rowS G c ker t).2.length<=ker.length + t:=by
 obtain ⟨h1,h2,h3⟩:=rowX_len G c ((symsX G).take t) ([],ker)
 unfold rowS
 rw [List.length_take] at h1 h3
 exact ⟨by simp only [List.length_nil] at h1; omega,by simp only at h3; omega⟩
theorem syms_term {G:GD} {t:Nat} (h:t < G.terms.length):(symsX G)[t]?=some (t:Int):=by
 unfold symsX
 rw [List.getElem?_append_left (by simpa using h)]
 simp [h]
theorem syms_sort {G:GD} {s:Nat} (h:s < G.sorts.length):(symsX G)[G.terms.length + s]?=some (-1 - (s:Int)):=by
 unfold symsX
 rw [List.getElem?_append_right (by simp),List.length_map,List.length_range,Nat.add_sub_cancel_left]
 simp [h]
theorem step_inR {G:GD} (hv:validB G=true) {c:List It} (hc:∀ x ∈ c,thereX G x=true) {s:Int} : (∀ y ∈ stepX G c s,inR y):=fun y hy=>by
 obtain ⟨x,hx,hb,rfl⟩:=mem_step.1 hy
 obtain ⟨h1,h2,h3,h4⟩:=there_iff.1 (hc x hx)
 have h5:=right_le hv h1 h2
 have h6:=(Go.Proofs.YticmnfmijdgmbaaGreatDoor.valid_parts hv).2.2.1
 exact ⟨⟨by show -9223372036854775808<=x.1; omega,by show x.1<=9223372036854775807; omega⟩,by show -9223372036854775808<=x.2 + 1; omega,by show x.2 + 1<=9223372036854775807; omega⟩
theorem step_le {G:GD} (l:List It) (s:Int) (hv:validB G=true):(stepX G (closeX G l) s).length<=1573:=by
 have:=stepV_len G l s
 unfold stepV closeV at this
 rw [if_pos hv] at this
 exact this
theorem iter_len {G:GD} (hv:validB G=true):∀ m,∀ k ∈ (iterB G m).ker,k.length<=1573
 | 0,k,hk=>by
  rw [show k=[(-1,0)] by simpa [iterB] using hk]
  decide
 | m + 1,k,hk=>by
  rcases rowX_mem G _ _ _ k hk with h | ⟨y,rfl⟩
  ·exact iter_len hv m k h
  ·exact step_le _ y hv
theorem Built.zero (G:GD):Built G 0:=⟨fun m hm=>absurd hm (Nat.not_lt_zero m),fun m hm=>absurd hm (Nat.not_lt_zero m)⟩
theorem Built.le {G:GD} {m:Nat} (h:Built G m):(iterB G m).ker.length<=2000:=by
 cases m with
 | zero=>show (1:Nat)<=2000; omega
 | succ m=>exact h.2 m (Nat.lt_succ_self m)
theorem Built.succ {G:GD} {m:Nat} (h:Built G m) (h1:m < (iterB G m).ker.length) (h2:(iterB G (m + 1)).ker.length<=2000):Built G (m + 1):=
 ⟨fun q hq=>by
  rcases Nat.lt_succ_iff_lt_or_eq.1 hq with e | e
  ·exact h.1 q e
  ·rw [e]; exact h1,fun q hq=>by
  rcases Nat.lt_succ_iff_lt_or_eq.1 hq with e | e
  ·exact h.2 q e
  ·rw [e]; exact h2⟩
theorem iter_succ (G:GD) (m:Nat):(iterB G (m + 1)).ker=(rowS G (closeX G ((iterB G m).ker.getD m [])) (iterB G m).ker (symsX G).length).2/\(iterB G (m + 1)).nx=(iterB G m).nx ++ [(rowS G (closeX G ((iterB G m).ker.getD m [])) (iterB G m).ker (symsX G).length).1]:=by
 have h:=(iterB_at G m).1
 show (stepB G (iterB G m)).ker=_/\(stepB G (iterB G m)).nx=_
 unfold stepB
 rw [h,rowS_all]
 exact ⟨rfl,rfl⟩
theorem nx_range {G:GD} {n:Nat} (h:BuiltOk G n):∀ R ∈ (iterB G n).nx,∀ v ∈ R,-9223372036854775808<=v/\v<=9223372036854775807:=fun R hR v hv=>by
 obtain ⟨i,hi⟩:=List.mem_iff_getElem?.1 hR
 obtain ⟨k,hk⟩:=List.mem_iff_getElem?.1 hv
 obtain ⟨hI,ha,hl⟩:=h.inv
 have hrl:=hI.rl i R hi
 have hil:=(List.getElem?_eq_some_iff.1 hi).1
 have hkl:=(List.getElem?_eq_some_iff.1 hk).1
 obtain ⟨s,hs⟩:∃ s,(symsX G)[k]?=some s:=⟨_,geQ (by omega)⟩
 have h2:=h.1.le
 rcases hI.to_ (by rw [ha]; have:=(iterB_at G n).2; omega) hs hi hk with ⟨e,_⟩ | ⟨q,e,_,hq,_⟩
 ·omega
 ·omega
end Go.Proofs.X14
namespace Go.Proofs.YticmnfmijdgmbaaGreatDoor
open Go Go.RowKit Go.Lib
open X14 (It numX stepX closeX iterB BuiltOk BuiltMany)
def RowsAt (w:World) (v:Value) (n:Nat) (p:Nat->Value->Prop):Prop:=RowAt v n (fun i b off=>∃ u,w.cell? ⟨b,off + i,none⟩=some u/\p i u)
theorem RowsAt.below {w w':World} {v:Value} {n:Nat} {p q:Nat->Value->Prop} (h:RowsAt w v n p) (hb:Below w.heap.size w w') (hpq:∀ i u,p i u->q i u):RowsAt w' v n q:=RowAt.mono h fun i b off ⟨u,h1,h2⟩=>⟨u,cell_below hb h1,hpq i u h2⟩
theorem RowsAt.at_ {w:World} {o:Option Addr} {n n' c:Nat} {p:Nat->Value->Prop} (h:RowsAt w (.slice o n' c) n p) {k:Nat} (hk:k < n):∃ b off u,o=some ⟨b,off,none⟩/\w.cell? ⟨b,off + k,none⟩=some u/\p k u:=by
 obtain ⟨o',c',e,_,hcs⟩:=h
 injection e with e1 e2 e3
 subst e1
 obtain ⟨b,off,rfl,hq⟩:=hcs (by omega)
 obtain ⟨u,h1,h2⟩:=hq k hk
 exact ⟨b,off,u,rfl,h1,h2⟩
theorem RowsAt.len {w:World} {v:Value} {n:Nat} {p:Nat->Value->Prop} (h:RowsAt w v n p):∃ o c,v=.slice o n c/\n<=9223372036854775807:=by
 obtain ⟨o,c,e,h1,_⟩:=h
 exact ⟨o,c,e,h1⟩
def AutAt (w:World) (av:Value) (ker:List (List It)) (nx:List (List Int)):Prop:=
 ∃ kv nv,av=.agg #[kv,nv]/\RowsAt w kv ker.length (fun i u=>ItemsAt w u (ker.getD i []))/\RowsAt w nv nx.length (fun i u=>IntsAt w u (nx.getD i []))
theorem AutAt.below {w w':World} {av:Value} {ker:List (List It)} {nx:List (List Int)} (h:AutAt w av ker nx) (hb:Below w.heap.size w w'):AutAt w' av ker nx:=by
 obtain ⟨kv,nv,e,h1,h2⟩:=h
 exact ⟨kv,nv,e,h1.below hb fun i u hu=>hu.below hb,h2.below hb fun i u hu=>hu.mono hb⟩
def noAut:Value:=.agg #[.slice none 0 0,.slice none 0 0]
def BuildP (G:GD) (w:World) (e:Ending) (w':World):Prop:=
 Below w.heap.size w w'/\((validB G=false/\e=.returned (.tuple #[noAut,.int .i64 1]))\/(validB G=true/\∃ n,(BuiltMany G n/\e=.returned (.tuple #[noAut,.int .i64 4]))\/(BuiltOk G n/\∃ av,e=.returned (.tuple #[av,.int .i64 0])/\AutAt w' av (iterB G n).ker (iterB G n).nx)))
theorem own_rows {w:World} {B:Nat} {e:TypeId} {v:Value} {vs:List Value} {p:Nat->Value->Prop} (h:w.ownsRow B e 1 v vs.length vs) (hl:vs.length<=9223372036854775807) (hp:∀ (i:Nat) u,vs[i]?=some u->p i u):RowsAt w v vs.length p:=by
 obtain ⟨o,c,rfl⟩:=own_shape h
 refine ⟨o,c,rfl,hl,fun h0=>?_⟩
 rcases h.2 with ⟨h1,h2⟩ | ⟨g,cap,cur,h1,hB,hg,h2,h3,h4,h5⟩
 ·omega
 ·injection h1 with h1 _ _
  subst h1
  refine ⟨g,0,rfl,fun i hi=>?_⟩
  obtain ⟨u,hu⟩:∃ u,vs[i]?=some u:=⟨_,geQ hi⟩
  refine ⟨u,?_,hp i u hu⟩
  rw [Nat.zero_add,coQ hg,<-Array.getElem?_toList,<-List.getElem?_take_of_lt (show i < vs.length * 1 by omega),h5,hu]
theorem intH_at {w:World} {g c:Nat} {l:List Int} (h:IntH w g l) (hl:l.length<=9223372036854775807) (hr:∀ x ∈ l,-9223372036854775808<=x/\x<=9223372036854775807):IntsAt w (.slice (some ⟨g,0,none⟩) l.length c) l:=by
 refine ⟨⟨_,_,rfl,hl,fun _=>⟨g,0,rfl,fun i hi=>?_⟩⟩,hr⟩
 show w.cell? ⟨g,0 + i,none⟩=_
 rw [Nat.zero_add]
 refine h i _ ?_
 rw [geQ hi,gdQ,geQ hi]
 rfl
theorem own_intH {w:World} {B g n c:Nat} {l:List Int} (h:w.ownsRow B 3 1 (.slice (some ⟨g,0,none⟩) n c) n (zints l)):IntH w g l:=fun i x hi=>by
 have hlen:l.length=n:=by
  have:=h.1
  unfold zints at this
  rw [List.length_map] at this
  omega
 rcases h.2 with ⟨h1,_⟩ | ⟨g',cap,cur,h1,hB,hg,h2,h3,h4,h5⟩
 ·cases h1
 ·injection h1 with h1 _ _
  injection h1 with h1
  injection h1 with h1
  subst h1
  have hil:=(List.getElem?_eq_some_iff.1 hi).1
  rw [coQ hg,<-Array.getElem?_toList,<-List.getElem?_take_of_lt (show i < n * 1 by omega),h5]
  unfold zints
  rw [List.getElem?_map,hi]
  rfl
section
variable {B:Nat} {W w w':World} {bA bN bM bG bR:Nat} {gc:Array Value} {kv nv:Value} {K:List KR} {N:List NR} {F:List (Nat × List It)} {rv:Value} {xs:List Value} {mi:Item}
theorem aut_of (hrK:w.ownsRow B 45 1 kv (K.map kval).length (K.map kval)) (hrN:w.ownsRow B 43 1 nv (N.map nval).length (N.map nval)) (hfz:(frozI F).ok w) (hnf:(nfI N).ok w) (hin:∀ q ∈ K,(q.1,q.2.2) ∈ F) (hK:K.length<=1000000) (hN:N.length<=1000000) (hk:∀ k ∈ kers K,k.length<=1000000) (hn:∀ R ∈ nxts N,R.length<=1000000/\∀ v ∈ R,-9223372036854775808<=v/\v<=9223372036854775807):AutAt w (.agg #[kv,nv]) (kers K) (nxts N):=by
 refine ⟨kv,nv,rfl,?_,?_⟩
 ·have:=own_rows (p:=fun i u=>ItemsAt w u ((kers K).getD i [])) hrK (by rw [List.length_map]; omega) fun i u hu=>by
   rw [List.getElem?_map] at hu
   cases hq:K[i]? with
   | none=>rw [hq] at hu; cases hu
   | some q =>
    rw [hq] at hu
    obtain rfl:kval q=u:=Option.some.inj hu
    have hm:=List.mem_of_getElem? hq
    have e:(kers K).getD i []=q.2.2:=X14.getD_get (by unfold kers; rw [List.getElem?_map,hq]; rfl)
    rw [e]
    exact rowH_items (hfz (q.1,q.2.2) (hin q hm)) (Nat.le_trans (hk q.2.2 (List.mem_map.2 ⟨q,hm,rfl⟩)) (by decide))
  rw [List.length_map] at this
  rw [kers_len]
  exact this
 ·have:=own_rows (p:=fun i u=>IntsAt w u ((nxts N).getD i [])) hrN (by rw [List.length_map]; omega) fun i u hu=>by
   rw [List.getElem?_map] at hu
   cases hq:N[i]? with
   | none=>rw [hq] at hu; cases hu
   | some q =>
    rw [hq] at hu
    obtain rfl:nval q=u:=Option.some.inj hu
    have hm:=List.mem_of_getElem? hq
    have e:(nxts N).getD i []=q.2.2:=X14.getD_get (by unfold nxts; rw [List.getElem?_map,hq]; rfl)
    rw [e]
    have h2:=hn q.2.2 (List.mem_map.2 ⟨q,hm,rfl⟩)
    exact intH_at (hnf q hm) (Nat.le_trans h2.1 (by decide)) h2.2
  rw [List.length_map] at this
  unfold nxts
  rw [List.length_map]
  exact this
end
end Go.Proofs.YticmnfmijdgmbaaGreatDoor

namespace Go.Proofs.YticmnfmijdgmbaaGreatDoor
open Go Go.RowKit Go.Lib
open X14 (It numX)
theorem Foot.two {B:Nat} {W w:World} {l:List Item} (h:Foot B W w l) (i j:Nat) {x y:Item} (hx:l[i]?=some x) (hy:l[j]?=some y) (hij:i ≠ j) (z u:Item) (hz:z.ok w) (hu:u.ok w) (hbz:∀ b ∈ z.bl,b ∈ x.bl\/b ∈ y.bl) (hbu:∀ b ∈ u.bl,b ∈ x.bl\/b ∈ y.bl) (hd:∀ b ∈ z.bl,b ∉ u.bl):Foot B W w ((l.set j u).set i z):=by
 have hil:=(List.getElem?_eq_some_iff.1 hx).1
 have hjl:=(List.getElem?_eq_some_iff.1 hy).1
 have key:∀ (k:Nat) v,((l.set j u).set i z)[k]?=some v->(k=i/\v=z)\/(k=j/\v=u)\/(k ≠ i/\k ≠ j/\l[k]?=some v):=by
  intro k v hv
  by_cases e:k=i
  ·subst e
   rw [List.getElem?_set_self (by rw [List.length_set]; exact hil)] at hv
   injection hv with hv
   exact .inl ⟨rfl,hv.symm⟩
  ·rw [List.getElem?_set_ne (fun e'=>e e'.symm)] at hv
   by_cases e2:k=j
   ·subst e2
    rw [List.getElem?_set_self hjl] at hv
    injection hv with hv
    exact .inr (.inl ⟨rfl,hv.symm⟩)
   ·rw [List.getElem?_set_ne (fun e'=>e2 e'.symm)] at hv
    exact .inr (.inr ⟨e,e2,hv⟩)
 have out:∀ b,(b ∈ x.bl\/b ∈ y.bl)->(B<=b/\b < w.heap.size)/\∀ k v,k ≠ i->k ≠ j->l[k]?=some v->b ∉ v.bl:=fun b hb=>by
  rcases hb with hb | hb
  ·exact ⟨h.lt i x hx b hb,fun k v k1 k2 hv hm=>k1 (h.apart k i v x b hv hx hm hb)⟩
  ·exact ⟨h.lt j y hy b hb,fun k v k1 k2 hv hm=>k2 (h.apart k j v y b hv hy hm hb)⟩
 refine ⟨h.bel,h.le,fun k v hv=>?_,fun k v hv b hb=>?_,fun k m v q b hv hq hb hb'=>?_⟩
 ·rcases key k v hv with ⟨_,rfl⟩ | ⟨_,rfl⟩ | ⟨_,_,h3⟩
  ·exact hz
  ·exact hu
  ·exact h.ok k v h3
 ·rcases key k v hv with ⟨_,rfl⟩ | ⟨_,rfl⟩ | ⟨_,_,h3⟩
  ·exact (out b (hbz b hb)).1
  ·exact (out b (hbu b hb)).1
  ·exact h.lt k v h3 b hb
 ·rcases key k v hv with ⟨rfl,rfl⟩ | ⟨rfl,rfl⟩ | ⟨k1,k2,k3⟩
  ·rcases key m q hq with ⟨rfl,rfl⟩ | ⟨rfl,rfl⟩ | ⟨m1,m2,m3⟩
   ·rfl
   ·exact absurd hb' (hd b hb)
   ·exact absurd hb' ((out b (hbz b hb)).2 m q m1 m2 m3)
  ·rcases key m q hq with ⟨rfl,rfl⟩ | ⟨rfl,rfl⟩ | ⟨m1,m2,m3⟩
   ·exact absurd hb (hd b hb')
   ·rfl
   ·exact absurd hb' ((out b (hbu b hb)).2 m q m1 m2 m3)
  ·rcases key m q hq with ⟨rfl,rfl⟩ | ⟨rfl,rfl⟩ | ⟨m1,m2,m3⟩
   ·exact absurd hb ((out b (hbz b hb')).2 k v k1 k2 k3)
   ·exact absurd hb ((out b (hbu b hb')).2 k v k1 k2 k3)
   ·exact h.apart k m v q b k3 m3 hb hb'
theorem made_ints (n:Nat) (hn:n<=1000000) (w:World):(Instr.makeSlice 43 (.int .i64 0) (.int .i64 (n:Int))).run Tryz.prog w=.ok (.slice (some ⟨w.heap.size,0,none⟩) 0 n) (w.alloc (.cells (Array.replicate n (.int .i64 0)) 3)):=by
 obtain ⟨i0,hi,hz0,hz1,hz2⟩:=info_parts info3
 have:=run_makeSlice (P:=Tryz.prog) (w:=w) 43 3 i0 (.int .i64 0) Tryz.underlying43 hi hz0 .i64 .i64 (0:Int) (n:Int) (by omega) (by omega) (by rw [hz1]; omega) (by rw [hz2]; omega) (by omega)
 rw [this,hz1]
 have e:madeCells (Value.int .i64 0).cells ((n:Int).toNat * 1)=Array.replicate n (.int .i64 0):=by
  rw [Int.toNat_natCast,Nat.mul_one]
  refine Array.ext (by simp [madeCells]) fun i h1 h2=>?_
  simp [madeCells,Value.cells,Nat.mod_one]
 rw [e,Int.toNat_natCast]
 rfl
def pairI (b:Nat) (L:List (Value × Value)) (R:List (Nat × List It)):Item where
 bl:=b :: R.map (·.1)
 ok w:=MapIs Tryz.prog 61 w b L/\∀ q ∈ R,RowH w q.1 q.2
 kept h hw:=⟨hw.1.kept (h b (by simp)),fun q hq=>(hw.2 q hq).kept (h q.1 (List.mem_cons_of_mem _ (List.mem_map.2 ⟨q,hq,rfl⟩)))⟩
def rowsOf (f:Int->List It) (M:List Ent):List (Nat × List It):=M.map fun p=>(p.2.1,f p.1)
section
variable {B:Nat} {W w w':World} {bA bN bM bG bR:Nat} {gc:Array Value} {kv nv:Value} {K:List KR} {N:List NR} {F:List (Nat × List It)} {rv:Value} {xs:List Value} {mi:Item}
theorem BF.steps (h:BF B W w bA bN bM bG bR gc kv nv K N F rv xs mi) {f:Int->List It} {b:Nat} {M:List Ent} (hs:StI w w' f b M):BF B W w' bA bN bM bG bR gc kv nv K N (F ++ rowsOf f M) rv xs (mapI 61 b (M.map (entV f))):=by
 have hrow:∀ q ∈ rowsOf f M,RowH w' q.1 q.2/\w.heap.size<=q.1/\q.1 < w'.heap.size/\b ≠ q.1:=fun q hq=>by
  obtain ⟨p,hp,rfl⟩:=List.mem_map.1 hq
  have h1:=hs.own p hp
  obtain ⟨cur,hc⟩:=own_block_cells h1
  exact ⟨RowH.of_own h1 rfl,(owns_lt h1 p.2.1 rfl).1,(owns_lt h1 p.2.1 rfl).2,map_not_cells hs.map hc⟩
 have h1:=h.foot.upd 10 rfl (pairI b (M.map (entV f)) (rowsOf f M)) ((Touch.below hs.bel).mono (by simp)) ⟨hs.map,fun q hq=>(hrow q hq).1⟩ (fun c hc=>by
  rcases List.mem_cons.1 hc with e | e
  ·rw [e]; exact ⟨.inr hs.ge,hs.map.lt⟩
  ·obtain ⟨q,hq,rfl⟩:=List.mem_map.1 e
   exact ⟨.inr (hrow q hq).2.1,(hrow q hq).2.2.1⟩)
 have h2:=h1.two 5 10 rfl rfl (by decide) (frozI (F ++ rowsOf f M)) (mapI 61 b (M.map (entV f))) (fun q hq=>by
  rcases List.mem_append.1 hq with e | e
  ·exact (h1.ok 5 _ rfl) q e
  ·exact (hrow q e).1) hs.map (fun c hc=>by
  obtain ⟨q,hq,rfl⟩:=List.mem_map.1 hc
  rcases List.mem_append.1 hq with e | e
  ·exact .inl (List.mem_map.2 ⟨q,e,rfl⟩)
  ·exact .inr (List.mem_cons_of_mem _ (List.mem_map.2 ⟨q,e,rfl⟩))) (fun c hc=>by
  have e:c=b:=by
   have:c ∈ [b]:=hc
   simpa using this
  rw [e]
  exact .inr (List.mem_cons_self)) (fun c hc hc2=>by
  have e:c=b:=by
   have:c ∈ [b]:=hc2
   simpa using this
  subst e
  obtain ⟨q,hq,e2⟩:=List.mem_map.1 hc
  rcases List.mem_append.1 hq with e | e
  ·have h5:=(h.foot.lt 5 _ rfl q.1 (List.mem_map.2 ⟨q,e,rfl⟩)).2
   have h6:=hs.ge
   omega
  ·exact (hrow q e).2.2.2 e2.symm)
 exact ⟨h2,fun q hq=>List.mem_append_left _ (h.inF q hq)⟩
theorem BF.begin_ (h:BF B W w bA bN bM bG bR gc kv nv K N F rv xs mi) {n:Nat} (hn:n<=1000000) (ew:w.alloc (.cells (Array.replicate n (.int .i64 0)) 3)=w'):BF B W w' bA bN bM bG bR gc kv nv K N F (.slice (some ⟨w.heap.size,0,none⟩) 0 n) [] mi:=by
 have hb:Below w.heap.size w w':=baQ ew
 have hh:w'.heap[w.heap.size]?=some (.cells (Array.replicate n (.int .i64 0)) 3 (0,0)):=nbQ ew
 refine ⟨h.foot.upd 7 rfl (rowI B 3 (.slice (some ⟨w.heap.size,0,none⟩) 0 n) []) ((Touch.below hb).mono (by simp)) ?_ ?_,h.inF⟩
 ·exact ⟨by simp,.inr ⟨_,_,_,rfl,h.size,hh,by simp,(by unfold maxLen; omega),by simp,by simp⟩⟩
 ·intro c hc
  have e:c=w.heap.size:=by
   have:c ∈ (Value.slice (some ⟨w.heap.size,0,none⟩) 0 n).ownBlock.toList:=hc
   simpa [Value.ownBlock] using this
  rw [e]
  exact ⟨.inr (Nat.le_refl _),(ltQ hh)⟩
theorem BF.number (h:BF B W w bA bN bM bG bR gc kv nv K N F rv xs mi) {v':Value} {ys:List Value} (hown:w'.ownsRow B 3 1 v' ys.length ys) (hg:w.grownBy w' rv.ownBlock) (hat:v'.ownBlock=rv.ownBlock\/v'.ownBlock=some w.heap.size):BF B W w' bA bN bM bG bR gc kv nv K N F v' ys mi:=
 ⟨h.foot.push 7 rfl hown hg hat,h.inF⟩
theorem BF.next_ {R:List Int} {g c:Nat} (h:BF B W w bA bN bM bG bR gc kv nv K N F (.slice (some ⟨g,0,none⟩) R.length c) (zints R) mi) {v':Value} (hown:w'.ownsRow B 43 1 v' (N.length + 1) (N.map nval ++ [.slice (some ⟨g,0,none⟩) R.length c])) (hg:w.grownBy w' nv.ownBlock) (hat:v'.ownBlock=nv.ownBlock\/v'.ownBlock=some w.heap.size) :
  w'.heap[bA]?=some (.cells #[kv,nv] 55 (0,0))/\BF B W (w'.setCell ⟨bA,1,none⟩ v') bA bN bM bG bR gc kv v' K (N ++ [(g,c,R)]) F (.slice none 0 0) [] noneI:=by
 have e2:(N ++ [(g,c,R)]).map nval=N.map nval ++ [.slice (some ⟨g,0,none⟩) R.length c]:=by simp [nval]
 have h1:=h.foot.push 4 (ys:=N.map nval ++ [.slice (some ⟨g,0,none⟩) R.length c]) rfl (by rw [List.length_append,List.length_map]; exact hown) hg hat
 have h2:=foot_cell (k:=1) (v:=v') h1 0 rfl
 have hrow:=h2.ok 7 _ rfl
 have h3:=h2.two 6 7 rfl rfl (by decide) (nfI (N ++ [(g,c,R)])) (rowI B 3 (.slice none 0 0) []) (fun q hq=>by
  rcases List.mem_append.1 hq with e | e
  ·exact (h2.ok 6 _ rfl) q e
  ·obtain rfl:q=(g,c,R):=by simpa using e
   refine own_intH (n:=R.length) (c:=c) (B:=B) ?_
   have hl:(zints R).length=R.length:=by unfold zints; rw [List.length_map]
   have:World.ownsRow _ B 3 1 (.slice (some ⟨g,0,none⟩) R.length c) (zints R).length (zints R):=hrow
   rw [hl] at this
   exact this) (World.ownsRow_nil _ _ _ _) (fun b hb=>by
  obtain ⟨q,hq,rfl⟩:=List.mem_map.1 hb
  rcases List.mem_append.1 hq with e | e
  ·exact .inl (List.mem_map.2 ⟨q,e,rfl⟩)
  ·obtain rfl:q=(g,c,R):=by simpa using e
   refine .inr ?_
   show g ∈ (Value.slice (some ⟨g,0,none⟩) R.length c).ownBlock.toList
   simp [Value.ownBlock]) (fun b hb=>by
  have:b ∈ (Value.slice none 0 0).ownBlock.toList:=hb
  simp [Value.ownBlock] at this) (fun b _ hb=>by
  have:b ∈ (Value.slice none 0 0).ownBlock.toList:=hb
  simp [Value.ownBlock] at this)
 have h4:=h3.say 10 rfl noneI trivial (fun b hb=>by cases hb)
 refine ⟨h1.ok 0 _ rfl,?_,h.inF⟩
 unfold bItems
 rw [e2]
 exact h4
theorem BF.ker (h:BF B W w bA bN bM bG bR gc kv nv K N F rv xs mi) (hK:K.length<=1000000) {i:Nat} {q:KR} (hi:K[i]?=some q):∃ g c,kv=.slice (some ⟨g,0,none⟩) K.length c/\w.cell? ⟨g,i,none⟩=some (kval q):=by
 obtain ⟨o,c,e⟩:=own_shape h.rowK
 rw [List.length_map] at e
 have hr:=own_rows (p:=fun j u=>(K.map kval)[j]?=some u) h.rowK (by rw [List.length_map]; omega) (fun j u hu=>hu)
 rw [e] at hr
 obtain ⟨b,off,u,e1,e2,e3⟩:=hr.at_ (k:=i) (by rw [List.length_map]; exact (List.getElem?_eq_some_iff.1 hi).1)
 have hu:u=kval q:=by
  have e3':(K.map kval)[i]?=some u:=e3
  rw [List.getElem?_map,hi] at e3'
  exact (Option.some.inj e3').symm
 have hrow:=h.rowK
 rw [e,List.length_map] at hrow
 rcases hrow.2 with ⟨h1,h2⟩ | ⟨g,cap,cur,h1,_⟩
 ·injection h1 with h1
  rw [h1] at e1
  cases e1
 ·injection h1 with h1 _ h2
  rw [h1] at e1
  injection e1 with e1
  injection e1 with e1 e4
  subst e1
  refine ⟨g,c,by rw [e,h1],?_⟩
  rw [<-hu,show i=off + i by omega]
  exact e2
end
end Go.Proofs.YticmnfmijdgmbaaGreatDoor
