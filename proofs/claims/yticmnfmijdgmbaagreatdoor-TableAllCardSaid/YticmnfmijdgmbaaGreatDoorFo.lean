import Derived.Maps.Own
import Derived.Maps.OwnOps
import Derived.Test.YticmnfmijdgmbaaGreatDoorSj
set_option linter.all false
namespace Go.Proofs.YticmnfmijdgmbaaGreatDoor
open Go Go.RowKit Go.Lib Go.MapKept Go.ChangeMaps
open Go.Maps (Keyed)
structure bH (P:Program) (k:TypeId) (w:World) (b:Nat) (L:List (Value×Value)):Prop where
 ex:∃ es clock,w.heap[b]?=some (.map es clock)/\es.toList.map (fun e=>(e.key,e.val))=L
 keyed:∀ p∈L,∃ l,keyOf P k p.1=some l
 apart:(L.map (·.1)).Nodup
section
variable {P:Program}{k e t:TypeId}{w:World}{b:Nat}{L:List (Value×Value)}
theorem bH.made (w:World):bH P k (w.alloc (.map #[] 0)) w.heap.size []:=⟨⟨#[],0,(MapKept.heap_alloc w _).1,rfl⟩,by simp,by simp⟩
theorem bH.lt (h:bH P k w b L):b<w.heap.size:=by
 obtain⟨es,clock,hb,_⟩:=h.ex;exact(dZ hb)
theorem bH.kept {w':World}(h:bH P k w b L)(hb:w'.heap[b]?=w.heap[b]?):bH P k w' b L:=by
 obtain⟨es,clock,h1,h2⟩:=h.ex;exact⟨⟨es,clock,hb.trans h1,h2⟩,h.keyed,h.apart⟩
theorem bH.below {w':World}(h:bH P k w b L)(hb:aj w w'):bH P k w' b L:=h.kept (hb.block b h.lt)
theorem bH.entry {es:Array MapEntry}(h:es.toList.map (fun e=>(e.key,e.val))=L){x:MapEntry}(hx:x∈es.toList):(x.key,x.val)∈L:=by
 rw[<-h];exact List.mem_map.2 ⟨x,hx,rfl⟩
theorem bH.keys (h:bH P k w b L){es:Array MapEntry}(he:es.toList.map (fun e=>(e.key,e.val))=L):∀ x∈es.toList,∃ l,keyOf P k x.key=some l:=
 fun x hx=>h.keyed _ (bH.entry he hx)
theorem Df {L:List (Value×Value)}(hn:(L.map (·.1)).Nodup){x u v:Value}(h1:(x,u)∈L)(h2:(x,v)∈L):u=v:=by
 induction L with
 | nil=>cases h1
 | cons p L ih =>
  rw[List.map_cons,List.nodup_cons]at hn;rcases List.mem_cons.1 h1 with e1 | h1
  ·rcases List.mem_cons.1 h2 with e2 | h2
   ·rw[<-e1]at e2;injection e2 with _ e2;exact e2.symm
   ·exact absurd (List.mem_map.2 ⟨_,h2,by rw[<-e1]⟩) hn.1
  ·rcases List.mem_cons.1 h2 with e2 | h2
   ·exact absurd (List.mem_map.2 ⟨_,h1,by rw[<-e2]⟩) hn.1
   ·exact ih hn.2 h1 h2
theorem bH.zI (h:bH P k w b L)(K:Keyed P k)(ht:P.underlying t=some (.map k e)){x v:Value}{lx:Lit}(hkey:keyOf P k x=some lx)(hm:(x,v)∈L) :
  (Instr.lookup t (.map (some b)) x true).run P w=.ok (.tuple #[v,.bool true]) w:=by
 obtain⟨es,clock,hb,he⟩:=h.ex;rcases K.find w hkey es.toList (h.keys he)with⟨h1,h2⟩ | ⟨j,e0,h1,h2,h3⟩
 ·rw[<-he]at hm;obtain⟨y,hy,hyx⟩:=List.mem_map.1 hm;injection hyx with e1 _;exact absurd e1 (h2 y hy)
 ·have hv:e0.val=v:=Df h.apart (by rw[<-h3];exact bH.entry he (List.mem_of_getElem? h2)) hm;simp[Instr.lookup,run_underlying ht,MapKept.run_getObj_map hb,K.check w _ hkey,h1,hv,Result.andThen]
theorem bH.zJ (h:bH P k w b L)(K:Keyed P k)(ht:P.underlying t=some (.map k e)){x z:Value}{lx:Lit}(hkey:keyOf P k x=some lx)(hz:(zeroValue e).run P w=.ok z w)(hn:∀ p∈L,p.1≠x) :
  (Instr.lookup t (.map (some b)) x true).run P w=.ok (.tuple #[z,.bool false]) w:=by
 obtain⟨es,clock,hb,he⟩:=h.ex;rcases K.find w hkey es.toList (h.keys he)with⟨h1,h2⟩ | ⟨j,e0,h1,h2,h3⟩
 ·simp[Instr.lookup,run_underlying ht,MapKept.run_getObj_map hb,K.check w _ hkey,h1,hz,Result.andThen]
 ·exact absurd h3 (hn _ (bH.entry he (List.mem_of_getElem? h2)))
theorem bH.put (h:bH P k w b L)(K:Keyed P k)(ht:P.underlying t=some (.map k e)){x v:Value}{lx:Lit}(hkey:keyOf P k x=some lx)(hn:∀ p∈L,p.1≠x) :
  ∃ w',(Instr.mapUpdate t (.map (some b)) x v).run P w=.ok () w'/\bH P k w' b (L++[(x,v)])/\w.grownBy w' (some b):=by
 obtain⟨es,clock,hb,he⟩:=h.ex;rcases K.find w hkey es.toList (h.keys he)with⟨h1,h2⟩ | ⟨j,e0,h1,h2,h3⟩
 ·refine⟨setBlock w b (.map (es.push {key:=x,val:=v,born:=clock}) (clock+1)),?_,⟨⟨_,_,heap_setBlock_same hb _,by simp[he]⟩,?_,?_⟩,⟨rfl,rfl,rfl,by simp[setBlock],fun i _ hi=>heap_setBlock_other hb _ (fun e=>hi (by rw[e]))⟩⟩
  ·simp[Instr.mapUpdate,run_underlying ht,MapKept.run_getObj_map hb,K.check w _ hkey,h1,MapKept.run_setObj_map _ hb,Result.andThen,setBlock]
  ·intro p hp;rcases List.mem_append.1 hp with hp | hp
   ·exact h.keyed p hp
   ·simp at hp;subst hp;exact⟨lx,hkey⟩
  ·rw[List.map_append,List.nodup_append];refine⟨h.apart,by simp,?_⟩;intro a ha b' hb';simp at hb';subst hb';obtain⟨p,hp,rfl⟩:=List.mem_map.1 ha;exact hn p hp
 ·exact absurd h3 (hn _ (bH.entry he (List.mem_of_getElem? h2)))
theorem uM {ops:Array Oper}{rest:List Oper}{o:Oper}{a:Act}{Q:Exit->Act->World->Prop}(hg:o.guard=none)(m x:Operand)(t:TypeId)(hop:o.op=Op.lookup t m x true)
  (K:Keyed P k) (ht:P.underlying t=some (.map k e)) (hm:a.eval m=.map (some b)) (h:bH P k w b L) (xv v:Value) (lx:Lit) (hx:a.eval x=xv) (hkey:keyOf P k xv=some lx) (hmem:(xv,v)∈L)
  (hK:wpList P ops Q rest (a.put o.dst (.tuple #[v,.bool true])) w):wpList P ops Q (o::rest) a w:=by
 refine wpList_plain hg fun K' hK'=>?_;have hrun:=h.zI K ht hkey hmem;unfold Oper.wp;simp[execOp,hop,hm,hx,hrun,Result.andThen];exact hK' _ _ hK
theorem uN {ops:Array Oper}{rest:List Oper}{o:Oper}{a:Act}{Q:Exit->Act->World->Prop}(hg:o.guard=none)(m x:Operand)(t:TypeId)(hop:o.op=Op.lookup t m x true)
  (K:Keyed P k) (ht:P.underlying t=some (.map k e)) (hm:a.eval m=.map (some b)) (h:bH P k w b L) (xv z:Value) (lx:Lit) (hx:a.eval x=xv) (hkey:keyOf P k xv=some lx) (hz:(zeroValue e).run P w=.ok z w) (hn:∀ p∈L,p.1≠xv)
  (hK:wpList P ops Q rest (a.put o.dst (.tuple #[z,.bool false])) w):wpList P ops Q (o::rest) a w:=by
 refine wpList_plain hg fun K' hK'=>?_;have hrun:=h.zJ K ht hkey hz hn;unfold Oper.wp;simp[execOp,hop,hm,hx,hrun,Result.andThen];exact hK' _ _ hK
theorem rV {ops:Array Oper}{rest:List Oper}{o:Oper}{a:Act}{Q:Exit->Act->World->Prop}(hg:o.guard=none)(m x v:Operand)(t:TypeId)(hop:o.op=Op.mapUpdate t m x v\/o.op=Op.insert t m x v)
  (K:Keyed P k) (ht:P.underlying t=some (.map k e)) (hm:a.eval m=.map (some b)) (h:bH P k w b L) (xv vv:Value) (lx:Lit) (hx:a.eval x=xv) (hv:a.eval v=vv) (hkey:keyOf P k xv=some lx) (hn:∀ p∈L,p.1≠xv)
  (hK:∀ w',bH P k w' b (L++[(xv,vv)])->w.grownBy w' (some b)->wpList P ops Q rest (a.put o.dst undef) w'):wpList P ops Q (o::rest) a w:=by
 refine wpList_plain hg fun K' hK'=>?_;obtain⟨w',hrun,h1,h2⟩:=h.put (v:=vv) K ht hkey hn;unfold Oper.wp;rcases hop with hop | hop
 ·simp[execOp,hop,hm,hx,hv,hrun,Result.andThen];exact hK' _ _ (hK w' h1 h2)
 ·simp[execOp,hop,hm,hx,hv,hrun,Result.andThen];exact hK' _ _ (hK w' h1 h2)
theorem bH.sK (h:bH P k w b L)(K:Keyed P k)(ht:P.underlying t=some (.map k e)){x v:Value}{lx:Lit}(hkey:keyOf P k x=some lx)(hm:(x,v)∈L) :
  (Instr.lookup t (.map (some b)) x false).run P w=.ok v w:=by
 obtain⟨es,clock,hb,he⟩:=h.ex;rcases K.find w hkey es.toList (h.keys he)with⟨h1,h2⟩ | ⟨j,e0,h1,h2,h3⟩
 ·rw[<-he]at hm;obtain⟨y,hy,hyx⟩:=List.mem_map.1 hm;injection hyx with e1 _;exact absurd e1 (h2 y hy)
 ·have hv:e0.val=v:=Df h.apart (by rw[<-h3];exact bH.entry he (List.mem_of_getElem? h2)) hm;simp[Instr.lookup,run_underlying ht,MapKept.run_getObj_map hb,K.check w _ hkey,h1,hv,Result.andThen]
theorem bH.sN (h:bH P k w b L)(K:Keyed P k)(ht:P.underlying t=some (.map k e)){x z:Value}{lx:Lit}(hkey:keyOf P k x=some lx)(hz:(zeroValue e).run P w=.ok z w)(hn:∀ p∈L,p.1≠x) :
  (Instr.lookup t (.map (some b)) x false).run P w=.ok z w:=by
 obtain⟨es,clock,hb,he⟩:=h.ex;rcases K.find w hkey es.toList (h.keys he)with⟨h1,h2⟩ | ⟨j,e0,h1,h2,h3⟩
 ·simp[Instr.lookup,run_underlying ht,MapKept.run_getObj_map hb,K.check w _ hkey,h1,hz,Result.andThen]
 ·exact absurd h3 (hn _ (bH.entry he (List.mem_of_getElem? h2)))
theorem bH.change (h:bH P k w b L)(K:Keyed P k)(ht:P.underlying t=some (.map k e)){x u v:Value}{lx:Lit}(hkey:keyOf P k x=some lx){j:Nat}(hj:L[j]?=some (x,u)) :
  ∃ w',(Instr.mapUpdate t (.map (some b)) x v).run P w=.ok () w'/\bH P k w' b (L.set j (x,v))/\w.grownBy w' (some b):=by
 obtain⟨es,clock,hb,he⟩:=h.ex;have hlen:L.length=es.size:=by rw[<-he];simp
 have hjL:=(List.getElem?_eq_some_iff.1 hj).1;rcases K.find w hkey es.toList (h.keys he)with⟨h1,h2⟩ | ⟨j',e0,h1,h2,h3⟩
 ·have hm:=List.mem_of_getElem? hj;rw[<-he]at hm;obtain⟨y,hy,hyx⟩:=List.mem_map.1 hm;injection hyx with e1 _;exact absurd e1 (h2 y hy)
 ·have hjj:j=j':=by
   refine(List.getElem?_inj (by rw[List.length_map];exact hjL) h.apart).1 ?_;rw[List.getElem?_map,hj,<-he,List.getElem?_map,List.getElem?_map,h2];simp[h3]
  subst hjj;have h2':es[j]?=some e0:=by rw[<-Array.getElem?_toList];exact h2
  have hjs:=(Array.getElem?_eq_some_iff.1 h2').1;have hkeep:∀ (w:World),(Instr.keyThatStays (((es[j]?).map (·.key)).getD x) x).run P w=.ok x w:=fun w=>by
   rw[h2'];show(Instr.keyThatStays e0.key x).run P w=_;rw[h3];exact K.stays w hkey
  refine⟨setBlock w b (.map (es.modify j fun e=>{e with key:=x,val:=v}) clock),?_,⟨⟨_,_,heap_setBlock_same hb _,?_⟩,?_,?_⟩,⟨rfl,rfl,rfl,by simp[setBlock],fun i _ hi=>heap_setBlock_other hb _ (fun e=>hi (by rw[e]))⟩⟩
  ·have hk2:=K.stays w hkey;simp[Instr.mapUpdate,run_underlying ht,MapKept.run_getObj_map hb,K.check w _ hkey,h1,h2',h3,hk2,MapKept.run_setObj_map _ hb,Result.andThen,setBlock]
  ·refine List.ext_getElem? fun i=>?_;rw[List.getElem?_map,Array.getElem?_toList,Array.getElem?_modify,List.getElem?_set,<-he,List.length_map,Array.length_toList,List.getElem?_map,Array.getElem?_toList];by_cases hi:j=i
   ·subst hi;rw[if_pos rfl,if_pos rfl,if_pos hjs,h2'];rfl
   ·rw[if_neg hi,if_neg hi]
  ·intro p hp;rcases List.mem_or_eq_of_mem_set hp with hp | hp
   ·exact h.keyed p hp
   ·subst hp;exact⟨lx,hkey⟩
  ·have e2:(L.set j (x,v)).map (·.1)=L.map (·.1):=by
    rw[List.map_set];refine List.ext_getElem? fun i=>?_;rw[List.getElem?_set];split
    ·rename_i hi;subst hi;rw[List.getElem?_map,hj,List.length_map,if_pos hjL];rfl
    ·rfl
   rw[e2];exact h.apart
theorem tX {ops:Array Oper}{rest:List Oper}{o:Oper}{a:Act}{Q:Exit->Act->World->Prop}(hg:o.guard=none)(m x:Operand)(t:TypeId)(hop:o.op=Op.lookup t m x false)
  (K:Keyed P k) (ht:P.underlying t=some (.map k e)) (hm:a.eval m=.map (some b)) (h:bH P k w b L) (xv v:Value) (lx:Lit) (hx:a.eval x=xv) (hkey:keyOf P k xv=some lx) (hmem:(xv,v)∈L)
  (hK:wpList P ops Q rest (a.put o.dst v) w):wpList P ops Q (o::rest) a w:=by
 refine wpList_plain hg fun K' hK'=>?_;have hrun:=h.sK K ht hkey hmem;unfold Oper.wp;simp[execOp,hop,hm,hx,hrun,Result.andThen];exact hK' _ _ hK
theorem tY {ops:Array Oper}{rest:List Oper}{o:Oper}{a:Act}{Q:Exit->Act->World->Prop}(hg:o.guard=none)(m x:Operand)(t:TypeId)(hop:o.op=Op.lookup t m x false)
  (K:Keyed P k) (ht:P.underlying t=some (.map k e)) (hm:a.eval m=.map (some b)) (h:bH P k w b L) (xv z:Value) (lx:Lit) (hx:a.eval x=xv) (hkey:keyOf P k xv=some lx) (hz:(zeroValue e).run P w=.ok z w) (hn:∀ p∈L,p.1≠xv)
  (hK:wpList P ops Q rest (a.put o.dst z) w):wpList P ops Q (o::rest) a w:=by
 refine wpList_plain hg fun K' hK'=>?_;have hrun:=h.sN K ht hkey hz hn;unfold Oper.wp;simp[execOp,hop,hm,hx,hrun,Result.andThen];exact hK' _ _ hK
theorem yS {ops:Array Oper}{rest:List Oper}{o:Oper}{a:Act}{Q:Exit->Act->World->Prop}(hg:o.guard=none)(m x v:Operand)(t:TypeId)(hop:o.op=Op.mapUpdate t m x v\/o.op=Op.insert t m x v)
  (K:Keyed P k) (ht:P.underlying t=some (.map k e)) (hm:a.eval m=.map (some b)) (h:bH P k w b L) (xv vv:Value) (lx:Lit) (hx:a.eval x=xv) (hv:a.eval v=vv) (hkey:keyOf P k xv=some lx) (j:Nat) (u:Value) (hj:L[j]?=some (xv,u))
  (hK:∀ w',bH P k w' b (L.set j (xv,vv))->w.grownBy w' (some b)->wpList P ops Q rest (a.put o.dst undef) w'):wpList P ops Q (o::rest) a w:=by
 refine wpList_plain hg fun K' hK'=>?_;obtain⟨w',hrun,h1,h2⟩:=h.change (v:=vv) K ht hkey hj;unfold Oper.wp;rcases hop with hop | hop
 ·simp[execOp,hop,hm,hx,hv,hrun,Result.andThen];exact hK' _ _ (hK w' h1 h2)
 ·simp[execOp,hop,hm,hx,hv,hrun,Result.andThen];exact hK' _ _ (hK w' h1 h2)
end
theorem Bf:Keyed Tryz.prog 9:=Maps.string_keyed Tryz.underlying9
theorem wf_i64 {a:Int}(h0:-9223372036854775808<=a)(h1:a<=9223372036854775807):(Lit.int .i64 a).wf=true:=by
 simp[Lit.wf,IntKind.min,IntKind.max,IntKind.signed,IntKind.bits];omega
open Go Go.RowKit Go.Lib
structure Item where
 bl:List Nat
 ok:World->Prop
 kept:∀ {w w':World},(∀ b∈bl,w'.heap[b]?=w.heap[b]?)->ok w->ok w'
structure Touch (T:List Nat) (w w':World):Prop where
 os:w'.os=w.os
 tape:w'.tape=w.tape
 output:w'.output=w.output
 size:w.heap.size<=w'.heap.size
 block:∀ g,g<w.heap.size->g∉T->w'.heap[g]?=w.heap[g]?
theorem Touch.grown {w w':World}{o:Option Nat}(h:w.grownBy w' o):Touch o.toList w w':=
 ⟨h.os,h.tape,h.output,h.size,fun g hg hn=>h.block g hg (fun e=>hn (by rw[<-e];simp))⟩
theorem Touch.below {w w':World}(h:aj w w'):Touch [] w w':=⟨h.os,h.tape,h.output,h.size,fun g hg _=>h.block g hg⟩
theorem Touch.set (w:World)(b k:Nat)(v:Value):Touch [b] w (w.setCell ⟨b,k,none⟩ v):=
 ⟨rfl,rfl,rfl,by simp,fun g _ hn=>Below.heap_setCell w ⟨b,k,none⟩ v g (fun e=>hn (by simp[e]))⟩
theorem Touch.mono {T T':List Nat}{w w':World}(h:Touch T w w')(hs:∀ g∈T,g∈T'):Touch T' w w':=⟨h.os,h.tape,h.output,h.size,fun g hg hn=>h.block g hg fun k=>hn (hs g k)⟩
theorem Touch.trans {T:List Nat}{w w' w'':World}(h:Touch T w w')(k:Touch T w' w''):Touch T w w'':=
 ⟨k.os.trans h.os,k.tape.trans h.tape,k.output.trans h.output,eX h.size k.size,fun g hg hn=>(k.block g (Nat.lt_of_lt_of_le hg h.size) hn).trans (h.block g hg hn)⟩
structure az (B:Nat) (W w:World) (l:List Item):Prop where
 bel:Below B W w
 le:B<=W.heap.size
 ok:∀ (i:Nat) x,l[i]?=some x->x.ok w
 lt:∀ (i:Nat) x,l[i]?=some x->∀ b∈x.bl,B<=b/\b<w.heap.size
 apart:∀ (i j:Nat) x y b,l[i]?=some x->l[j]?=some y->b∈x.bl->b∈y.bl->i=j
theorem az.empty (w:World)(B:Nat)(h:B<=w.heap.size):az B w w []:=⟨eH _ _,h,by simp,by simp,by simp⟩
theorem Touch.bel {B:Nat}{W w w':World}{T:List Nat}(h:Touch T w w')(hb:Below B W w)(hB:B<=W.heap.size)(hT:∀ b∈T,B<=b):Below B W w':=
 ⟨h.os.trans hb.os,h.tape.trans hb.tape,h.output.trans hb.output,eX hb.size h.size,fun g hg=>(h.block g (by have:=hb.size;omega) fun hn=>by have:=hT g hn;omega).trans (hb.block g hg)⟩
section
variable {B:Nat}{W w w':World}{l:List Item}{x y z:Item}{i j:Nat}
theorem az.upd (h:az B W w l)(i:Nat){x:Item}(hx:l[i]?=some x)(y:Item)(ht:Touch x.bl w w')(hy:y.ok w')(hb:∀ b∈y.bl,(b∈x.bl\/w.heap.size<=b)/\b<w'.heap.size):az B W w' (l.set i y) where
 bel:=ht.bel h.bel h.le fun b hb=>(h.lt i x hx b hb).1
 le:=h.le
 ok j u hu:=by
  rw[List.getElem?_set]at hu;by_cases e:i=j
  ·rw[if_pos e]at hu;split at hu
   ·injection hu with hu;rw[<-hu];exact hy
   ·cases hu
  ·rw[if_neg e]at hu;exact u.kept (fun b hb=>ht.block b (h.lt j u hu b hb).2 fun k=>e (h.apart i j x u b hx hu k hb)) (h.ok j u hu)
 lt j u hu b hbu:=by
  rw[List.getElem?_set]at hu;by_cases e:i=j
  ·rw[if_pos e]at hu;split at hu
   ·injection hu with hu;subst hu;obtain⟨h1,h2⟩:=hb b hbu;refine⟨?_,h2⟩;rcases h1 with h1 | h1
    ·exact(h.lt i x hx b h1).1
    ·have:=h.le;have:=h.bel.size;omega
   ·cases hu
  ·rw[if_neg e]at hu;have:=h.lt j u hu b hbu;have:=ht.size;omega
 apart j k u v b hu hv hbu hbv:=by
  rw[List.getElem?_set]at hu hv;by_cases e:i=j
  ·by_cases e2:i=k
   ·omega
   ·exfalso;rw[if_pos e]at hu;rw[if_neg e2]at hv;split at hu
    ·injection hu with hu;subst hu;rcases(hb b hbu).1 with h1 | h1
     ·exact e2 (h.apart i k x v b hx hv h1 hbv)
     ·have:=(h.lt k v hv b hbv).2;omega
    ·cases hu
  ·rw[if_neg e]at hu;by_cases e2:i=k
   ·exfalso;rw[if_pos e2]at hv;split at hv
    ·injection hv with hv;subst hv;rcases(hb b hbv).1 with h1 | h1
     ·exact e (h.apart i j x u b hx hu h1 hbu)
     ·have:=(h.lt j u hu b hbu).2;omega
    ·cases hv
   ·rw[if_neg e2]at hv;exact h.apart j k u v b hu hv hbu hbv
theorem az.below (h:az B W w l)(hb:aj w w'):az B W w' l where
 bel:=(Touch.below hb).bel h.bel h.le (by simp)
 le:=h.le
 ok j u hu:=u.kept (fun b hbu=>hb.block b (h.lt j u hu b hbu).2) (h.ok j u hu)
 lt j u hu b hbu:=by have:=h.lt j u hu b hbu;have:=hb.size;omega
 apart:=h.apart
theorem az.add (h:az B W w l)(y:Item)(hw:aj w w')(hy:y.ok w')(hb:∀ b∈y.bl,w.heap.size<=b/\b<w'.heap.size):az B W w' (l++[y]) where
 bel:=(h.below hw).bel
 le:=h.le
 ok j u hu:=by
  rcases Nat.lt_or_ge j l.length with hj | hj
  ·rw[List.getElem?_append_left hj]at hu;exact(h.below hw).ok j u hu
  ·rw[List.getElem?_append_right hj]at hu;have:=(List.getElem?_eq_some_iff.1 hu).1;simp at this;rw[this]at hu;injection hu with hu;rw[<-hu];exact hy
 lt j u hu b hbu:=by
  rcases Nat.lt_or_ge j l.length with hj | hj
  ·rw[List.getElem?_append_left hj]at hu;exact(h.below hw).lt j u hu b hbu
  ·rw[List.getElem?_append_right hj]at hu;have:=(List.getElem?_eq_some_iff.1 hu).1;simp at this;rw[this]at hu;injection hu with hu;subst hu;have:=hb b hbu;have:=h.le;have:=h.bel.size;omega
 apart j k u v b hu hv hbu hbv:=by
  rcases Nat.lt_or_ge j l.length with hj | hj
  ·rw[List.getElem?_append_left hj]at hu;rcases Nat.lt_or_ge k l.length with hk | hk
   ·rw[List.getElem?_append_left hk]at hv;exact h.apart j k u v b hu hv hbu hbv
   ·rw[List.getElem?_append_right hk]at hv;have:=(List.getElem?_eq_some_iff.1 hv).1;simp at this;rw[this]at hv;injection hv with hv;subst hv;have:=(h.lt j u hu b hbu).2;have:=(hb b hbv).1;omega
  ·rw[List.getElem?_append_right hj]at hu;have hj2:=(List.getElem?_eq_some_iff.1 hu).1;simp at hj2;rw[hj2]at hu;injection hu with hu;subst hu;rcases Nat.lt_or_ge k l.length with hk | hk
   ·rw[List.getElem?_append_left hk]at hv;have:=(h.lt k v hv b hbv).2;have:=(hb b hbu).1;omega
   ·rw[List.getElem?_append_right hk]at hv;have:=(List.getElem?_eq_some_iff.1 hv).1;simp at this;omega
theorem az.pick (h:az B W w l)(m:List Item)(f:Nat->Nat)(hf:∀ i x,m[i]?=some x->l[f i]?=some x)(hi:∀ i j,i<m.length->j<m.length->f i=f j->i=j):az B W w m where
 bel:=h.bel
 le:=h.le
 ok i x hx:=h.ok _ x (hf i x hx)
 lt i x hx:=h.lt _ x (hf i x hx)
 apart i j x y b hx hy h1 h2:=hi i j (List.getElem?_eq_some_iff.1 hx).1 (List.getElem?_eq_some_iff.1 hy).1 (h.apart _ _ x y b (hf i x hx) (hf j y hy) h1 h2)
theorem az.say (h:az B W w l)(i:Nat){x:Item}(hx:l[i]?=some x)(y:Item)(hy:y.ok w)(hb:∀ b∈y.bl,b∈x.bl):az B W w (l.set i y):=
 h.upd i hx y ⟨rfl,rfl,rfl,bJ _,fun _ _ _=>rfl⟩ hy fun b k=>⟨.inl (hb b k),(h.lt i x hx b (hb b k)).2⟩
theorem az.join (h:az B W w l)(i j:Nat){x y:Item}(hx:l[i]?=some x)(hy:l[j]?=some y)(hij:i≠j)(z u:Item)(hz:z.ok w)(hu:u.ok w)(hu0:u.bl=[])(hb:∀ b∈z.bl,b∈x.bl\/b∈y.bl):az B W w ((l.set j u).set i z) where
 bel:=h.bel
 le:=h.le
 ok k v hv:=by
  rw[List.getElem?_set]at hv;by_cases e:i=k
  ·rw[if_pos e]at hv;split at hv
   ·injection hv with hv;rw[<-hv];exact hz
   ·cases hv
  ·rw[if_neg e,List.getElem?_set]at hv;by_cases e2:j=k
   ·rw[if_pos e2]at hv;split at hv
    ·injection hv with hv;rw[<-hv];exact hu
    ·cases hv
   ·rw[if_neg e2]at hv;exact h.ok k v hv
 lt k v hv b hbv:=by
  rw[List.getElem?_set]at hv;by_cases e:i=k
  ·rw[if_pos e]at hv;split at hv
   ·injection hv with hv;subst hv;rcases hb b hbv with h1 | h1
    ·exact h.lt i x hx b h1
    ·exact h.lt j y hy b h1
   ·cases hv
  ·rw[if_neg e,List.getElem?_set]at hv;by_cases e2:j=k
   ·rw[if_pos e2]at hv;split at hv
    ·injection hv with hv;rw[<-hv,hu0]at hbv;cases hbv
    ·cases hv
   ·rw[if_neg e2]at hv;exact h.lt k v hv b hbv
 apart k m v q b hv hq hbv hbq:=by
  have key:∀ (k:Nat) v,((l.set j u).set i z)[k]?=some v->b∈v.bl->(k=i/\((∃ x,l[i]?=some x/\b∈x.bl)\/∃ x,l[j]?=some x/\b∈x.bl))\/(k≠i/\k≠j/\l[k]?=some v):=by
   intro k v hv hbv;rw[List.getElem?_set]at hv;by_cases e:i=k
   ·rw[if_pos e]at hv;split at hv
    ·injection hv with hv;subst hv;rcases hb b hbv with h1 | h1
     ·exact .inl ⟨e.symm,.inl ⟨x,hx,h1⟩⟩
     ·exact .inl ⟨e.symm,.inr ⟨y,hy,h1⟩⟩
    ·cases hv
   ·rw[if_neg e,List.getElem?_set]at hv;by_cases e2:j=k
    ·rw[if_pos e2]at hv;split at hv
     ·injection hv with hv;rw[<-hv,hu0]at hbv;cases hbv
     ·cases hv
    ·rw[if_neg e2]at hv;exact .inr ⟨fun e3=>e e3.symm,fun e3=>e2 e3.symm,hv⟩
  rcases key k v hv hbv with⟨rfl,h1⟩ | ⟨k1,k2,k3⟩
  ·rcases key m q hq hbq with⟨rfl,h2⟩ | ⟨m1,m2,m3⟩
   ·rfl
   ·rcases h1 with⟨x',h1,h1b⟩ | ⟨x',h1,h1b⟩
    ·exact absurd (h.apart _ _ x' q b h1 m3 h1b hbq) (fun e=>m1 e.symm)
    ·exact absurd (h.apart _ _ x' q b h1 m3 h1b hbq) (fun e=>m2 e.symm)
  ·rcases key m q hq hbq with⟨rfl,h2⟩ | ⟨m1,m2,m3⟩
   ·rcases h2 with⟨x',h1,h1b⟩ | ⟨x',h1,h1b⟩
    ·exact absurd (h.apart _ _ x' v b h1 k3 h1b hbv) (fun e=>k1 e.symm)
    ·exact absurd (h.apart _ _ x' v b h1 k3 h1b hbv) (fun e=>k2 e.symm)
   ·exact h.apart k m v q b k3 m3 hbv hbq
end
def pU (B:Nat)(e:TypeId)(v:Value)(xs:List Value):Item where
 bl:=v.ownBlock.toList
 ok w:=w.ownsRow B e 1 v xs.length xs
 kept h hw:=jJ hw fun g hg=>h g (by rw[hg];simp)
def ae (b:Nat)(o:Obj):Item where
 bl:=[b]
 ok w:=w.heap[b]?=some o
 kept h hw:=(h b (by simp)).trans hw
def lI (k:TypeId)(b:Nat)(L:List (Value×Value)):Item where
 bl:=[b]
 ok w:=bH Tryz.prog k w b L
 kept h hw:=hw.kept (h b (by simp))
def Dq:Item where
 bl:=[]
 ok _:=True
 kept _ _:=trivial
theorem az.push {B:Nat}{W w w':World}{l:List Item}(h:az B W w l)(i:Nat){e:TypeId}{v v':Value}{xs ys:List Value}(hx:l[i]?=some (pU B e v xs))(hown:w'.ownsRow B e 1 v' ys.length ys)(hg:w.grownBy w' v.ownBlock)(hat:v'.ownBlock=v.ownBlock\/v'.ownBlock=some w.heap.size):az B W w' (l.set i (pU B e v' ys)):=
 h.upd i hx (pU B e v' ys) (Touch.grown hg) hown fun b hb=>by
  have hb':v'.ownBlock=some b:=by
   have:b∈v'.ownBlock.toList:=hb;simpa using this
  refine⟨?_,(iF hown b hb').2⟩;rcases hat with e1 | e1
  ·exact .inl (show b∈v.ownBlock.toList by rw[<-e1,hb'];simp)
  ·rw[e1]at hb';injection hb' with hb';exact .inr (by omega)
end Go.Proofs.YticmnfmijdgmbaaGreatDoor
