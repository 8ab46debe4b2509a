/- A grammar's table: what is ahead, and what is done, told of the machine. -/
import Derived.Test.YticmnfmijdgmbaaGreatDoorZl
import Derived.Deep.Slices
import Derived.OpenShut
import Derived.ChangeSame
import Derived.Lib.SmallJoins
import Derived.Test.YticmnfmijdgmbaaGreatDoorGa
import Derived.LaidSub
import Derived.MakeChecks
import Derived.Test.YticmnfmijdgmbaaGreatDoorQHs
set_option linter.unusedVariables false
set_option linter.unusedSimpArgs false
namespace Go.Proofs.YticmnfmijdgmbaaGreatDoor
open X14 (It iterB BuiltOk closeX rightX behX sortX symsX InC thereX stepX)
open S13 (u64 bitN top E0 F0 Sub hasN Least LeastS evF ofRow isK RowOk sub_iff testBit_bitN valid_rows e0_least f0_least)
open S13.X15 (Pl LeastA askX places cxB Cx CxOk cx_ok mem_places mem_C askX_some askX_none needX_mem fstX nulX nulB restX go_built SymOk)
namespace S16
section
variable {G:GD} {n:Nat} {D:Nat->Nat->List It} {A:Pl->Nat}
abbrev LA (G:GD) (n:Nat) (A:Pl->Nat):Prop:=LeastA (askX (cxB G n (E0 G) (F0 G))) (places (cxB G n (E0 G) (F0 G)) n) (0,(-1,0)) (bitN 63) A
theorem f0_low (hV:validB G=true):∀ y ∈ F0 G,y < top:=(f0_least hV).2.2
theorem lk_of (hV:validB G=true) (hO:BuiltOk G n) (hL:LA G n A) {i:Nat} {p:Int} {d t:Nat} (hc:(mG G n D).C i p d) (h:(A (i,(p,(d:Int)))).testBit t=true):LR.Lk (mG G n D) i p d t:=by
 have hm:=hL.least (fun q=>maskN (fun b=>LR.Lk (mG G n D) q.1 q.2.1 q.2.2.toNat (b:Int)) 64) (fun y hy e he=>?_) (sub_iff.2 fun b hb=>?_) (i,(p,(d:Int))) (mem_places.2 hc)
 ·have:=((mask_bit _ _ _).1 (sub_iff.1 hm t h)).2
  simpa using this
 ·obtain ⟨j,yp,yd⟩:=y
  obtain ⟨p1,p2⟩:=mem_places.1 hy
  obtain ⟨e',hd⟩:=it_nat p2
  obtain rfl:yd=(e':Int):=by injection hd
  have hcj:(mG G n D).C j yp e':=⟨p1,p2⟩
  have ht:=c_there hcj
  cases hb:behX G (yp,(e':Int)) with
  | none=>rw [askX_none (show behX (cxB G n (E0 G) (F0 G)).G (j,(yp,(e':Int))).2=none from hb)] at he; cases he
  | some s =>
   rw [askX_some (show behX (cxB G n (E0 G) (F0 G)).G (j,(yp,(e':Int))).2=some s from hb)] at he
   have hs:=(beh_get.1 hb).2
   rcases List.mem_cons.1 he with e1 | e1
   ·subst e1
    refine sub_iff.2 fun b hbit=>(mask_bit _ _ _).2 ?_
    have h2:=(mask_bit _ _ _).1 hbit
    refine ⟨h2.1,?_⟩
    have h3:LR.Lk (mG G n D) j yp e' (b:Int):=by simpa using h2.2
    have h4:=LR.Lk.goto j yp e' s (b:Int) h3 hcj hs
    show LR.Lk (mG G n D) ((mG G n D).to j s) yp ((e':Int) + 1).toNat (b:Int)
    rw [show ((e':Int) + 1).toNat=e' + 1 by omega]
    exact h4
   ·by_cases hs0:s < 0
    ·rw [if_pos hs0] at e1
     obtain ⟨q,h3,h4,rfl⟩:=needX_mem.1 e1
     have hsq:s=(mG G n D).srt (q:Int):=by
      show s=-1 - sortX G ((q:Int)).toNat
      have h4:sortX G q=-1 - s:=h4
      rw [Int.toNat_natCast,h4]
      omega
     have hq:(mG G n D).isP (q:Int):=⟨by omega,by have h3:q < G.prods.length:=h3; omega⟩
     have hrest:restX G (yp,(e':Int))=((mG G n D).rt yp).drop (e' + 1):=by unfold S13.X15.restX; rfl
     have hro:RowOk G.terms.length G.sorts.length (((mG G n D).rt yp).drop (e' + 1)):=row_drop (rt_ok hV yp ht.1 ht.2.1) _
     refine sub_iff.2 fun b hbit=>(mask_bit _ _ _).2 ?_
     have hbit:(fstX (cxB G n (E0 G) (F0 G)) (yp,(e':Int)) ||| (if nulX (cxB G n (E0 G) (F0 G)) (yp,(e':Int))=true then maskN (fun b=>LR.Lk (mG G n D) j yp ((e':Int)).toNat (b:Int)) 64 else 0)).testBit b=true:=hbit
     rw [Nat.testBit_or,Bool.or_eq_true] at hbit
     rcases hbit with h5 | h5
     ·unfold S13.X15.fstX at h5
      have h5:(ofRow G.terms.length (E0 G) (F0 G) (restX G (yp,(e':Int))) 0).testBit b=true:=h5
      rw [hrest] at h5
      have h6:=fst_bits (n:=n) (D:=D) hV hro h5
      have h7:=(bits_fst hV h6 hro).2
      have h60:=(S13.valid_few hV).1
      exact ⟨by omega,.first j yp e' (q:Int) b hcj (by rw [<-hsq]; exact hs) hq h6⟩
     ·split at h5
      ·rename_i hn
       unfold S13.X15.nulX at hn
       have hn:nulB (E0 G) (F0 G).length (restX G (yp,(e':Int)))=true:=hn
       rw [hrest] at hn
       have h2:=(mask_bit _ _ _).1 h5
       exact ⟨h2.1,.nul j yp e' (q:Int) b (by simpa using h2.2) hcj (by rw [<-hsq]; exact hs) hq ((nulB_iff hV _ hro).1 hn)⟩
      ·simp at h5
    ·rw [if_neg hs0] at e1; cases e1
 ·rw [testBit_bitN] at hb
  have:=of_decide_eq_true hb
  obtain rfl:b=63:=by omega
  exact (mask_bit _ _ _).2 ⟨by omega,.start⟩
theorem of_lk (hV:validB G=true) (hO:BuiltOk G n) (hL:LA G n A) {i:Nat} {p:Int} {d:Nat} {t:Int} (h:LR.Lk (mG G n D) i p d t):(A (i,(p,(d:Int)))).testBit t.toNat=true/\(t=63\/0<=t/\t < (G.terms.length:Int)):=by
 induction h with
 | start =>
  refine ⟨sub_iff.1 hL.start 63 (by decide),.inl rfl⟩
 | goto i p d s t h hc hs ih =>
  have h1:=S13.X15.LeastA.goto_ hL (s:=s) hc.1 hc.2 (c_beh hc hs)
  refine ⟨?_,ih.2⟩
  have h2:=sub_iff.1 h1 _ ih.1
  exact h2
 | first i p d q t hc hs hq hf =>
  obtain ⟨r,hr,hq'⟩:=isp_prod hq
  have ht:=c_there hc
  have h0:=row_of hV hr
  have hro:RowOk G.terms.length G.sorts.length (((mG G n D).rt p).drop (d + 1)):=row_drop (rt_ok hV p ht.1 ht.2.1) _
  have hb:=bits_fst hV hf hro
  have hso:sortX G q.toNat=-1 - (mG G n D).srt q:=by show _=-1 - (-1 - sortX G q.toNat); omega
  have hneg:(mG G n D).srt q < 0:=by rw [<-hq',srt_at hr]; omega
  have h1:=S13.X15.LeastA.more hL hc.1 hc.2 (c_beh hc hs) hneg (show q.toNat < G.prods.length from (List.getElem?_eq_some_iff.1 hr).1) hso
  rw [hq',S13.X15.ofRow_split] at h1
  refine ⟨sub_iff.1 h1 _ ?_,.inr hb.2⟩
  rw [Nat.testBit_or,Bool.or_eq_true]
  exact .inl hb.1
 | nul i p d q t h hc hs hq hn ih =>
  obtain ⟨r,hr,hq'⟩:=isp_prod hq
  have ht:=c_there hc
  have h0:=row_of hV hr
  have hro:RowOk G.terms.length G.sorts.length (((mG G n D).rt p).drop (d + 1)):=row_drop (rt_ok hV p ht.1 ht.2.1) _
  have hso:sortX G q.toNat=-1 - (mG G n D).srt q:=by show _=-1 - (-1 - sortX G q.toNat); omega
  have hneg:(mG G n D).srt q < 0:=by rw [<-hq',srt_at hr]; omega
  have h1:=S13.X15.LeastA.more hL hc.1 hc.2 (c_beh hc hs) hneg (show q.toNat < G.prods.length from (List.getElem?_eq_some_iff.1 hr).1) hso
  rw [hq',S13.X15.ofRow_split] at h1
  refine ⟨sub_iff.1 h1 _ ?_,ih.2⟩
  rw [Nat.testBit_or,Bool.or_eq_true]
  right
  have hn2:nulB (E0 G) (F0 G).length (((mG G n D).rt p).drop (d + 1))=true:=(nulB_iff hV _ hro).2 hn
  have:nulB (cxB G n (E0 G) (F0 G)).E (cxB G n (E0 G) (F0 G)).F.length (restX (cxB G n (E0 G) (F0 G)).G (p,(d:Int)))=true:=hn2
  rw [if_pos this]
  exact ih.1
theorem has_bit (a:Nat) {z:Int} (h0:0<=z) (h1:z < 64):hasN a z=true ↔ a.testBit z.toNat=true:=by
 unfold S13.hasN
 rw [decide_eq_true_iff]
 constructor
 ·intro h
  refine Classical.byContradiction fun hn=>h ?_
  refine Nat.eq_of_testBit_eq fun i=>?_
  rw [Nat.testBit_and,testBit_bitN,Nat.zero_testBit]
  by_cases e:(i:Int)=z
  ·have:z.toNat=i:=by omega
   rw [this] at hn
   rw [Bool.eq_false_iff.2 hn]
   rfl
  ·have:¬ (0<=z/\z < 64/\(i:Int)=z):=fun h=>e h.2.2
   rw [decide_eq_false this,Bool.and_false]
 ·intro h hz
  have:=congrArg (fun m=>m.testBit z.toNat) hz
  rw [Nat.testBit_and,testBit_bitN,h,Nat.zero_testBit,Bool.true_and] at this
  have h2:0<=z/\z < 64/\((z.toNat:Nat):Int)=z:=⟨h0,h1,by omega⟩
  rw [decide_eq_true h2] at this
  cases this
theorem mem_passed (hO:BuiltOk G n) {i:Nat} (hi:i < n) {p:Int} {u:Nat} : (p,u) ∈ passedX G ((cxB G n (E0 G) (F0 G)).C i) (((cxB G n (E0 G) (F0 G)).C i).map fun x=>A (i,x)) ↔ ((mG G n D).C i p (rightX G p).length/\A (i,(p,((rightX G p).length:Int)))=u/\u ≠ 0):=by
 have hcl:closeX G ((cxB G n (E0 G) (F0 G)).C i)=(cxB G n (E0 G) (F0 G)).C i:=X14.closeX_again G _
 have hus:∀ (l:List It) (x:It) (j:Nat),l[j]?=some x->(l.map fun x=>A (i,x)).getD j 0=A (i,x):=fun l x j h=>by
  rw [gdQ,List.getElem?_map,h]
  rfl
 unfold passedX
 rw [List.mem_map]
 constructor
 ·rintro ⟨q,hq,e⟩
  have hm:=done_mem hq
  unfold pass1 at e
  injection e with e1 e2
  subst e1
  have hx:=ixN_get hm.1
  rw [hus _ _ _ hx] at e2
  refine ⟨⟨hi,hm.1⟩,e2,?_⟩
  unfold doneN at hq
  obtain ⟨j,hj,e3⟩:=List.mem_map.1 hq
  have hd:=of_decide_eq_true (List.mem_filter.1 hj).2
  have hjl:j < ((cxB G n (E0 G) (F0 G)).C i).length:=by simpa using (List.mem_filter.1 hj).1
  have hxj:((cxB G n (E0 G) (F0 G)).C i).getD j (0,0)=(q,((rightX G q).length:Int)):=Prod.ext e3 (by have:=hd.2.2.2; rw [e3] at this; exact this)
  have hgj:((cxB G n (E0 G) (F0 G)).C i)[j]?=some (q,((rightX G q).length:Int)):=by
   rw [geQ hjl,<-hxj,gdQ,geQ hjl]
   rfl
  have h5:=hd.2.1
  rw [hus _ _ _ hgj,e2] at h5
  exact h5
 ·rintro ⟨⟨_,hm⟩,hA,hu⟩
  have hx:=ixN_get hm
  have hlt:=(List.getElem?_eq_some_iff.1 hx).1
  refine ⟨p,?_,by unfold pass1; rw [hus _ _ _ hx,hA]⟩
  unfold doneN
  refine List.mem_map.2 ⟨ixN (p,((rightX G p).length:Int)) ((cxB G n (E0 G) (F0 G)).C i),List.mem_filter.2 ⟨List.mem_range.2 hlt,?_⟩,by rw [X14.getD_get hx]⟩
  unfold doneB
  rw [X14.getD_get hx,hus _ _ _ hx,hcl,hA]
  exact decide_eq_true ⟨by rw [List.length_map]; exact hlt,hu,hm,rfl⟩
noncomputable abbrev dS (G:GD) (n:Nat) (A:Pl->Nat):Nat->Nat->List It:=deedsS G (iterB G n).nx (cxB G n (E0 G) (F0 G)).C A
theorem mem_deeds (hV:validB G=true) (hO:BuiltOk G n) {i k:Nat} (hi:i < n) (hk:k<=G.terms.length) {x:It} : x ∈ dS G n A i k ↔
  ((k < G.terms.length/\0<=goX G (iterB G n).nx (i:Int) (k:Int)/\x=(1,goX G (iterB G n).nx (i:Int) (k:Int))) \/
   ∃ p,(mG G n D).C i p (rightX G p).length/\(A (i,(p,((rightX G p).length:Int)))).testBit (if k=G.terms.length then 63 else k)=true/\x=(if p < 0 then (3,0) else (2,p))):=by
 have h60:=(S13.valid_few hV).1
 unfold dS deedsS deedsX
 rw [List.mem_append]
 refine or_congr ?_ ?_
 ·unfold goOf
  by_cases hkT:k=G.terms.length
  ·rw [if_pos hkT]
   constructor
   ·intro h; cases h
   ·rintro ⟨h,_⟩; omega
  ·rw [if_neg hkT]
   by_cases hg:0<=goX G (iterB G n).nx (i:Int) (k:Int)
   ·rw [if_pos hg,List.mem_singleton]
    exact ⟨fun h=>⟨by omega,hg,h⟩,fun h=>h.2.2⟩
   ·rw [if_neg hg]
    constructor
    ·intro h; cases h
    ·rintro ⟨_,h,_⟩; exact absurd h hg
 ·rw [List.mem_flatMap]
  have hz:(if k=G.terms.length then (63:Int) else (k:Int)).toNat=(if k=G.terms.length then 63 else k):=by
   split
   ·rfl
   ·omega
  have hz0:0<=(if k=G.terms.length then (63:Int) else (k:Int))/\(if k=G.terms.length then (63:Int) else (k:Int)) < 64:=by
   split <;> omega
  constructor
  ·rintro ⟨⟨p,u⟩,hp,hx⟩
   obtain ⟨h1,h2,h3⟩:=(mem_passed (D:=D) hO hi).1 hp
   unfold one1 at hx
   by_cases hh:hasN u (if k=G.terms.length then (63:Int) else (k:Int))=true
   ·have hx:x ∈ (if hasN u (if k=G.terms.length then (63:Int) else (k:Int))=true then (if p < 0 then [((3:Int),(0:Int))] else [(2,p)]) else []):=hx
    rw [if_pos hh] at hx
    have hb:=(has_bit u hz0.1 hz0.2).1 hh
    rw [hz] at hb
    refine ⟨p,h1,by rw [h2]; exact hb,?_⟩
    by_cases hp0:p < 0
    ·rw [if_pos hp0] at hx ⊢; exact List.mem_singleton.1 hx
    ·rw [if_neg hp0] at hx ⊢; exact List.mem_singleton.1 hx
   ·have hx:x ∈ (if hasN u (if k=G.terms.length then (63:Int) else (k:Int))=true then (if p < 0 then [((3:Int),(0:Int))] else [(2,p)]) else []):=hx
    rw [if_neg hh] at hx
    cases hx
  ·rintro ⟨p,h1,h2,rfl⟩
   refine ⟨(p,A (i,(p,((rightX G p).length:Int)))),(mem_passed (D:=D) hO hi).2 ⟨h1,rfl,fun h0=>?_⟩,?_⟩
   ·rw [h0] at h2; simp at h2
   ·unfold one1
    have hh:hasN (A (i,(p,((rightX G p).length:Int)))) (if k=G.terms.length then (63:Int) else (k:Int))=true:=(has_bit _ hz0.1 hz0.2).2 (by rw [hz]; exact h2)
    rw [if_pos hh]
    by_cases hp0:p < 0
    ·rw [if_pos hp0,if_pos hp0]; exact List.mem_singleton.2 rfl
    ·rw [if_neg hp0,if_neg hp0]; exact List.mem_singleton.2 rfl
def colX (T:Nat) (t:Int):Nat:=if t=63 then T else t.toNat
theorem act_one {T i:Nat} {t:Int} (ht:t=63\/0<=t/\t < (T:Int)) (hl:(D i (colX T t)).length<=1) {x:It} (hx:x ∈ D i (colX T t)):actX D T i t=(if x.1=1 then .shift x.2.toNat else if x.1=2 then .red x.2 else .acc):=by
 unfold actX
 rw [if_pos ht]
 have:D i (if t=63 then T else t.toNat)=D i (colX T t):=rfl
 rw [this]
 cases hd:D i (colX T t) with
 | nil=>rw [hd] at hx; cases hx
 | cons y l =>
  rw [hd] at hx hl
  have:l=[]:=List.eq_nil_of_length_eq_zero (by rw [List.length_cons] at hl; omega)
  subst this
  obtain rfl:=List.mem_singleton.1 hx
  rfl
theorem act_some {T i:Nat} {t:Int} {a:LR.Do} (h:actX D T i t=a) (ha:a ≠ .wrong):(t=63\/0<=t/\t < (T:Int))/\∃ x ∈ D i (colX T t),a=(if x.1=1 then .shift x.2.toNat else if x.1=2 then .red x.2 else .acc):=by
 unfold actX at h
 split at h
 ·rename_i ht
  refine ⟨ht,?_⟩
  have:D i (if t=63 then T else t.toNat)=D i (colX T t):=rfl
  rw [this] at h
  cases hd:D i (colX T t) with
  | nil=>rw [hd] at h; exact absurd h.symm ha
  | cons y l=>rw [hd] at h; exact ⟨y,List.mem_cons_self,h.symm⟩
 ·exact absurd h.symm ha
end
end S16
end Go.Proofs.YticmnfmijdgmbaaGreatDoor

namespace Go.Proofs.YticmnfmijdgmbaaGreatDoor
open Go Go.RowKit Go.Lib Go.WideShapes Go.ChangeShapes Go.Deep
section
variable {H:Type} {enc:TypeId × Value->H} {P:Program} {w:World} {base:Nat} {spare:Nat->Bool} {held:Bool}
theorem cell_plain {a:Addr} {v:Value} (h:w.cell? (a.add 0)=some v):∃ b off,a=⟨b,off,none⟩:=by
 obtain ⟨b,off,spot⟩:=a
 have hspot:spot=none:=by simpa [Addr.add] using World.cell?_spot h
 subst hspot
 exact ⟨b,off,rfl⟩
theorem open_block {t e:TypeId} {c fuel:Nat} {v:Value} {x:DataW H × List MemPlace} (ht:P.underlying t=some (.slice e)) (hc:P.cellsOf e=c) (h0:0 < c) (h:DataW.trod enc P w base spare held fuel t [v]=some x) :
  ∃ (a:Option Addr) (len cap:Nat) (V:Nat->Nat->Value),v=.slice a len cap/\len<=cap/\cap<=maxLen/\(0 < len->∃ b off,a=some ⟨b,off,none⟩/\∀ i,i < len->∀ j,j < c->w.cell? ⟨b,off + i * c + j,none⟩=some (V i j)) /\
   (∀ i,i < len->∃ n y,DataW.trod enc P w base spare held n e ((List.range c).map (V i))=some y)/\(a=none->cap=0):=by
 rcases open_slice ht h with ⟨hcs,_⟩ | ⟨a,len,cap,m,n,D,Pl,hcs,hb,hl,hm,hmm,_,hx⟩
 ·simp only [List.cons.injEq,and_true] at hcs
  exact ⟨none,0,0,fun _ _=>undef,hcs,Nat.le_refl _,Nat.zero_le _,fun h=>absurd h (Nat.lt_irrefl 0),fun i hi=>absurd hi (Nat.not_lt_zero i),fun _=>rfl⟩
 ·simp only [List.cons.injEq,and_true] at hcs
  have hlm:len<=m:=by rw [hmm]; split <;> omega
  obtain ⟨V,hV⟩:=choose_lt (α:=Nat->Value) (n:=len) (p:=fun i f=>(∀ j,j < c->w.cell? ((a.add (i * c)).add j)=some (f j))/\DataW.trod enc P w base spare held n e ((List.range c).map f)=some (D i,Pl i)) (fun i hi=>by
   obtain ⟨cs',h1,h2⟩:=hx i (by omega)
   rw [hc] at h1
   obtain ⟨_,hlen,hcell⟩:=World.cells?_some h1
   refine ⟨fun j=>cs'.getD j undef,fun j hj=>?_,?_⟩
   ·show _=some (cs'.getD j undef)
    rw [hcell j hj,gdQ,geQ (by omega)]; rfl
   ·have:(List.range c).map (fun j=>cs'.getD j undef)=cs':=by
     refine List.ext_getElem (by simp [hlen]) fun j h3 h4=>?_
     simp [gdQ,geQ h4]
    rw [this]; exact h2)
  refine ⟨some a,len,cap,V,hcs,hl,hm,fun hlt=>?_,fun i hi=>⟨n,_,(hV i hi).2⟩,fun h=>(by cases h)⟩
  have:=(hV 0 hlt).1 0 h0
  rw [add_add,Nat.zero_mul,Nat.add_zero] at this
  obtain ⟨b,off,rfl⟩:=cell_plain this
  refine ⟨b,off,rfl,fun i hi j hj=>?_⟩
  have:=(hV i hi).1 j hj
  rw [add_add,Lib.add_plain,<-Nat.add_assoc] at this
  exact this
end
theorem getD_map {α:Type} (f:Nat->α) (n:Nat) (d:α) {i:Nat} (h:i < n):((List.range n).map f).getD i d=f i:=by
 simp [gdQ,h]
section
variable {H:Type} {enc:TypeId × Value->H} {w:World} {base:Nat} {spare:Nat->Bool} {held:Bool}
theorem i64_range {n:Int} (h:(Lit.int .i64 n).wf=true):-9223372036854775808<=n/\n<=9223372036854775807:=by
 simpa [Lit.wf,IntKind.min,IntKind.max,IntKind.signed,IntKind.bits] using h
theorem open_syms {t e:TypeId} {fuel:Nat} {v:Value} {x:DataW H × List MemPlace} (ht:Tryz.prog.underlying t=some (.slice e)) (he:Tryz.prog.underlying e=some (.int .i64)) (hc:Tryz.prog.cellsOf e=1) (h:DataW.trod enc Tryz.prog w base spare held fuel t [v]=some x) :
  ∃ l a c,v=.slice a l.length c/\l.length<=c/\IntsAt w v l/\(a=none->c=0):=by
 obtain ⟨a,len,cap,V,rfl,hl,hm,hat,hel,hnc⟩:=open_block ht hc (by omega) h
 obtain ⟨f,hf⟩:=choose_lt (α:=Int) (n:=len) (p:=fun i z=>V i 0=.int .i64 z/\(Lit.int .i64 z).wf=true) (fun i hi=>by
  obtain ⟨n,y,hy⟩:=hel i hi
  obtain ⟨z,hz,_,hw⟩:=DataW.trod_int he hy
  simp only [show (List.range 1).map (V i)=[V i 0] from rfl,List.cons.injEq,and_true] at hz
  exact ⟨z,hz,hw⟩)
 have hlen:((List.range len).map f).length=len:=by simp
 have hm':cap<=9223372036854775807:=hm
 refine ⟨(List.range len).map f,a,cap,by rw [hlen],by omega,⟨⟨a,cap,by rw [hlen],by omega,fun h0=>?_⟩,fun x hx=>?_⟩,hnc⟩
 ·rw [hlen] at h0
  obtain ⟨b,off,rfl,hcell⟩:=hat h0
  refine ⟨b,off,rfl,fun i hi=>?_⟩
  rw [hlen] at hi
  have:=hcell i hi 0 (by omega)
  rw [Nat.mul_one,Nat.add_zero,(hf i hi).1] at this
  rw [getD_map f len 0 hi]
  exact this
 ·obtain ⟨i,hi,rfl⟩:=List.mem_map.1 hx
  exact i64_range (hf i (by simpa using hi)).2
set_option maxRecDepth 100000 in
set_option maxHeartbeats 1000000 in
theorem open_grammar {r:Reach} {b0:Nat} {v:Value} {d:DataW H} {ps:List MemPlace} (hval:Value.okWide Tryz.prog w r b0 27 v) (h:DataW.Trod enc Tryz.prog w base spare held 27 v d ps) :
  ∃ G tv ov sv pv tf rv,GrAt w v G tv ov sv pv tf rv/\-9223372036854775808<=G.start/\G.start<=9223372036854775807 /\
   (∀ p ∈ G.prods,(-9223372036854775808<=p.sort/\p.sort<=9223372036854775807))/\∀ n c,pv=.slice none n c->c=0:=by
 obtain ⟨cs,rfl,hsz⟩:=okWide_struct Tryz.underlying27 hval
 obtain ⟨l⟩:=cs
 have hC:Tryz.prog.cellsOf 27=5:=by kernel_rfl
 match l,hsz.trans hC with
 | [tv,ov,sv,pv,st],_ =>
  obtain ⟨fuel,hf⟩:=h
  obtain ⟨xs,n,_,hx,_,hlen,hg⟩:=DataW.trod_struct Tryz.underlying27 hf
  match xs,hlen with
  | [y0,y1,y2,y3,y4],_ =>
   have k0:DataW.trod enc Tryz.prog w base spare held n 22 [tv]=some y0:=hg 0 _ rfl
   have k1:DataW.trod enc Tryz.prog w base spare held n 23 [ov]=some y1:=hg 1 _ rfl
   have k2:DataW.trod enc Tryz.prog w base spare held n 24 [sv]=some y2:=hg 2 _ rfl
   have k3:DataW.trod enc Tryz.prog w base spare held n 25 [pv]=some y3:=hg 3 _ rfl
   have k4:DataW.trod enc Tryz.prog w base spare held n 3 [st]=some y4:=hg 4 _ rfl
   obtain ⟨start,hst,_,hsw⟩:=DataW.trod_int Tryz.underlying3 k4
   simp only [List.cons.injEq,and_true] at hst
   subst hst
   obtain ⟨ta,tl,tc,TV,rfl,htl,htm,hta,hte,_⟩:=open_block Tryz.underlying22 (by kernel_rfl:Tryz.prog.cellsOf 105=4) (by omega) k0
   obtain ⟨oa,ol,oc,OV,rfl,hol,hom,hoa,hoe,_⟩:=open_block Tryz.underlying23 (by kernel_rfl:Tryz.prog.cellsOf 94=2) (by omega) k1
   obtain ⟨sa,sl,sc,SV,rfl,hsl,hsm,hsa,hse,_⟩:=open_block Tryz.underlying24 (by kernel_rfl:Tryz.prog.cellsOf 9=1) (by omega) k2
   obtain ⟨pa,pl,pc,PV,rfl,hpl,hpm,hpa,hpe,hpz⟩:=open_block Tryz.underlying25 (by kernel_rfl:Tryz.prog.cellsOf 71=4) (by omega) k3
   have htm':tc<=9223372036854775807:=htm
   have hom':oc<=9223372036854775807:=hom
   have hsm':sc<=9223372036854775807:=hsm
   have hpm':pc<=9223372036854775807:=hpm
   obtain ⟨tn,htn⟩:=choose_lt (α:=ByteArray) (n:=tl) (p:=fun i s=>TV i 0=.string s) (fun i hi=>by
    obtain ⟨n,y,hy⟩:=hte i hi
    obtain ⟨xs,n',_,_,_,hl,hg⟩:=DataW.trod_struct Tryz.underlying105 hy
    have hl':xs.length=4:=hl
    have k:DataW.trod enc Tryz.prog w base spare held n' 9 [TV i 0]=xs[0]?:=hg 0 _ rfl
    rw [geQ (by omega)] at k
    obtain ⟨s,hs,_⟩:=DataW.trod_string Tryz.underlying9 k
    simp only [List.cons.injEq,and_true] at hs
    exact ⟨s,hs⟩)
   obtain ⟨sn,hsn⟩:=choose_lt (α:=ByteArray) (n:=sl) (p:=fun i s=>SV i 0=.string s) (fun i hi=>by
    obtain ⟨n,y,hy⟩:=hse i hi
    obtain ⟨s,hs,_⟩:=DataW.trod_string Tryz.underlying9 hy
    simp only [show (List.range 1).map (SV i)=[SV i 0] from rfl,List.cons.injEq,and_true] at hs
    exact ⟨s,hs⟩)
   obtain ⟨on,hon⟩:=choose_lt (α:=Int × Int) (n:=ol) (p:=fun i q=>OV i 0=.int .i64 q.1/\OV i 1=.int .i64 q.2) (fun i hi=>by
    obtain ⟨n,y,hy⟩:=hoe i hi
    obtain ⟨xs,n',_,_,_,hl,hg⟩:=DataW.trod_array Tryz.underlying94 hy
    have g0:DataW.trod enc Tryz.prog w base spare held n' 3 [OV i 0]=xs[0]?:=hg 0 (by omega)
    have g1:DataW.trod enc Tryz.prog w base spare held n' 3 [OV i 1]=xs[1]?:=hg 1 (by omega)
    rw [geQ (by omega)] at g0 g1
    obtain ⟨z0,hz0,_⟩:=DataW.trod_int Tryz.underlying3 g0
    obtain ⟨z1,hz1,_⟩:=DataW.trod_int Tryz.underlying3 g1
    simp only [List.cons.injEq,and_true] at hz0 hz1
    exact ⟨(z0,z1),hz0,hz1⟩)
   obtain ⟨pn,hpn⟩:=choose_lt (α:=PD) (n:=pl) (p:=fun i q=>PV i 0=.string q.lab/\PV i 1=.int .i64 q.sort/\(Lit.int .i64 q.sort).wf=true/\PV i 3=.int .i64 q.cls/\IntsAt w (PV i 2) q.rs/\∃ a c,PV i 2=.slice a q.rs.length c/\q.rs.length<=c) (fun i hi=>by
    obtain ⟨n,y,hy⟩:=hpe i hi
    obtain ⟨xs,n',_,_,_,hl,hg⟩:=DataW.trod_struct Tryz.underlying71 hy
    have hl':xs.length=4:=hl
    have g0:DataW.trod enc Tryz.prog w base spare held n' 9 [PV i 0]=xs[0]?:=hg 0 _ rfl
    have g1:DataW.trod enc Tryz.prog w base spare held n' 3 [PV i 1]=xs[1]?:=hg 1 _ rfl
    have g2:DataW.trod enc Tryz.prog w base spare held n' 64 [PV i 2]=xs[2]?:=hg 2 _ rfl
    have g3:DataW.trod enc Tryz.prog w base spare held n' 3 [PV i 3]=xs[3]?:=hg 3 _ rfl
    rw [geQ (by omega)] at g0 g1 g2 g3
    obtain ⟨s,hs,_⟩:=DataW.trod_string Tryz.underlying9 g0
    obtain ⟨z1,hz1,_,hw1⟩:=DataW.trod_int Tryz.underlying3 g1
    obtain ⟨rs,a,c,hr1,hr2,hr3,_⟩:=open_syms Tryz.underlying64 Tryz.underlying61 (by kernel_rfl) g2
    obtain ⟨z3,hz3,_⟩:=DataW.trod_int Tryz.underlying3 g3
    simp only [List.cons.injEq,and_true] at hs hz1 hz3
    exact ⟨⟨s,z1,rs,z3⟩,hs,hz1,hw1,hz3,hr3,a,c,hr1,hr2⟩)
   refine ⟨⟨(List.range tl).map tn,(List.range ol).map on,(List.range sl).map sn,(List.range pl).map pn,start⟩,_,_,_,_,TV,fun i=>PV i 2,⟨rfl,?_,?_,?_,?_,?_,?_⟩,(i64_range hsw).1,(i64_range hsw).2,?_,?_⟩
   ·refine ⟨ta,tc,by simp,by simp; omega,fun h0=>?_⟩
    simp only [List.length_map,List.length_range] at h0
    obtain ⟨b,off,rfl,hcell⟩:=hta h0
    refine ⟨b,off,rfl,fun i hi=>?_⟩
    simp only [List.length_map,List.length_range] at hi
    rw [getD_map tn tl _ hi,<-htn i hi]
    exact ⟨hcell i hi 0 (by omega),hcell i hi 1 (by omega),hcell i hi 2 (by omega),hcell i hi 3 (by omega)⟩
   ·refine ⟨oa,oc,by simp,by simp; omega,fun h0=>?_⟩
    simp only [List.length_map,List.length_range] at h0
    obtain ⟨b,off,rfl,hcell⟩:=hoa h0
    refine ⟨b,off,rfl,fun i hi=>?_⟩
    simp only [List.length_map,List.length_range] at hi
    rw [getD_map on ol _ hi,<-(hon i hi).1,<-(hon i hi).2]
    exact ⟨hcell i hi 0 (by omega),hcell i hi 1 (by omega)⟩
   ·refine ⟨sa,sc,by simp,by simp; omega,fun h0=>?_⟩
    simp only [List.length_map,List.length_range] at h0
    obtain ⟨b,off,rfl,hcell⟩:=hsa h0
    refine ⟨b,off,rfl,fun i hi=>?_⟩
    simp only [List.length_map,List.length_range] at hi
    rw [getD_map sn sl _ hi,<-hsn i hi]
    have:=hcell i hi 0 (by omega)
    rwa [Nat.mul_one] at this
   ·refine ⟨pa,pc,by simp,by simp; omega,fun h0=>?_⟩
    simp only [List.length_map,List.length_range] at h0
    obtain ⟨b,off,rfl,hcell⟩:=hpa h0
    refine ⟨b,off,rfl,fun i hi=>?_⟩
    simp only [List.length_map,List.length_range] at hi
    rw [getD_map pn pl _ hi]
    obtain ⟨h1,h2,_,h3,_⟩:=hpn i hi
    rw [<-h1,<-h2,<-h3]
    exact ⟨hcell i hi 0 (by omega),hcell i hi 1 (by omega),hcell i hi 2 (by omega),hcell i hi 3 (by omega)⟩
   ·intro i hi
    simp only [List.length_map,List.length_range] at hi
    show IntsAt w _ (((List.range pl).map pn).getD i default).rs
    rw [getD_map pn pl _ hi]
    exact (hpn i hi).2.2.2.2.1
   ·intro i hi a n c e
    simp only [List.length_map,List.length_range] at hi
    obtain ⟨a',c',h1,h2⟩:=(hpn i hi).2.2.2.2.2
    rw [h1] at e
    cases e
    exact h2
   ·intro p hp
    obtain ⟨i,hi,rfl⟩:=List.mem_map.1 hp
    exact i64_range (hpn i (by simpa using hi)).2.2.1
   ·intro n c e
    cases e
    exact hpz rfl
end
open X14 (It)
set_option maxRecDepth 100000 in
theorem tab_of_laid {W:World} {L:List (String × DataW Unit)} (hL:laidMetH Tryz.prog L W) (hf:(L.filter fun x=>x.1 == "internal/strconv.uint64pow10")=[("internal/strconv.uint64pow10",Lib.tabData .u64 Lib.pow10Tab)]):Tab W.heap.size W:=by
 have h:=hL.filter fun x=>x.1 == "internal/strconv.uint64pow10"
 rw [hf,MakeChecks.laidMetH_plain _ _ _ (by kernel_rfl)] at h
 exact Lib.tabBelow_of_tabIs (Lib.tabIs_of_head (g:=0) (t:=226) (e:=68) (n:=20) (by kernel_rfl) (by kernel_rfl) Tryz.underlying226 Tryz.underlying68 (by kernel_rfl) (by kernel_rfl) h)
section
variable {H:Type} {enc:TypeId × Value->H} {w:World} {base:Nat} {spare:Nat->Bool} {held:Bool}
end
end Go.Proofs.YticmnfmijdgmbaaGreatDoor

namespace Go.Proofs.YticmnfmijdgmbaaGreatDoor
open Go Go.RowKit Go.Lib
open X14 (It closeV closeX stepV stepX behX symsX iterB BuiltOk)
theorem place_sym {G:GD} {s:Int} {p:Nat} (h:placeX G s=some p):(symsX G)[p]?=some s:=by
 unfold placeX at h
 split at h
 ·split at h
  ·obtain rfl:s.toNat=p:=Option.some.inj h
   rw [X14.syms_term (by omega)]
   congr 1
   omega
  ·cases h
 ·split at h
  ·obtain rfl:G.terms.length + (-1 - s).toNat=p:=Option.some.inj h
   rw [X14.syms_sort (by omega)]
   congr 1
   omega
  ·cases h
def LittleP (w:World) (e:Ending) (w':World):Prop:=∃ b,e=.returned (.bool b)/\Below w.heap.size w w'
set_option maxRecDepth 100000 in
set_option maxHeartbeats 4000000 in
theorem Little_any {G:GD} {gv:Value} {w:World} (h:Gram w gv G):Calls Tryz.prog 16 #[gv] w (LittleP w):=by
 have HGr:=hid h
 obtain ⟨tv,ov,sv,pv,tf,rv,h⟩:=h
 have hgv:=h.eq
 subst hgv
 have HRI:=hid h.rights
 obtain ⟨pa,pc,rfl,hpn,hpc⟩:=h.prods
 obtain ⟨np,hnp⟩:=nmQ (G.prods.length)
 have HNP:=hid hnp
 have HPC:=hid hpc
 rw [hnp] at HGr hpn ⊢
 obtain ⟨W1,e1⟩:=nmQ (w.alloc (.cells #[tv,ov,sv,.slice pa np pc,.int .i64 G.start] 27))
 have hb1:Below w.heap.size w W1:=baQ e1
 have n1:W1.heap[w.heap.size]?=some (.cells #[tv,ov,sv,.slice pa np pc,.int .i64 G.start] 27 (0,0)):=nbQ e1
 have HB1:=hid hb1
 have HN1:=hid n1
 obtain ⟨tv',ov',sv',pv',tf',rv',hg1⟩:=HGr.out.below hb1
 obtain ⟨fw,hfw⟩:=nmQ (decide (fewG G))
 have KF:=few_any hg1
 rw [hfw] at KF
 have KF:=hid KF
 obtain ⟨c0,c1,c2,c3,c4⟩:=cells5 n1
 clear h hb1 n1 hg1 hnp hpc hfw
 go_enter Tryz.func16,Tryz.ntmps16
 go_wp2_with fail
 refine KF.out.mono ?_
 rintro e w2 ⟨rfl,hb2⟩
 have HB2:=hid (HB1.out.trans (hb2.mono HB1.out.size))
 have HN2:=hid ((hb2.block _ (ltQ HN1.out)).trans HN1.out)
 have c3:w2.cell? ⟨w.heap.size,3,none⟩=some (.slice pa np pc):=coQ HN2.out 3
 clear hb2 KF e1 c0 c1 c2 c4
 go_wp2_with fail
 go_loopw [4] (fun t4 wr=>∃ k:Nat,k<=np/\t4=.int .i64 (k:Int)/\wr=w2) (fun t4 _=>np - (RowKit.intOf t4).toNat)
 case atStart=>exact ⟨0,Nat.zero_le _,rfl,by first | trivial | rfl⟩
 case round =>
  obtain ⟨k,hk,rfl,hww⟩:=hrel
  subst hww
  by_cases hlt:k < np
  ·have t1:(k:Int) < (np:Int):=by omega
   have t2:(0:Int)<=(k:Int):=by omega
   by_cases h15:k < 15
   ·have t3:(k:Int) < 15:=by omega
    obtain ⟨pb,po,rfl,hpq⟩:=HPC.out (by rw [HNP.out]; omega)
    have q2:=cell_below HB2.out (hpq k (by rw [HNP.out]; exact hlt)).2.2.1
    obtain ⟨⟨ra,rc,hrv,_⟩,_⟩:=HRI.out k (by rw [HNP.out]; exact hlt)
    rw [hrv] at q2
    generalize (G.prods.getD k default).rs.length=rl at *
    clear hpq hrv
    by_cases h5:5 < rl
    ·have t4:(5:Int) < (rl:Int):=by omega
     go_wp2_with fail
     go_ret
     exact ⟨_,rfl,HB2.out⟩
    ·have t4:¬ (5:Int) < (rl:Int):=by omega
     go_wp2_with fail
     refine ⟨⟨k + 1,by omega,rfl,by first | trivial | rfl⟩,?_⟩
     show np - ((k:Int) + 1).toNat < np - ((k:Int)).toNat
     omega
   ·have t3:¬ (k:Int) < 15:=by omega
    have t5:¬ (np:Int)<=10:=by omega
    cases fw
    ·go_wp2_with fail
     go_ret
     exact ⟨_,rfl,HB2.out⟩
    ·go_wp2_with fail
     go_ret
     exact ⟨_,rfl,HB2.out⟩
  ·have t1:¬ (k:Int) < (np:Int):=by omega
   cases fw
   ·go_wp2_with fail
    go_ret
    exact ⟨_,rfl,HB2.out⟩
   ·by_cases h10:np<=10
    ·have t5:(np:Int)<=10:=by omega
     go_wp2_with fail
     go_ret
     exact ⟨_,rfl,HB2.out⟩
    ·have t5:¬ (np:Int)<=10:=by omega
     go_wp2_with fail
     go_ret
     exact ⟨_,rfl,HB2.out⟩
end Go.Proofs.YticmnfmijdgmbaaGreatDoor
