/- keyOf: items as a text. -/
import Derived.Shelf.Lay
import Derived.Shelf.LaysM
import Derived.Shelf.Strconv.AppendIntPublic10
import Derived.Laws.Tables
import Derived.Laws.IdiomStrings
import Derived.Lib.BufferRead
import Derived.Lib.ItoaLen
import Derived.Test.YticmnfmijdgmbaaGreatDoorFo
import Derived.Test.YticmnfmijdgmbaaGreatDoorSn
import Derived.Test.YticmnfmijdgmbaaGreatDoorSj
import Derived.Test.YticmnfmijdgmbaaGreatDoorSl
set_option linter.unusedVariables false
set_option linter.unusedSimpArgs false
namespace Go.Proofs
open Go.Shelf
shelf_lay LaysM.n176 Nm 176 at Tryz as Tryz.laysM176
end Go.Proofs
namespace Go.Proofs.YticmnfmijdgmbaaGreatDoor
open Go Go.RowKit Go.Lib Go.Shelf
open X14 (It)
theorem info5:(Tryz.prog.info? 5).map (fun i=>(i.zero,i.size,i.bytes))=some (some (.int .u8 0),1,1):=by kernel_rfl
abbrev Tab (B:Nat) (w:World):Prop:=Lib.TabBelow Tryz.prog B w "internal/strconv.uint64pow10" .u64 Lib.pow10Tab
theorem Tab.up {B B':Nat} {w:World} (h:Tab B w) (hB:B<=B'):Tab B' w:=fun w' hb=>h w' (hb.mono hB)
theorem append_int (B n:Nat) (i:Int) (h0:-9223372036854775808<=i) (h1:i<=9223372036854775807) (sv:Value) (xs:List Value) (w:World) (hown:w.ownsRow B 5 1 sv n xs) (hBw:B<=w.heap.size) (hlim:n + 21<=140737488355328) (htab:Tab B w) :
  Calls Tryz.prog 104 #[sv,.int .i64 i,.int .i64 10] w fun e w'=>∃ v',e=.returned v'/\w'.ownsRow B 5 1 v' (n + (Lib.itoa i).length) (xs ++ Lib.byteCells (Lib.itoa i))/\Below B w w'/\Lib.OthersKept 5 none w w':=
 Any.strconv_AppendInt_10 Tryz.laysM176 B n i h0 h1 sv xs w hown hBw hlim htab
def valD (l:List UInt8):Nat:=l.foldl (fun a b=>10 * a + (b.toNat - 48)) 0
theorem dec_val:∀ u,valD (Lib.decDigits u)=u:=by
 intro u
 induction u using Nat.strongRecOn with
 | _ u ih =>
  by_cases h:u < 10
  ·rw [Lib.decDigits,dif_pos h]
   simp only [valD,List.foldl_cons,List.foldl_nil]
   have:(UInt8.ofNat (48 + u)).toNat=48 + u:=by rw [UInt8.toNat_ofNat']; omega
   rw [this]; omega
  ·rw [Lib.decDigits,dif_neg h]
   have e:=ih (u / 10) (by omega)
   unfold valD at e ⊢
   rw [List.foldl_append,e]
   simp only [List.foldl_cons,List.foldl_nil]
   have:(UInt8.ofNat (48 + u % 10)).toNat=48 + u % 10:=by rw [UInt8.toNat_ofNat']; omega
   rw [this]; omega
theorem dec_digit:∀ u,∀ b ∈ Lib.decDigits u,48<=b.toNat:=by
 intro u
 induction u using Nat.strongRecOn with
 | _ u ih =>
  intro b hb
  by_cases h:u < 10
  ·rw [Lib.decDigits,dif_pos h] at hb
   obtain rfl:=List.mem_singleton.1 hb
   have:(UInt8.ofNat (48 + u)).toNat=48 + u:=by rw [UInt8.toNat_ofNat']; omega
   omega
  ·rw [Lib.decDigits,dif_neg h] at hb
   rcases List.mem_append.1 hb with hb | hb
   ·exact ih (u / 10) (by omega) b hb
   ·obtain rfl:=List.mem_singleton.1 hb
    have:(UInt8.ofNat (48 + u % 10)).toNat=48 + u % 10:=by rw [UInt8.toNat_ofNat']; omega
    omega
theorem sep_inj {x:UInt8} : ∀ {l l' r r':List UInt8},x ∉ l->x ∉ l'->l ++ x :: r=l' ++ x :: r'->l=l'/\r=r'
 | [],[],r,r',_,_,h=>by simpa using h
 | [],b :: l',r,r',_,h2,h=>by
  simp only [List.nil_append,List.cons_append,List.cons.injEq] at h
  exact absurd (by rw [h.1]; simp) h2
 | b :: l,[],r,r',h1,_,h=>by
  simp only [List.nil_append,List.cons_append,List.cons.injEq] at h
  exact absurd (by rw [h.1]; simp) h1
 | b :: l,b' :: l',r,r',h1,h2,h=>by
  simp only [List.cons_append,List.cons.injEq] at h
  obtain ⟨e1,e2⟩:=sep_inj (fun hm=>h1 (by simp [hm])) (fun hm=>h2 (by simp [hm])) h.2
  exact ⟨by rw [h.1,e1],e2⟩
theorem itoa_inj {a b:Int} (h:Lib.itoa a=Lib.itoa b):a=b:=by
 have hd:∀ u r,Lib.decDigits u ≠ (45:UInt8) :: r:=fun u r e=>by
  have:=dec_digit u 45 (by rw [e]; simp)
  simp at this
 have hv:∀ u v,Lib.decDigits u=Lib.decDigits v->u=v:=fun u v e=>by rw [<-dec_val u,<-dec_val v,e]
 unfold Lib.itoa at h
 split at h <;> split at h
 ·injection h with _ h
  have:=hv _ _ h
  omega
 ·exact absurd h.symm (hd _ _)
 ·exact absurd h (hd _ _)
 ·have:=hv _ _ h
  omega
theorem itoa_no {c:UInt8} (h0:c.toNat < 48) (h1:c ≠ 45) (a:Int):c ∉ Lib.itoa a:=by
 intro hm
 have hd:∀ u,c ∉ Lib.decDigits u:=fun u hm=>by have:=dec_digit u _ hm; omega
 unfold Lib.itoa at hm
 split at hm
 ·rcases List.mem_cons.1 hm with e | e
  ·exact h1 e
  ·exact hd _ e
 ·exact hd _ hm
def itemK (x:It):List UInt8:=Lib.itoa x.1 ++ [46] ++ Lib.itoa x.2 ++ [32]
def keyI (l:List It):List UInt8:=l.flatMap itemK
theorem keyI_inj:∀ {A B:List It},keyI A=keyI B->A=B
 | [],[],_=>rfl
 | [],b :: B,h=>by simp [keyI,itemK] at h
 | a :: A,[],h=>by simp [keyI,itemK] at h
 | a :: A,b :: B,h=>by
  have e:∀ (x:It) (l:List It),keyI (x :: l)=Lib.itoa x.1 ++ 46 :: (Lib.itoa x.2 ++ 32 :: keyI l):=fun x l=>by
   unfold keyI
   rw [List.flatMap_cons,itemK]
   simp
  rw [e,e] at h
  obtain ⟨e1,e2⟩:=sep_inj (itoa_no (by decide) (by decide) _) (itoa_no (by decide) (by decide) _) h
  obtain ⟨e3,e4⟩:=sep_inj (itoa_no (by decide) (by decide) _) (itoa_no (by decide) (by decide) _) e2
  rw [keyI_inj e4,show a=b from Prod.ext (itoa_inj e1) (itoa_inj e3)]
theorem keyI_take {A:List It} {k:Nat} {x:It} (hx:A.getD k (0,0)=x) (hk:k < A.length):keyI (A.take (k + 1))=keyI (A.take k) ++ Lib.itoa x.1 ++ [46] ++ Lib.itoa x.2 ++ [32]:=by
 have e:A[k]?=some x:=by rw [geQ hk,<-hx,gdQ,geQ hk]; rfl
 unfold keyI
 rw [List.take_add_one,e,List.flatMap_append]
 simp [itemK]
def inR (x:It):Prop:=(-9223372036854775808<=x.1/\x.1<=9223372036854775807)/\-9223372036854775808<=x.2/\x.2<=9223372036854775807
theorem keyI_len (A:List It) (h:∀ q ∈ A,inR q):(keyI A).length<=A.length * 44:=by
 induction A with
 | nil=>simp [keyI]
 | cons a A ih =>
  have h0:=h a (by simp)
  have h1:=Lib.itoa_length_le a.1 h0.1.1 h0.1.2
  have h3:=Lib.itoa_length_le a.2 h0.2.1 h0.2.2
  have h2:=ih fun q hq=>h q (by simp [hq])
  unfold keyI at *
  rw [List.flatMap_cons,itemK]
  simp only [List.length_append,List.length_cons,List.length_nil]
  omega
theorem conv95 (w:World) (B:Nat) (v:Value) (l:List UInt8) (h:w.ownsRow B 5 1 v l.length (Lib.byteCells l)):(convert 173 9 v).run Tryz.prog w=.ok (.string ⟨l.toArray⟩) w:=by
 rcases h.2 with ⟨rfl,h0⟩ | ⟨g,cap,cur,rfl,_⟩
 ·obtain rfl:l=[]:=List.eq_nil_of_length_eq_zero h0
  exact run_convert_nil_bytes w 173 9 5 0 Tryz.underlying173 Tryz.underlying5 Tryz.underlying9
 ·refine Go.run_convert_bytes_back w 173 9 5 _ cap l Tryz.underlying173 Tryz.underlying5 Tryz.underlying9 fun j hj=>?_
  exact h.cells rfl j _ (by simp [Lib.byteCells,hj])
theorem oth_keep {w w':World} {b:Nat} {cs:Array Value} (h:Lib.OthersKept 5 none w w') (hb:w.heap[b]?=some (.cells cs 60 (0,0))):w'.heap[b]?=some (.cells cs 60 (0,0)):=h _ _ hb (by simp) (fun c fz e=>by cases e)
theorem grow_keep {w w':World} {B n b:Nat} {v:Value} {xs:List Value} {cs:Array Value} (hg:w.grownBy w' v.ownBlock) (ho:w.ownsRow B 5 1 v n xs) (hb:w.heap[b]?=some (.cells cs 60 (0,0))):w'.heap[b]?=some (.cells cs 60 (0,0)):=by
 refine (hg.block b (ltQ hb) fun e=>?_).trans hb
 rcases ho.2 with ⟨rfl,_⟩ | ⟨g,cap,cur,rfl,_,hh,_⟩
 ·cases e
 ·injection e with e
  have e':b=g:=e
  subst e'
  rw [hb] at hh
  injection hh with hh
  cases hh
theorem wpList_push5 {ops:Array Oper} {rest:List Oper} {o:Oper} {a:Act} {w:World} {Q:Exit->Act->World->Prop} (hgd:o.guard=none) (s x:Operand) (ho:o.op=.call {callee:=.builtin .append,args:=#[s,x],argTypes:=#[173,173]})
  (base:Nat) (v:Value) (n:Nat) (xs:List Value) (hs:a.eval s=v) (hown:w.ownsRow base 5 1 v n xs) (g:Nat) (hx:a.eval x=.slice (some ⟨g,0,none⟩) 1 1) (p:Int) (hb:w.heap[g]?=some (.cells #[.int .u8 p] 5 (0,0))) (hn:n<=1000000000) (hbase:base<=w.heap.size)
  (h:∀ v' w',w'.ownsRow base 5 1 v' (n + 1) (xs ++ [.int .u8 p])->w.grownBy w' v.ownBlock->(v'.ownBlock=v.ownBlock\/v'.ownBlock=some w.heap.size)->wpList Tryz.prog ops Q rest (a.put o.dst v') w'):wpList Tryz.prog ops Q (o :: rest) a w:=by
 obtain ⟨i,hi,h0,h1,h2⟩:=info_parts info5
 refine wpList_append_own_at w hgd s x 173 ho base 5 i _ 1 1 Tryz.underlying173 hi h0 h1 h2 rfl (by decide) v n xs hs hown ⟨g,0,none⟩ 1 1 [.int .u8 p] hx rfl (fun j u hj=>?_) (fun u hu=>?_) (by unfold maxLen; omega) ?_ hbase (fun v' w' a1 a2 _ a4=>h v' w' a1 a2 a4)
 ·rw [add_one_cell,Nat.zero_add,coQ hb,<-hj]
  simp
 ·simp at hu; rcases hu with rfl; rfl
 ·omega
theorem byteCells_46:Lib.byteCells [46]=[.int .u8 46]:=rfl
theorem byteCells_32:Lib.byteCells [32]=[.int .u8 32]:=rfl
set_option maxRecDepth 100000 in
set_option maxHeartbeats 4000000 in
theorem keyOf_any {w:World} {Bt:Nat} {v:Value} {l:List It} (h:ItemsAt w v l) (hr:∀ x ∈ l,inR x) (hl:l.length<=1000000) (ht:Tab Bt w) (hBt:Bt<=w.heap.size) :
  Calls Tryz.prog 59 #[v] w fun e w'=>e=.returned (.string ⟨(keyI l).toArray⟩)/\Below w.heap.size w w':=by
 have HL:=hid h
 have HR:=hid hr
 have HT:=hid ht
 obtain ⟨vo,vc,rfl,hvn,_⟩:=h
 obtain ⟨n,hln⟩:=nmQ (l.length)
 have HLN:=hid hln
 rw [hln] at HL hl hvn ⊢
 clear hr ht hln
 go_enter Tryz.func59,Tryz.ntmps59
 go_wp2_with fail
 go_loopw [3,5,8] (fun t3 t5 t8 wr=>∃ k:Nat,k<=n/\t8=.int .i64 (k:Int)/\Hid (wr.ownsRow w.heap.size 5 1 t3 (keyI (l.take k)).length (Lib.byteCells (keyI (l.take k))))/\Hid (Below w.heap.size w wr)) (fun _ _ t8 _=>n - (RowKit.intOf t8).toNat)
 case atStart=>exact ⟨0,Nat.zero_le _,rfl,hid (World.ownsRow_nil _ _ _ _),hid (Below.refl _ _)⟩
 case round =>
  obtain ⟨k,hk,rfl,HK,HB⟩:=hrel
  have hszr:=HB.out.size
  by_cases hlt:k < n
  ·have t1:(k:Int) < (n:Int):=by omega
   have t2:(0:Int)<=(k:Int):=by omega
   have hkl:k < l.length:=by rw [HLN.out]; exact hlt
   obtain ⟨ro',rc',hro,_,hcs⟩:=HL.out
   injection hro with hro1 hro2 hro3
   subst hro1
   obtain ⟨lb,lo,rfl,hcq⟩:=hcs (by omega)
   obtain ⟨q0,q1⟩:=hcq k hkl
   have q0:=cell_below HB.out q0
   have q1:=cell_below HB.out q1
   obtain ⟨x,hx⟩:=nmQ (l.getD k (0,0))
   have HX:=hid hx
   have HTk:=hid (keyI_take hx hkl)
   have hxr:=HR.out x (by
    have e:l[k]?=some x:=by rw [geQ hkl,<-hx,gdQ,geQ hkl]; rfl
    exact List.mem_of_getElem? e)
   rw [hx] at q0 q1
   have hkl2:=keyI_len (l.take k) fun q hq=>HR.out q (List.mem_of_mem_take hq)
   rw [List.length_take] at hkl2
   have hkn:(keyI (l.take k)).length<=44000000:=by omega
   have i1:=Lib.itoa_length_le x.1 hxr.1.1 hxr.1.2
   have i2:=Lib.itoa_length_le x.2 hxr.2.1 hxr.2.2
   obtain ⟨K,hK⟩:=nmQ (keyI (l.take k))
   rw [hK] at HK HTk hkn
   obtain ⟨wx,ex⟩:=nmQ (wr.alloc (.cells #[.int .i64 0,.int .i64 0] 60))
   have nx:wx.heap[wr.heap.size]?=some (.cells #[.int .i64 0,.int .i64 0] 60 (0,0)):=nbQ ex
   obtain ⟨wa,ea⟩:=nmQ (wx.setCell ⟨wr.heap.size,0,none⟩ (.int .i64 x.1))
   obtain ⟨wb,eb⟩:=nmQ (wa.setCell ⟨wr.heap.size,1,none⟩ (.int .i64 x.2))
   have na:wa.heap[wr.heap.size]?=some (.cells #[.int .i64 x.1,.int .i64 0] 60 (0,0)):=hsQ ea nx
   have nb:wb.heap[wr.heap.size]?=some (.cells #[.int .i64 x.1,.int .i64 x.2] 60 (0,0)):=hsQ eb na
   have hbb:Below wr.heap.size wr wb:=by
    rw [<-eb,<-ea,<-ex]
    exact ((((Below.refl _ _).alloc (Nat.le_refl _) _).setCell (Nat.le_refl _) _).setCell (Nat.le_refl _) _)
   have c0:wx.cell? ⟨wr.heap.size,0,none⟩=some (.int .i64 0):=coQ nx 0
   have f0:=foQ nx 0
   have c1:wa.cell? ⟨wr.heap.size,1,none⟩=some (.int .i64 0):=coQ na 1
   have f1:=foQ na 1
   have d0:wb.cell? ⟨wr.heap.size,0,none⟩=some (.int .i64 x.1):=coQ nb 0
   have hBb:=HB.out.trans (hbb.mono hszr)
   have hKb:=own_below HK.out hbb
   have hsb:=hbb.size
   have KA:=hid (append_int w.heap.size K.length x.1 hxr.1.1 hxr.1.2 _ _ wb hKb hBb.size (by omega) (Tab.up (HT.out.on (hBb.mono hBt)) hBt))
   have HXR:=hid hxr
   have HNB:=hid nb
   have HBB:=hid hBb
   have HDK:=hid hK
   clear hcs hcq hx nx na nb hbb hBb hKb HK hro2 hro3 hK hkl2
   go_wp2_with fail
   refine KA.out.mono ?_
   rintro e w2 ⟨v2,rfl,hown2,hb2,ho2⟩
   have HN2:=hid (oth_keep ho2 HNB.out)
   obtain ⟨I1,hI1⟩:=nmQ (Lib.itoa x.1)
   rw [hI1] at hown2 HTk i1
   have hs2:=hb2.size
   have hB2:=HBB.out.trans hb2
   clear ex ea eb c0 f0 c1 f1 d0 q0 q1 KA ho2 hI1 HNB HBB
   obtain ⟨wq,eq⟩:=nmQ (w2.alloc (.cells #[.int .u8 46] 5))
   have hbq:Below w2.heap.size w2 wq:=baQ eq
   have HNQ:=hid (show wq.heap[w2.heap.size]?=some (.cells #[.int .u8 46] 5 (0,0)) from by rw [<-eq]; exact new_block _ _)
   have HFq:=hid (own_below hown2 hbq)
   have HBq:=hid (hB2.trans (hbq.mono hB2.size))
   have HN3:=hid ((hbq.block _ (ltQ HN2.out)).trans HN2.out)
   have hdq:=HBq.out.size
   clear hbq hown2 hb2 hB2
   go_wp2_with (at_builtin; refine wpList_push5 rfl (.tmp 16) (.tmp 17) rfl w.heap.size v2 (K.length + I1.length) (Lib.byteCells K ++ Lib.byteCells I1) rfl HFq.out w2.heap.size rfl 46 HNQ.out (by omega) hdq ?_)
   intro v3 w3 hown3 hg3 hat3
   have HN4:=hid (grow_keep hg3 HFq.out HN3.out)
   have HB3:=hid (HBq.out.grown hg3 hdq (fun q hq=>(owns_lt HFq.out q hq).1))
   have d1:w3.cell? ⟨wr.heap.size,1,none⟩=some (.int .i64 x.2):=coQ HN4.out 1
   have KA:=hid (append_int w.heap.size (K.length + I1.length + 1) x.2 HXR.out.2.1 HXR.out.2.2 _ _ w3 hown3 HB3.out.size (by omega) (Tab.up (HT.out.on (HB3.out.mono hBt)) hBt))
   clear hown3 hg3 hat3 eq HFq HBq HN3 HN2 HNQ
   go_wp2_with fail
   refine KA.out.mono ?_
   rintro e w4 ⟨v4,rfl,hown4,hb4,ho4⟩
   obtain ⟨I2,hI2⟩:=nmQ (Lib.itoa x.2)
   rw [hI2] at hown4 HTk i2
   have hB4:=HB3.out.trans hb4
   clear d1 KA ho4 hI2 HN4 HB3 hb4
   obtain ⟨wq,eq⟩:=nmQ (w4.alloc (.cells #[.int .u8 32] 5))
   have hbq:Below w4.heap.size w4 wq:=baQ eq
   have HNQ:=hid (show wq.heap[w4.heap.size]?=some (.cells #[.int .u8 32] 5 (0,0)) from by rw [<-eq]; exact new_block _ _)
   have HFq:=hid (own_below hown4 hbq)
   have HBq:=hid (hB4.trans (hbq.mono hB4.size))
   have hdq:=HBq.out.size
   clear hbq hown4 hB4
   go_wp2_with (at_builtin; refine wpList_push5 rfl (.tmp 23) (.tmp 24) rfl w.heap.size v4 (K.length + I1.length + 1 + I2.length) (Lib.byteCells K ++ (Lib.byteCells I1 ++ [.int .u8 46]) ++ Lib.byteCells I2) rfl HFq.out w4.heap.size rfl 32 HNQ.out (by omega) hdq ?_)
   intro v7 w7 hown7 hg7 hat7
   have HF7:=hid (show w7.ownsRow w.heap.size 5 1 v7 (keyI (l.take (k + 1))).length (Lib.byteCells (keyI (l.take (k + 1)))) from by
    have e1:(K ++ I1 ++ [46] ++ I2 ++ [32]).length=K.length + I1.length + 1 + I2.length + 1:=by simp [Nat.add_assoc]; omega
    have e2:Lib.byteCells (K ++ I1 ++ [46] ++ I2 ++ [32])=Lib.byteCells K ++ (Lib.byteCells I1 ++ [.int .u8 46]) ++ Lib.byteCells I2 ++ [.int .u8 32]:=by
     rw [Lib.byteCells_append,Lib.byteCells_append,Lib.byteCells_append,Lib.byteCells_append,byteCells_46,byteCells_32,List.append_assoc (Lib.byteCells K) (Lib.byteCells I1)]
    rw [HTk.out,e1,e2]
    simpa only [List.append_assoc,List.cons_append,List.nil_append] using hown7)
   have HB7:=hid (HBq.out.grown hg7 hdq (fun q hq=>(owns_lt HFq.out q hq).1))
   clear hown7 hg7 hat7 eq HFq HBq HNQ
   go_wp2_with fail
   refine ⟨⟨k + 1,by omega,rfl,HF7,HB7⟩,?_⟩
   show n - ((k:Int) + 1).toNat < n - ((k:Int)).toNat
   omega
  ·have t1:¬ (k:Int) < (n:Int):=by omega
   have hkn:k=n:=by omega
   rw [hkn,<-HLN.out,List.take_length] at HK
   have hcv:=conv95 wr w.heap.size u3 (keyI l) HK.out
   go_wp2_with fail
   go_ret
   exact ⟨rfl,HB.out⟩
end Go.Proofs.YticmnfmijdgmbaaGreatDoor

namespace Go.Proofs.YticmnfmijdgmbaaGreatDoor
open Go Go.RowKit Go.Lib
open X14 (It Less)
theorem ItemsAt.at_ {w:World} {o:Option Addr} {n c:Nat} {l:List It} (h:ItemsAt w (.slice o n c) l) {k:Nat} {x:It} (hk:l[k]?=some x):∃ b off,o=some ⟨b,off,none⟩/\w.cell? ⟨b,off + k * 2,none⟩=some (.int .i64 x.1)/\w.cell? ⟨b,off + k * 2 + 1,none⟩=some (.int .i64 x.2):=by
 obtain ⟨o',c',e,_,hcs⟩:=h
 injection e with e1 e2 e3
 subst e1
 have hlt:=(List.getElem?_eq_some_iff.1 hk).1
 obtain ⟨b,off,rfl,hq⟩:=hcs (by omega)
 have hx:l.getD k (0,0)=x:=by rw [gdQ,hk]; rfl
 have:=hq k hlt
 dsimp only at this
 rw [hx] at this
 exact ⟨b,off,rfl,this⟩
theorem ItemsAt.len {w:World} {v:Value} {l:List It} (h:ItemsAt w v l):∃ o c,v=.slice o l.length c/\l.length<=9223372036854775807:=by
 obtain ⟨o,c,e,h1,_⟩:=h
 exact ⟨o,c,e,h1⟩
end Go.Proofs.YticmnfmijdgmbaaGreatDoor

namespace Go.Proofs.X14
def lessB (a b:It):Bool:=decide (a.1 < b.1) || (decide (a.1=b.1) && decide (a.2 < b.2))
def AtX (O l:List It) (i:Nat) (a:Int):Prop:=
 (a=-1/\∀ x ∈ l.take i,x ∈ O)\/∃ (q:Nat) (y:It),a=(q:Int)/\q < i/\l[q]?=some y/\y ∉ O/\∀ x ∈ l.take i,x ∉ O->¬ Less x y
theorem AtX.start (O l:List It):AtX O l 0 (-1):=.inl ⟨rfl,by simp⟩
theorem mem_take_succ {l:List It} {i:Nat} {x y:It} (hx:l[i]?=some x) (h:y ∈ l.take (i + 1)):y ∈ l.take i\/y=x:=by
 rw [List.take_add_one,hx] at h
 rcases List.mem_append.1 h with h | h
 ·exact .inl h
 ·exact .inr (by simpa using h)
theorem AtX.skip {O l:List It} {i:Nat} {a:Int} {x:It} (h:AtX O l i a) (hx:l[i]?=some x) (hin:x ∈ O):AtX O l (i + 1) a:=by
 rcases h with ⟨h1,h2⟩ | ⟨q,y,h1,h2,h3,h4,h5⟩
 ·exact .inl ⟨h1,fun z hz=>by
   rcases mem_take_succ hx hz with e | e
   ·exact h2 z e
   ·rw [e]; exact hin⟩
 ·exact .inr ⟨q,y,h1,by omega,h3,h4,fun z hz hn=>by
   rcases mem_take_succ hx hz with e | e
   ·exact h5 z e hn
   ·exact absurd (e ▸ hin) hn⟩
theorem AtX.new {O l:List It} {i:Nat} {x:It} (h:AtX O l i (-1)) (hx:l[i]?=some x) (hin:x ∉ O):AtX O l (i + 1) (i:Int):=by
 rcases h with ⟨_,h2⟩ | ⟨q,y,h1,_⟩
 ·exact .inr ⟨i,x,rfl,by omega,hx,hin,fun z hz hn=>by
   rcases mem_take_succ hx hz with e | e
   ·exact absurd (h2 z e) hn
   ·rw [e]; exact Less.irrefl⟩
 ·omega
theorem AtX.less {O l:List It} {i q:Nat} {x y:It} (h:AtX O l i (q:Int)) (hx:l[i]?=some x) (hin:x ∉ O) (hy:l[q]?=some y) (hl:Less x y):AtX O l (i + 1) (i:Int):=by
 rcases h with ⟨h1,_⟩ | ⟨q',y',h1,h2,h3,h4,h5⟩
 ·omega
 ·obtain rfl:q=q':=by omega
  rw [hy] at h3
  injection h3 with h3
  subst h3
  exact .inr ⟨i,x,rfl,by omega,hx,hin,fun z hz hn=>by
   rcases mem_take_succ hx hz with e | e
   ·exact fun hz2=>h5 z e hn (hz2.trans hl)
   ·rw [e]; exact Less.irrefl⟩
theorem AtX.keep {O l:List It} {i q:Nat} {x y:It} (h:AtX O l i (q:Int)) (hx:l[i]?=some x) (hy:l[q]?=some y) (hl:¬ Less x y):AtX O l (i + 1) (q:Int):=by
 rcases h with ⟨h1,_⟩ | ⟨q',y',h1,h2,h3,h4,h5⟩
 ·omega
 ·obtain rfl:q=q':=by omega
  rw [hy] at h3
  injection h3 with h3
  subst h3
  exact .inr ⟨q,y,rfl,by omega,hy,h4,fun z hz hn=>by
   rcases mem_take_succ hx hz with e | e
   ·exact h5 z e hn
   ·rw [e]; exact hl⟩
structure RisX (l O:List It) (m:Nat):Prop where
 rise:Rise O
 sub:∀ x ∈ O,x ∈ l
 low:∀ x ∈ l,x ∉ O->∀ y ∈ O,Less y x
 left:(l.filter fun x=>decide (x ∉ O)).length + m<=l.length\/∀ x ∈ l,x ∈ O
 len:O.length<=m
theorem RisX.start (l:List It):RisX l [] 0:=⟨List.Pairwise.nil,by simp,by simp,.inl (by simpa using List.length_filter_le _ _),Nat.le_refl _⟩
theorem filter_less {l O:List It} {x:It} (hx:x ∈ l) (hn:x ∉ O):(l.filter fun z=>decide (z ∉ O ++ [x])).length + 1<=(l.filter fun z=>decide (z ∉ O)).length:=by
 have mono:∀ l:List It,(l.filter fun z=>decide (z ∉ O ++ [x])).length<=(l.filter fun z=>decide (z ∉ O)).length:=fun l=>by
  induction l with
  | nil=>exact Nat.le_refl _
  | cons a l ih =>
   rw [List.filter_cons,List.filter_cons]
   by_cases h1:a ∉ O ++ [x]
   ·have h2:a ∉ O:=fun h=>h1 (List.mem_append_left _ h)
    rw [if_pos (by simpa using h1),if_pos (by simpa using h2)]
    simpa using ih
   ·rw [if_neg (by simpa using h1)]
    split
    ·simp only [List.length_cons]; omega
    ·exact ih
 induction l with
 | nil=>cases hx
 | cons a l ih =>
  rw [List.filter_cons,List.filter_cons]
  rcases List.mem_cons.1 hx with e | hx
  ·subst e
   rw [if_neg (by simp),if_pos (by simpa using hn)]
   have:=mono l
   simp only [List.length_cons]; omega
  ·have h0:=ih hx
   by_cases h1:a ∉ O ++ [x]
   ·have h2:a ∉ O:=fun h=>h1 (List.mem_append_left _ h)
    rw [if_pos (by simpa using h1),if_pos (by simpa using h2)]
    simp only [List.length_cons]; omega
   ·rw [if_neg (by simpa using h1)]
    split
    ·simp only [List.length_cons]; omega
    ·exact h0
theorem RisX.none_ {l O:List It} {m:Nat} (h:RisX l O m) (ha:AtX O l l.length (-1)):RisX l O (m + 1):=by
 rcases ha with ⟨_,h2⟩ | ⟨q,y,h1,_⟩
 ·rw [List.take_length] at h2
  exact ⟨h.rise,h.sub,h.low,.inr h2,Nat.le_succ_of_le h.len⟩
 ·omega
theorem RisX.one {l O:List It} {m q:Nat} {y:It} (h:RisX l O m) (ha:AtX O l l.length (q:Int)) (hy:l[q]?=some y):RisX l (O ++ [y]) (m + 1):=by
 rcases ha with ⟨h1,_⟩ | ⟨q',y',h1,h2,h3,h4,h5⟩
 ·omega
 ·obtain rfl:q=q':=by omega
  rw [hy] at h3
  injection h3 with h3
  subst h3
  rw [List.take_length] at h5
  have hyl:=List.mem_of_getElem? hy
  refine ⟨?_,fun x hx=>?_,fun x hx hn z hz=>?_,?_,by rw [List.length_append]; exact Nat.succ_le_succ h.len⟩
  ·unfold Rise
   rw [List.pairwise_append]
   refine ⟨h.rise,by simp,fun a ha b hb=>?_⟩
   obtain rfl:b=y:=by simpa using hb
   exact h.low b hyl h4 a ha
  ·rcases List.mem_append.1 hx with hx | hx
   ·exact h.sub x hx
   ·obtain rfl:x=y:=by simpa using hx
    exact hyl
  ·have hn1:x ∉ O:=fun e=>hn (List.mem_append_left _ e)
   have hn2:x ≠ y:=fun e=>hn (by rw [e]; simp)
   rcases List.mem_append.1 hz with hz | hz
   ·exact h.low x hx hn1 z hz
   ·obtain rfl:z=y:=by simpa using hz
    rcases Classical.em (Less z x) with e | e
    ·exact e
    ·exact absurd (Less.total (h5 x hx hn1) e) hn2
  ·rcases h.left with e | e
   ·left
    have:=filter_less hyl h4
    omega
   ·exact absurd (e y hyl) h4
theorem RisX.done {l O:List It} (h:RisX l O l.length):Rise O/\∀ x,x ∈ O ↔ x ∈ l:=by
 refine ⟨h.rise,fun x=>⟨h.sub x,fun hx=>?_⟩⟩
 rcases h.left with e | e
 ·rcases Classical.em (x ∈ O) with k | k
  ·exact k
  ·have h1:x ∈ l.filter fun x=>decide (x ∉ O):=List.mem_filter.2 ⟨hx,by simpa using k⟩
   have h2:=List.length_pos_of_mem h1
   omega
 ·exact e x hx
end Go.Proofs.X14
namespace Go.Proofs.YticmnfmijdgmbaaGreatDoor
open Go Go.RowKit Go.Lib
open X14 (It Less Rise lessB AtX RisX)
end Go.Proofs.YticmnfmijdgmbaaGreatDoor

namespace Go.Proofs.YticmnfmijdgmbaaGreatDoor
open Go Go.RowKit Go.Lib
open X14 (It rightX thereX behX)
def isV (G:GD) (x:It):Bool:=validB G && thereX G x
def behV (G:GD) (x:It):Option Int:=if validB G=true then behX G x else none
def BehVP (G:GD) (x:It) (w:World) (e:Ending) (w':World):Prop:=e=.returned (.tuple #[.int .i64 ((behV G x).getD 0),.bool (behV G x).isSome])/\Below w.heap.size w w'
theorem behV_no {G:GD} {x:It} (h:isV G x=false):behV G x=none:=by
 unfold behV
 split
 ·rename_i hv
  unfold isV at h
  rw [hv,Bool.true_and] at h
  unfold behX
  rw [if_neg (by rw [h]; exact Bool.false_ne_true)]
 ·rfl
end Go.Proofs.YticmnfmijdgmbaaGreatDoor

namespace Go.Proofs.X14
open Go.Proofs.YticmnfmijdgmbaaGreatDoor (GD PD validB isV behV prodB valid_parts)
theorem nodup_le:∀ {l m:List It},l.Nodup->(∀ x ∈ l,x ∈ m)->l.length<=m.length
 | [],m,_,_=>Nat.zero_le _
 | x :: r,m,hn,hs=>by
  obtain ⟨h1,h2⟩:=List.nodup_cons.1 hn
  have hx:=hs x (by simp)
  have:=nodup_le (m:=m.erase x) h2 fun y hy=>by
   exact (List.mem_erase_of_ne fun e:y=x=>h1 (e ▸ hy)).2 (hs y (by simp [hy]))
  rw [List.length_erase_of_mem hx] at this
  have:=List.length_pos_of_mem hx
  rw [List.length_cons]
  omega
theorem right_le {G:GD} (hv:validB G=true) {q:Int} (h0:-1<=q) (h1:q < (G.prods.length:Int)):(rightX G q).length<=12:=by
 unfold rightX
 split
 ·show (1:Nat)<=12; omega
 ·have hq:q.toNat < G.prods.length:=by omega
  obtain ⟨_,_,_,hp,_⟩:=valid_parts hv
  have hm:G.prods.getD q.toNat default ∈ G.prods:=by
   rw [gdQ,geQ hq]
   exact List.getElem_mem hq
  have:=List.all_eq_true.1 hp _ hm
  unfold prodB at this
  simp only [Bool.and_eq_true,decide_eq_true_eq] at this
  omega
theorem flat_len {α:Type} (f:Nat->List α) (c:Nat):∀ l:List Nat,(∀ q ∈ l,(f q).length<=c)->(l.flatMap f).length<=l.length * c
 | [],_=>by simp
 | q :: l,h=>by
  rw [List.flatMap_cons,List.length_append,List.length_cons,Nat.succ_mul]
  have h1:=h q (by simp)
  have h2:=flat_len f c l fun r hr=>h r (by simp [hr])
  omega
theorem allI_len {G:GD} (hv:validB G=true):(allI G).length<=1573:=by
 unfold allI
 refine Nat.le_trans (flat_len _ 13 _ fun q hq=>?_) ?_
 ·rw [List.length_map,List.length_range]
  have:=List.mem_range.1 hq
  have:=right_le hv (q:=(q:Int) - 1) (by omega) (by omega)
  omega
 ·rw [List.length_range]
  have:=(valid_parts hv).2.2.1
  omega
open Classical in
noncomputable def closeV (G:GD) (l:List It):List It:=if validB G=true then closeX G l else []
noncomputable def stepV (G:GD) (l:List It) (s:Int):List It:=stepX G (closeV G l) s
theorem closeV_rise (G:GD) (l:List It):Rise (closeV G l):=by
 unfold closeV
 split
 ·exact (closeX_is G l).1
 ·exact List.Pairwise.nil
theorem mem_closeV {G:GD} {l:List It} {x:It} : x ∈ closeV G l ↔ validB G=true/\InC G l x:=by
 unfold closeV
 split
 ·rename_i h
  rw [(closeX_is G l).2 x]
  exact ⟨fun k=>⟨h,k⟩,fun k=>k.2⟩
 ·rename_i h
  exact ⟨fun k=>by simp at k,fun k=>absurd k.1 h⟩
theorem Rise.nodup {l:List It} (h:Rise l):l.Nodup:=List.Pairwise.imp (fun {a b} (hab:Less a b) (e:a=b)=>Less.irrefl (e ▸ hab:Less b b)) h
theorem closeV_len (G:GD) (l:List It):(closeV G l).length<=1573:=by
 unfold closeV
 split
 ·rename_i h
  exact Nat.le_trans (nodup_le (closeX_is G l).1.nodup fun x hx=>mem_allI (((closeX_is G l).2 x).1 hx).there) (allI_len h)
 ·exact Nat.zero_le _
theorem stepV_len (G:GD) (l:List It) (s:Int):(stepV G l s).length<=1573:=by
 unfold stepV stepX
 rw [List.length_map]
 exact Nat.le_trans (List.length_filter_le _ _) (closeV_len G l)
structure GaX (G:GD) (l O:List It) (i:Nat):Prop where
 inn:∀ x ∈ O,isV G x=true/\x ∈ l
 base:∀ x ∈ l.take i,isV G x=true->x ∈ O
 nd:O.Nodup
theorem GaX.start (G:GD) (l:List It):GaX G l [] 0:=⟨by simp,by simp,List.nodup_nil⟩
theorem GaX.skip {G:GD} {l O:List It} {i:Nat} {x:It} (h:GaX G l O i) (hx:l[i]?=some x) (hn:isV G x=true->x ∈ O):GaX G l O (i + 1):=
 ⟨h.inn,fun y hy hv=>by
  rcases mem_take_succ hx hy with e | e
  ·exact h.base y e hv
  ·rw [e] at hv ⊢; exact hn hv,h.nd⟩
theorem GaX.put {G:GD} {l O:List It} {i:Nat} {x:It} (h:GaX G l O i) (hx:l[i]?=some x) (hv:isV G x=true) (hn:x ∉ O):GaX G l (O ++ [x]) (i + 1):=
 ⟨fun y hy=>by
  rcases List.mem_append.1 hy with e | e
  ·exact h.inn y e
  ·obtain rfl:y=x:=by simpa using e
   exact ⟨hv,List.mem_of_getElem? hx⟩,fun y hy hv=>by
  rcases mem_take_succ hx hy with e | e
  ·exact List.mem_append_left _ (h.base y e hv)
  ·rw [e]; simp,List.nodup_append.2 ⟨h.nd,by simp,fun a ha b hb=>by
   obtain rfl:b=x:=by simpa using hb
   exact fun e=>hn (e ▸ ha)⟩⟩
theorem isV_iff {G:GD} {x:It} : isV G x=true ↔ validB G=true/\thereX G x=true:=by unfold isV; exact Bool.and_eq_true_iff
theorem in_len {G:GD} {O:List It} (hn:O.Nodup) (h:∀ x ∈ O,isV G x=true):O.length<=1573:=by
 cases O with
 | nil=>exact Nat.zero_le _
 | cons x r =>
  have hv:=(isV_iff.1 (h x (by simp))).1
  exact Nat.le_trans (nodup_le hn fun y hy=>mem_allI (isV_iff.1 (h y hy)).2) (allI_len hv)
structure ReX (G:GD) (l O:List It) (i:Nat):Prop where
 inn:∀ x ∈ O,validB G=true/\InC G l x
 base:∀ x ∈ l,isV G x=true->x ∈ O
 nd:O.Nodup
 done:∀ (j:Nat) (x:It) (s:Int) (p:Nat),j < i->O[j]?=some x->behX G x=some s->s < 0->p < G.prods.length->sortX G p=-1 - s->((p:Int),0) ∈ O
theorem ReX.len {G:GD} {l O:List It} {i:Nat} (h:ReX G l O i):O.length<=1573:=in_len h.nd fun x hx=>isV_iff.2 ⟨(h.inn x hx).1,(h.inn x hx).2.there⟩
theorem ReX.next {G:GD} {l O:List It} {i:Nat} {x:It} (h:ReX G l O i) (hx:O[i]?=some x) (hd:∀ (s:Int) (p:Nat),behX G x=some s->s < 0->p < G.prods.length->sortX G p=-1 - s->((p:Int),0) ∈ O):ReX G l O (i + 1):=
 ⟨h.inn,h.base,h.nd,fun j y s p hj hy hb hs hp he=>by
  by_cases hji:j < i
  ·exact h.done j y s p hji hy hb hs hp he
  ·obtain rfl:j=i:=by omega
   rw [hx] at hy
   injection hy with hy
   subst hy
   exact hd s p hb hs hp he⟩
theorem ReX.put {G:GD} {l O:List It} {i p:Nat} {x:It} {s:Int} (h:ReX G l O i) (hx:x ∈ O) (hi:i<=O.length) (hb:behX G x=some s) (hs:s < 0) (hp:p < G.prods.length) (he:sortX G p=-1 - s) (hn:((p:Int),(0:Int)) ∉ O):ReX G l (O ++ [((p:Int),0)]) i:=
 ⟨fun y hy=>by
  rcases List.mem_append.1 hy with e | e
  ·exact h.inn y e
  ·obtain rfl:y=((p:Int),0):=by simpa using e
   exact ⟨(h.inn x hx).1,.more x s p (h.inn x hx).2 hb hs hp he⟩,fun y hy hv=>List.mem_append_left _ (h.base y hy hv),List.nodup_append.2 ⟨h.nd,by simp,fun a ha b hb=>by
   obtain rfl:b=((p:Int),0):=by simpa using hb
   exact fun e=>hn (e ▸ ha)⟩,fun j y s' q hj hy hb' hs' hq he'=>by
  rw [List.getElem?_append_left (by omega)] at hy
  exact List.mem_append_left _ (h.done j y s' q hj hy hb' hs' hq he')⟩
theorem ReX.close {G:GD} {l O L:List It} {i:Nat} (h:ReX G l O i) (hi:O.length<=i) (hr:Rise L) (hm:∀ x,x ∈ L ↔ x ∈ O):L=closeV G l:=by
 refine hr.eq (closeV_rise G l) fun x=>?_
 rw [hm x,mem_closeV]
 refine ⟨h.inn x,fun hvx=>?_⟩
 obtain ⟨hv,hx⟩:=hvx
 induction hx with
 | base x hx ht=>exact h.base x hx (isV_iff.2 ⟨hv,ht⟩)
 | more x s p hx hb hs hp he ih =>
  obtain ⟨j,hj,e⟩:=List.mem_iff_getElem.1 ih
  exact h.done j x s p (by omega) (by rw [geQ hj,e]) hb hs hp he
end Go.Proofs.X14

namespace Go.Proofs.YticmnfmijdgmbaaGreatDoor
open Go Go.RowKit Go.Lib
open X14 (It Less Rise thereX behX sortX rightX closeV GaX ReX isV_iff)
end Go.Proofs.YticmnfmijdgmbaaGreatDoor

namespace Go.Proofs.X14
theorem stepX_take {G:Go.Proofs.YticmnfmijdgmbaaGreatDoor.GD} {c:List It} {i:Nat} {x:It} (hx:c[i]?=some x) (s:Int):stepX G (c.take (i + 1)) s=stepX G (c.take i) s ++ if behX G x=some s then [(x.1,x.2 + 1)] else []:=by
 unfold stepX
 rw [List.take_add_one,hx,List.filter_append,List.map_append]
 congr 1
 by_cases h:behX G x=some s
 ·simp [h]
 ·simp [h]
end Go.Proofs.X14
namespace Go.Proofs.YticmnfmijdgmbaaGreatDoor
open Go Go.RowKit Go.Lib
open X14 (It Less Rise thereX behX sortX rightX closeV stepX stepV isV_iff)
theorem wrap_small {a:Int} (h0:-9223372036854775808<=a) (h1:a<=9223372036854775807):IntKind.i64.wrap a=a:=by
 unfold IntKind.wrap
 simp [IntKind.signed,IntKind.bits]
 omega
end Go.Proofs.YticmnfmijdgmbaaGreatDoor
