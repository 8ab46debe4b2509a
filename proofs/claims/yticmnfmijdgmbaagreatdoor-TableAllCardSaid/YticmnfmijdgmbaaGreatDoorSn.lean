import Derived.Maps.OwnIn
import Derived.Test.YticmnfmijdgmbaaGreatDoorSl
set_option linter.all false
namespace Go.Proofs.YticmnfmijdgmbaaGreatDoor
open Go Go.RowKit Go.Lib
open aO (It)
def BgI (w wS:World)(bo g1:Nat)(O:List It)(pre:List It)(W:World):Prop:=∃ g c,Out w W bo (O++pre) g c/\iZ wS.heap.size [bo,g1] wS W/\(g=g1\/wS.heap.size<=g)
theorem zC {w W:World}{bo g c:Nat}{O:List It}(h:Out w W bo O g c):∃ cur,W.heap[g]?=some (.cells cur 60 (0,0)):=by
 rcases h.own.2 with⟨e1,_⟩ | ⟨g',cap,cur,e1,_,e2,_⟩
 ·cases e1
 ·obtain rfl:g=g':=by injection e1 with e1;injection e1 with e1;injection e1
  exact⟨_,e2⟩
theorem G6 {w wS:World}{bo g1:Nat}{O:List It}(hw:w.heap.size<=wS.heap.size):OwnFrom wS.heap.size (BgI w wS bo g1 O):=by
 rintro pre W W' row ⟨g,c,h1,h2,h3⟩ hg hr;obtain⟨cur,hcur⟩:=zC h1;have ho:row≠some bo:=fun e=>by
  obtain⟨_,o,ho,hc⟩:=hr bo e;rw[h1.box]at ho;obtain rfl:=Option.some.inj ho;cases hc
 have hgg:row≠some g:=fun e=>by
  obtain⟨_,o,ho,hc⟩:=hr g e;rw[hcur]at ho;obtain rfl:=Option.some.inj ho;cases hc
 refine⟨g,c,h1.keep (hg.block bo h1.lt.2.2 (fun e=>ho e.symm)) (hg.block g h1.lt.2.1 (fun e=>hgg e.symm)) (h1.bel.grown hg h1.bel.size (fun k e=>?_)),h2.trans ⟨hg.os,hg.tape,hg.output,hg.size,fun q hq hqT=>hg.block q (Nat.lt_of_lt_of_le hq h2.size) fun e=>?_⟩,h3⟩
 ·exact eX hw (hr k e).1
 ·have:=(hr q e.symm).1;omega
theorem bg_push {w wS W W6 w7:World}{bo g1 g c:Nat}{O pre:List It}{x:It}{v':Value}(h:Out w W6 bo (O++pre) g c)(hk:iZ wS.heap.size [bo,g1] wS W)(hb6:aj W W6)(h3:g=g1\/wS.heap.size<=g)
  (hown:w7.ownsRow w.heap.size 60 2 v' ((O++pre).length+1) (icells (O++pre)++[.int .i64 x.1,.int .i64 x.2])) (hg:W6.grownBy w7 (some g)) (hat:v'.ownBlock=some g\/v'.ownBlock=some W6.heap.size) :
  ∃ g' c',v'=.slice (some ⟨g',0,none⟩) ((O++pre).length+1) c'/\w7.heap[bo]?=some (.cells #[.slice (some ⟨g,0,none⟩) (O++pre).length c] 45 (0,0)) /\
   KeepsFrom wS.heap.size W (w7.setCell ⟨bo,0,none⟩ v')/\iZ wS.heap.size [bo,g1] W (w7.setCell ⟨bo,0,none⟩ v')/\BgI w wS bo g1 O (pre++[x]) (w7.setCell ⟨bo,0,none⟩ v'):=by
 obtain⟨cur,hcur⟩:=zC h;obtain⟨g',c',rfl,hbo,hO,hg',hkk⟩:=h.push (x:=x) hown hg hat;have hs:=hk.size;have hs6:=hb6.size;have hK1:=hkk wS.heap.size [bo,g1] (by omega) (by simp) (h3.imp (fun e=>by simp[e]) id);have hK2:iZ wS.heap.size [bo,g1] W (w7.setCell ⟨bo,0,none⟩ (.slice (some ⟨g',0,none⟩) ((O++pre).length+1) c')):=((iZ.refl _ _ W).below hs hb6).trans hK1;have hK3:=hkk W6.heap.size [bo,g] (bJ _) (by simp) (.inl (by simp));refine⟨g',c',rfl,hbo,⟨hK2.size,fun k o hk1 ho hc=>?_⟩,hK2,g',c',by rw[<-List.append_assoc];exact hO,hk.trans hK2,?_⟩
 ·have hlt:=(dZ ho);have h6:=(hb6.block k hlt).trans ho;refine(hK3.block k (by omega) (fun hm=>?_)).trans h6;simp only[List.mem_cons,List.not_mem_nil,or_false]at hm;rcases hm with e | e
  ·subst e;rw[h.box]at h6;obtain rfl:=Option.some.inj h6;cases hc
  ·subst e;rw[hcur]at h6;obtain rfl:=Option.some.inj h6;cases hc
 ·rcases hg' with e | e
  ·rw[e];exact h3
  ·right;omega
theorem wK {F:Fence}{nF:Nat}{ops:Array Oper}{rest:List Oper}{o:Oper}{a:Act}{w:World}{Q:Exit->Act->World->Prop}(hgd:o.guard=none)(s x:Operand)(ho:o.op=.call {callee:=.builtin .append,args:=#[s,x],argTypes:=#[45,45]})
  (base:Nat) (v:Value) (n:Nat) (xs:List Value) (hs:a.eval s=v) (hown:w.ownsRow base 60 2 v n xs) (g:Nat) (hx:a.eval x=.slice (some ⟨g,0,none⟩) 1 1) (p q:Int) (hb:w.heap[g]?=some (.cells #[.int .i64 p,.int .i64 q] 60 (0,0))) (hn:n<=1000000) (hbase:base<=w.heap.size)
  (h:∀ v' w',w'.ownsRow base 60 2 v' (n+1) (xs++[.int .i64 p,.int .i64 q])->w.grownBy w' v.ownBlock->(v'.ownBlock=v.ownBlock\/v'.ownBlock=some w.heap.size)->wpListIn F nF Tryz.prog ops Q rest (a.put o.dst v') w'):wpListIn F nF Tryz.prog ops Q (o::rest) a w:=by
 obtain⟨i,hi,h0,h1,h2⟩:=info_parts Bo;refine wpListIn_append_own_at w hgd s x 45 ho base 60 i _ 2 16 Tryz.underlying45 hi h0 h1 h2 rfl (by decide) v n xs hs hown ⟨g,0,none⟩ 1 1 [.int .i64 p,.int .i64 q] hx rfl (fun j u hj=>?_) (fun u hu=>?_) (by unfold maxLen;omega) ?_ hbase (fun v' w' a1 a2 _ a4=>h v' w' a1 a2 a4)
 ·rw[jr,Nat.zero_add,ak hb,<-hj];simp
 ·simp at hu;rcases hu with rfl | rfl<;>rfl
 ·omega
end Go.Proofs.YticmnfmijdgmbaaGreatDoor
