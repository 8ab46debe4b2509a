import Derived.Laws.Bits64
import Derived.Laws.Bits64b
import Derived.Lib.SmallJoins
import Derived.Scope
import Derived.ScopeJumps
import Derived.Test.YticmnfmijdgmbaaGreatDoorQHs
set_option linter.all false
set_option maxRecDepth 100000
set_option maxHeartbeats 2000000
namespace Go.Proofs.YticmnfmijdgmbaaGreatDoor.aJ
open Go Go.RowKit Go.Lib
abbrev u64 (n:Nat):Value:=.int .u64 (n:Int)
theorem lM (a b:Nat)(ha:a<18446744073709551616)(hb:b<18446744073709551616) :
  bits .andNot .u64 (a:Int) (b:Int)=((qB a b:Nat):Int):=by
 have hx:=Dx ha b;have h1:(BitVec.ofInt 64 (a:Int)).toNat=a:=by
  rw[BitVec.ofInt_natCast,BitVec.toNat_ofNat];exact Nat.mod_eq_of_lt (by omega)
 have h2:(BitVec.ofInt 64 (b:Int)).toNat=b:=by
  rw[BitVec.ofInt_natCast,BitVec.toNat_ofNat];exact Nat.mod_eq_of_lt (by omega)
 have h3:(BitVec.ofInt 64 (a:Int) &&& ~~~(BitVec.ofInt 64 (b:Int))).toNat=qB a b:=by
  refine AC (BitVec.isLt _) hx fun i hi=>?_;rw[kX,BitVec.testBit_toNat,BitVec.getLsbD_and,BitVec.getLsbD_not,<-BitVec.testBit_toNat,<-BitVec.testBit_toNat,h1,h2];simp[hi]
 show IntKind.u64.wrap ((BitVec.ofInt 64 (a:Int) &&& ~~~(BitVec.ofInt 64 (b:Int))).toNat:Int)=_;rw[h3,IntKind.wrap_u64];omega
theorem Jj (n:Int)(h0:0<=n)(h1:n<64):IntKind.u64.wrap (2 ^ n.toNat)=((aZ n:Nat):Int):=by
 have hb:=jW n;have e:((2:Int) ^ n.toNat)=((aZ n:Nat):Int):=by unfold aZ;rw[if_pos ⟨h0,h1⟩];simp
 rw[e,IntKind.wrap_u64];omega
theorem xh (n:Int)(w:World):Calls Tryz.prog 72 #[.int .i64 n] w fun e w'=>e=.returned (u64 (aZ n))/\w=w':=by
 by_cases h:0<=n/\n<64
 ·obtain⟨h0,h1⟩:=h;go_enter Tryz.func72,Tryz.ntmps72;go_wp2;go_ret;exact⟨by rw[Jj n h0 h1];rfl,rfl⟩
 ·by_cases h0:n<0
  ·have e:aZ n=0:=by unfold aZ;rw[if_neg h]
   rw[e];have H:=hid h;clear h;have E:=hid e;clear e;go_enter Tryz.func72,Tryz.ntmps72;go_wp2;go_ret;exact⟨rfl,rfl⟩
  ·have e:aZ n=0:=by unfold aZ;rw[if_neg h]
   rw[e];have h1:64<=n:=by omega
   have H:=hid h;clear h;have E:=hid e;clear e;go_enter Tryz.func72,Tryz.ntmps72;go_wp2;go_ret;exact⟨rfl,rfl⟩
theorem oM (a b:Nat)(ha:a<18446744073709551616)(hb:b<18446744073709551616)(w:World):Calls Tryz.prog 70 #[u64 a,u64 b] w fun e w'=>e=.returned (u64 (a ||| b))/\w=w':=by
 have e:=hid (bits_or_u64_nat a b ha hb);go_enter Tryz.func70,Tryz.ntmps70;go_wp2;go_ret;exact⟨by rw[e.o];rfl,rfl⟩
theorem MS (a b:Nat)(ha:a<18446744073709551616)(hb:b<18446744073709551616)(w:World):Calls Tryz.prog 66 #[u64 a,u64 b] w fun e w'=>e=.returned (u64 (qB a b))/\w=w':=by
 have e:=hid (lM a b ha hb);go_enter Tryz.func66,Tryz.ntmps66;go_wp2;go_ret;exact⟨by rw[e.o];rfl,rfl⟩
def gu (a:Nat)(n:Int):Bool:=decide (a &&& aZ n≠0)
def inN (a b:Nat):Bool:=decide (qB a b=0)
theorem uI (a:Nat)(n:Int)(ha:a<18446744073709551616)(w:World):Calls Tryz.prog 33 #[u64 a,.int .i64 n] w fun e w'=>e=.returned (.bool (gu a n))/\w=w':=by
 have e:=hid (bits_and_u64_nat a (aZ n) ha (jW n));go_enter Tryz.func33,Tryz.ntmps33;go_wp2_with (go_at_call 72;refine(xh _ _).mono ?_;rintro e w' ⟨rfl,rfl⟩);go_ret;refine⟨?_,rfl⟩;show Ending.returned (.bool (bits BinOp.and IntKind.u64 (a:Int) (aZ n:Nat) != 0))=_;rw[e.o];simp only[gu];congr 2;rw[Bool.eq_iff_iff];simp
theorem Eg (a:Nat)(n:Int)(ha:a<18446744073709551616)(w:World):Calls Tryz.prog 39 #[u64 a,.int .i64 n] w fun e w'=>e=.returned (u64 (a ||| aZ n))/\w=w':=by
 have e:=hid (bits_or_u64_nat a (aZ n) ha (jW n));go_enter Tryz.func39,Tryz.ntmps39;go_wp2_with (go_at_call 72;refine(xh _ _).mono ?_;rintro e w' ⟨rfl,rfl⟩);go_ret;exact⟨by rw[e.o];rfl,rfl⟩
theorem In_any (a b:Nat)(ha:a<18446744073709551616)(hb:b<18446744073709551616)(w:World):Calls Tryz.prog 28 #[u64 a,u64 b] w fun e w'=>e=.returned (.bool (inN a b))/\w=w':=by
 go_enter Tryz.func28,Tryz.ntmps28;go_wp2_with (go_at_call 66;refine(MS a b ha hb _).mono ?_;rintro e w' ⟨rfl,rfl⟩);go_ret;refine⟨?_,rfl⟩;show Ending.returned (.bool (((qB a b:Nat):Int) == 0))=_;simp only[inN];congr 2;rw[Bool.eq_iff_iff];simp
def BQ (l:List Int):Nat:=l.foldl (fun s n=>s ||| aZ n) 0
theorem JU (l:List Int)(n:Int):BQ (l++[n])=BQ l ||| aZ n:=by simp[BQ]
theorem ES (l:List Int):BQ l<18446744073709551616:=by
 have:∀ (l:List Int) (s:Nat),s<18446744073709551616->l.foldl (fun s n=>s ||| aZ n) s<18446744073709551616:=by
  intro l;induction l with
  | nil=>exact fun s h=>h
  | cons x l ih=>exact fun s h=>ih _ (oH h (jW x))
 exact this l 0 (by omega)
theorem vU (l:List Int)(i:Nat):(BQ l).testBit i=decide (i<64/\(i:Int)∈l):=by
 have:∀ (l:List Int) (s:Nat),(l.foldl (fun s n=>s ||| aZ n) s).testBit i=(s.testBit i || decide (i<64/\(i:Int)∈l)):=by
  intro l;induction l with
  | nil=>intro s;simp
  | cons x l ih =>
   intro s;rw[List.foldl_cons,ih,Nat.testBit_or,dN,Bool.or_assoc];congr 1;rw[Bool.eq_iff_iff];simp only[Bool.or_eq_true,decide_eq_true_eq,List.mem_cons];constructor
   ·rintro(⟨h1,h2,h3⟩ | ⟨h1,h2⟩)
    ·exact⟨by omega,.inl h3⟩
    ·exact⟨h1,.inr h2⟩
   ·rintro⟨h1,h2 | h2⟩
    ·exact .inl ⟨by omega,by omega,h2⟩
    ·exact .inr ⟨h1,h2⟩
 rw[BQ,this];simp
theorem take_snoc {l:List Int}{k:Nat}(h:k<l.length):l.take (k+1)=l.take k++[l.getD k 0]:=by
 rw[List.take_succ_eq_append_getElem h];simp[List.getD,h]
theorem Of_some (b off cap:Nat)(l:List Int)(w:World)(hl:l.length<=9223372036854775807)(hc:∀ i,i<l.length->w.cell? ⟨b,off+i,none⟩=some (.int .i64 (l.getD i 0))) :
  Calls Tryz.prog 31 #[.slice (some ⟨b,off,none⟩) l.length cap] w fun e w'=>e=.returned (u64 (BQ l))/\w=w':=by
 have HC:=hid hc;clear hc;go_enter Tryz.func31,Tryz.ntmps31;go_wp2
 go_loop [3,8] (fun s i=>∃ k:Nat,k<=l.length/\i=.int .i64 (k:Int)/\s=u64 (BQ (l.take k))) (fun _ i=>l.length-(intOf i).toNat)
 case atStart=>exact⟨0,Nat.zero_le _,rfl,rfl⟩
 case round =>
  obtain⟨k,hk,rfl,rfl⟩:=hrel;have hlt':=ES (l.take k);by_cases hlt:k<l.length
  ·have g:=HC.o k hlt;have e:=hid (bits_or_u64_nat (BQ (l.take k)) (aZ (l.getD k 0)) hlt' (jW _));have HT:=hid (take_snoc hlt);go_wp2_with (go_at_call 72;refine(xh _ _).mono ?_;rintro e w' ⟨rfl,rfl⟩);exact⟨⟨k+1,by omega,by go_num,by rw[HT.o,JU];simp only[List.getD,hlt,dH,Option.getD_some]at e ⊢;rw[e.o]⟩,by simp[intOf];omega⟩
  ·go_wp2;go_ret;exact⟨by rw[List.take_of_length_le (by omega)];rfl,rfl⟩
open Go Go.RowKit Go.Lib Go.Joins
structure Far (S:Nat->Prop) (w w':World):Prop where
 os:w'.os=w.os
 tape:w'.tape=w.tape
 output:w'.output=w.output
 size:w.heap.size<=w'.heap.size
 block:∀ k,k<w.heap.size->¬ S k->w'.heap[k]?=w.heap[k]?
theorem Far.refl (S:Nat->Prop)(w:World):Far S w w:=⟨rfl,rfl,rfl,bJ _,fun _ _ _=>rfl⟩
theorem Far.trans {S:Nat->Prop}{a b c:World}(h:Far S a b)(k:Far S b c):Far S a c:=
 ⟨k.os.trans h.os,k.tape.trans h.tape,k.output.trans h.output,eX h.size k.size,fun i hi hs=>(k.block i (Nat.lt_of_lt_of_le hi h.size) hs).trans (h.block i hi hs)⟩
theorem Far.kZ {S:Nat->Prop}{a b:World}(h:Below a.heap.size a b):Far S a b:=⟨h.os,h.tape,h.output,h.size,fun i hi _=>h.block i hi⟩
theorem Far.kW {S:Nat->Prop}{a b:World}{B:Nat}(h:Far S a b)(hB:B<=a.heap.size)(hs:∀ k,S k->B<=k):Below B a b:=
 ⟨h.os,h.tape,h.output,h.size,fun i hi=>h.block i (by omega) fun h'=>by have:=hs i h';omega⟩
theorem Far.drewN {S:Nat->Prop}{a b:World}(h:Far S a b)(n:Nat):Far S a (b.drewN n):=h.trans ⟨rfl,rfl,rfl,bJ _,fun _ _ _=>rfl⟩
theorem Far.drew {S:Nat->Prop}{a b:World}(h:Far S a b):Far S a b.drew:=h.trans ⟨rfl,rfl,rfl,bJ _,fun _ _ _=>rfl⟩
theorem Far.set {S:Nat->Prop}{a b:World}(h:Far S a b){p:Addr}(hp:S p.block)(v:Value):Far S a (b.setCell p v):=by
 have hb:=(eH 0 b).setCell (p:=p) (Nat.zero_le _) v;exact h.trans ⟨hb.os,hb.tape,hb.output,hb.size,fun i _ hs=>Below.heap_setCell b p v i fun e=>hs (by rw[e];exact hp)⟩
theorem Far.heap {S:Nat->Prop}{a b:World}(h:Far S a b){k:Nat}{o:Obj}(ho:a.heap[k]?=some o)(hs:¬ S k):b.heap[k]?=some o:=
 (h.block k (dZ ho) hs).trans ho
theorem Far.cell {S:Nat->Prop}{a b:World}(h:Far S a b){p:Addr}{v:Value}(hv:a.cell? p=some v)(hs:¬ S p.block):b.cell? p=some v:=
 (World.cell?_of_block (w:=a) (h.block p.block (World.block_lt_of_cell? a _ hv) hs)).trans hv
structure GSt (W:World) (lb Bl Bj Bc n:Nat) (L:List Bool) (c:Bool):Prop where
 list:W.heap[lb]?=some (.cells (L.map Value.bool).toArray 4)
 var:W.heap[Bl]?=some (.cells #[.slice (some ⟨lb,0,none⟩) n n] 75)
 join:W.heap[Bj]?=some (.cells #[.func (.func 115) #[] #[]] 184)
 chg:W.heap[Bc]?=some (.cells #[.bool c] 4)
 len:L.length=n
 ne:lb≠Bc
theorem yx (a b:Bool)(w:World):Calls Tryz.prog 115 #[.bool a,.bool b] w fun e w'=>e=.returned (.bool (a || b))/\w'=w:=by
 cases a<;>cases b <;>
 ·go_enter Tryz.func115,Tryz.ntmps115;go_wp2;go_ret;exact⟨rfl,rfl⟩
theorem J3 {W:World}{lb Bl Bj Bc n:Nat}{L:List Bool}{c:Bool}(h:GSt W lb Bl Bj Bc n L c)(i:Nat)(hi:i<n)(x:Bool) :
  Calls Tryz.prog 133 #[.int .i64 (i:Int),.bool x,.pointer (some ⟨Bj,0,none⟩),.pointer (some ⟨Bl,0,none⟩),.pointer (some ⟨Bc,0,none⟩)] W fun e W' =>
   (∃ v,e=.returned v)/\GSt W' lb Bl Bj Bc n (L.set i (L.getD i false || x)) (c || (L.getD i false != (L.getD i false || x)))/\Far (fun k=>k=lb\/k=Bc) W W':=by
 have hlen:=h.len;have c1:W.cell? ⟨lb,i,none⟩=some (.bool (L.getD i false)):=by
  rw[cell_of_block h.list];simp[dL,hlen,hi]
 have c2:=cell_of_block h.var 0;have c3:=cell_of_block h.join 0;have c4:=cell_of_block h.chg 0;have f1:=unfrozen_of_block h.list i;have f4:=unfrozen_of_block h.chg 0;simp only[List.getElem?_toArray,List.getElem?_cons_zero]at c2 c3 c4;have hne:=h.ne;have fs:∀ m v,((W.drewN m).setCell {block:=lb,off:=i} v).cell? {block:=Bc,off:=0}=some (.bool c):=fun m v =>
  (World.cell?_setCell_far _ _ _ _ hne).trans c4
 generalize hy:L.getD i false=y at *;have i0:(0:Int)<=(i:Int):=by omega
 have i1:(i:Int)<(n:Int):=by omega
 have H:=hid h;clear h;by_cases hxy:y=false/\x=true
 ·obtain⟨rfl,rfl⟩:=hxy;go_enter Tryz.func133,Tryz.ntmps133;go_wp2_with fail
  go_quiet ((go_at_call 115;exact Calls.quiet_of_same (yx _ _ _)))
  go_wp2
  go_end0
  have hst:GSt (((W.drewN nq).setCell {block:=lb,off:=i} (Value.bool true)).setCell {block:=Bc,off:=0} (Value.bool true)) lb Bl Bj Bc n (L.set i (false || true)) (c || false != (false || true)):=by
   obtain⟨h1,h2,h3,h4,h5,h6⟩:=H.o;have hl:((W.drewN nq).setCell {block:=lb,off:=i} (Value.bool true)).heap[lb]?=some (.cells ((L.set i true).map Value.bool).toArray 4):=by
    have:=block_setCell (w:=W.drewN nq) (i:=i) h1 (Value.bool true);rw[this];simp[List.map_set]
   have far:∀ k,k≠lb->k≠Bc->(((W.drewN nq).setCell {block:=lb,off:=i} (Value.bool true)).setCell {block:=Bc,off:=0} (Value.bool true)).heap[k]?=W.heap[k]?:=fun k e1 e2 =>
    (Below.heap_setCell _ _ _ _ e2).trans (Below.heap_setCell _ _ _ _ e1)
   have n1:Bl≠lb:=fun e=>by rw[e,h1]at h2;simp at h2
   have n2:Bl≠Bc:=fun e=>by rw[e,h4]at h2;simp at h2
   have n3:Bj≠lb:=fun e=>by rw[e,h1]at h3;simp at h3
   have n4:Bj≠Bc:=fun e=>by rw[e,h4]at h3;simp at h3
   refine⟨?_,?_,?_,?_,by simp[h5],h6⟩
   ·exact(Below.heap_setCell _ _ _ _ h6).trans hl
   ·exact(far _ n1 n2).trans h2
   ·exact(far _ n3 n4).trans h3
   ·have h4':((W.drewN nq).setCell {block:=lb,off:=i} (Value.bool true)).heap[Bc]?=some (.cells #[.bool c] 4):=(Below.heap_setCell _ _ _ _ (Ne.symm h6)).trans h4;have:=block_setCell (i:=0) h4' (Value.bool true);rw[this];simp
  exact⟨⟨_,rfl⟩,hst,(((Far.refl _ _).drewN nq).set (.inl rfl) _).set (.inr rfl) _⟩
 ·have hxx:(y || x)=y:=by cases y<;>cases x<;>simp_all
  rw[hxx];have e2:(y != y)=false:=by simp
  have hset:L.set i y=L:=by
   rw[<-hy];refine List.ext_getElem (by simp) fun j h1 h2=>?_;rw[List.getElem_set];split
   ·rename_i e;subst e;rw[dL,dH h2];rfl
   ·rfl
  rw[e2,hset,Bool.or_false];have HX:=hid hxx;clear hxx hxy hset;have ke:=hid fun w=>yx y x w;rw[HX.o]at ke;go_enter Tryz.func133,Tryz.ntmps133;go_wp2_with fail
  go_quiet ((go_at_call 115;exact Calls.quiet_of_same (ke.o _)))
  go_wp2
  go_end0
  exact⟨⟨_,rfl⟩,⟨H.o.list,H.o.var,H.o.join,H.o.chg,H.o.len,H.o.ne⟩,(Far.refl _ _).drewN nq⟩
def isK (k:Bool)(L:List Bool)(s:Int):Bool:=if s<0 then L.getD (-1-s).toNat false else k
def gJ (k:Bool)(L:List Bool)(p:PD):List Bool:=L.set p.sort.toNat (L.getD p.sort.toNat false || p.rs.all (isK k L))
inductive Reach (k:Bool) (ps:List PD) (L0:List Bool):List Bool->Prop where
 | refl:Reach k ps L0 L0
 | step {L:List Bool} {p:PD} : Reach k ps L0 L->p∈ps->Reach k ps L0 (gJ k L p)
def Closed (k:Bool)(ps:List PD)(L:List Bool):Prop:=∀ p∈ps,p.rs.all (isK k L)=true->L.getD p.sort.toNat false=true
theorem lQ (k:Bool)(L:List Bool)(p:PD):(gJ k L p).length=L.length:=by simp[gJ]
theorem uh {L:List Bool}{i:Nat} : L.set i (L.getD i false)=L:=by
 refine List.ext_getElem (by simp) fun j h1 h2=>?_;rw[List.getElem_set];split
 ·rename_i e;subst e;rw[dL,dH h2];rfl
 ·rfl
theorem vJ:∀ (L:List Bool)(i:Nat),i<L.length->L.getD i false=false->(L.set i true).count false+1=L.count false
 | [],i,h,_=>by simp at h
 | b::L,0,_,h=>by
  have:b=false:=by simpa using h
  subst this;simp
 | b::L,i+1,h,h2=>by
  have ih:=vJ L i (by simpa using h) (by simpa using h2);cases b<;>simp<;>omega
theorem oO (k:Bool)(L:List Bool)(p:PD)(h:p.sort.toNat<L.length) :
  (L.getD p.sort.toNat false != (L.getD p.sort.toNat false || p.rs.all (isK k L)))=false/\gJ k L p=L/\(p.rs.all (isK k L)=true->L.getD p.sort.toNat false=true) \/
  (L.getD p.sort.toNat false != (L.getD p.sort.toNat false || p.rs.all (isK k L)))=true/\(gJ k L p).count false<L.count false:=by
 unfold gJ;cases h1:L.getD p.sort.toNat false
 ·cases h2:p.rs.all (isK k L)
  ·left;refine⟨rfl,?_,by simp⟩;have:=uh (L:=L) (i:=p.sort.toNat);rw[h1]at this;exact this
  ·right;have:=vJ L _ h h1;exact⟨rfl,by simp only[Bool.false_or];omega⟩
 ·left;refine⟨by cases p.rs.all (isK k L)<;>rfl,?_,fun _=>rfl⟩;have:=uh (L:=L) (i:=p.sort.toNat);rw[h1]at this;simpa using this
def Passed (k:Bool)(ps:List PD)(L0:List Bool)(j:Nat)(L:List Bool)(c:Bool):Prop:=
 Reach k ps L0 L/\L.length=L0.length/\(c=false->L=L0/\∀ i,i<j->i<ps.length->(ps.getD i default).rs.all (isK k L0)=true->L0.getD (ps.getD i default).sort.toNat false=true)/\(c=true->L.count false<L0.count false)/\L.count false<=L0.count false
theorem CZ (k:Bool)(ps:List PD)(L0:List Bool):Passed k ps L0 0 L0 false:=
 ⟨.refl,rfl,fun _=>⟨rfl,fun i h=>absurd h (Nat.not_lt_zero i)⟩,fun h=>(by cases h),bJ _⟩
theorem C9 {k:Bool}{ps:List PD}{L0 L:List Bool}{j:Nat}{c:Bool}(h:Passed k ps L0 j L c)(hj:j<ps.length)(hs:(ps.getD j default).sort.toNat<L0.length) :
  Passed k ps L0 (j+1) (gJ k L (ps.getD j default)) (c || (L.getD (ps.getD j default).sort.toNat false != (L.getD (ps.getD j default).sort.toNat false || (ps.getD j default).rs.all (isK k L)))):=by
 obtain⟨hr,hl,hf,ht,hm⟩:=h;have hmem:ps.getD j default∈ps:=by
  rw[dL,dH hj];exact List.getElem_mem _
 have hR:Reach k ps L0 (gJ k L (ps.getD j default)):=.step hr hmem;rcases oO k L (ps.getD j default) (by omega)with⟨e1,e2,e3⟩ | ⟨e1,e2⟩
 ·rw[e1,e2,Bool.or_false];refine⟨hr,hl,fun hc=>?_,ht,hm⟩;obtain⟨rfl,hi⟩:=hf hc;refine⟨rfl,fun i hi1 hi2=>?_⟩;rcases Nat.lt_or_ge i j with h1 | h1
  ·exact hi i h1 hi2
  ·obtain rfl:i=j:=by omega
   exact e3
 ·rw[e1,Bool.or_true];exact⟨hR,by rw[lQ];exact hl,fun h=>(by cases h),fun _=>by omega,by omega⟩
theorem yZ {k:Bool}{ps:List PD}{L0 L:List Bool}(h:Passed k ps L0 ps.length L false):L=L0/\Closed k ps L:=by
 obtain⟨_,_,hf,_,_⟩:=h;obtain⟨rfl,hi⟩:=hf rfl;refine⟨rfl,fun p hp=>?_⟩;obtain⟨j,hj,rfl⟩:=List.getElem_of_mem hp;have:=hi j hj hj
 rwa [dL,dH hj]at this
theorem CW {k:Bool}{ps:List PD}{a b c:List Bool}(h1:Reach k ps a b)(h2:Reach k ps b c):Reach k ps a c:=by
 induction h2 with
 | refl=>exact h1
 | step _ hp ih=>exact .step ih hp
theorem AX {k:Bool}{ps:List PD}{a b:List Bool}(h:Reach k ps a b):b.length=a.length:=by
 induction h with
 | refl=>rfl
 | step _ _ ih=>rw[lQ,ih]
def LeB (a b:List Bool):Prop:=∀ i,a.getD i false=true->b.getD i false=true
theorem Kz {k:Bool}{a b:List Bool}(h:LeB a b)(s:Int)(hs:isK k a s=true):isK k b s=true:=by
 unfold isK at *;split at hs
 ·rename_i h0;rw[if_pos h0];exact h _ hs
 ·rename_i h0;rw[if_neg h0];exact hs
theorem L9 {k:Bool}{a b:List Bool}(h:LeB a b)(l:List Int)(hs:l.all (isK k a)=true):l.all (isK k b)=true:=by
 rw[List.all_eq_true]at *;exact fun x hx=>Kz h x (hs x hx)
theorem CX {k:Bool}{ps:List PD}{a b M:List Bool}(h:Reach k ps a b)(ha:LeB a M)(hM:Closed k ps M):LeB b M:=by
 induction h with
 | refl=>exact ha
 | step _ hp ih =>
  intro i hi;rename_i L p _;unfold gJ at hi;rw[dL,List.getElem?_set]at hi;split at hi
  ·rename_i e;subst e;split at hi
   ·simp only[Option.getD_some,Bool.or_eq_true]at hi;rcases hi with hi | hi
    ·exact ih _ hi
    ·exact hM _ hp (L9 ih _ hi)
   ·simp at hi
  ·exact ih i (by rw[dL];exact hi)
def Least (k:Bool)(ps:List PD)(n:Nat)(L:List Bool):Prop:=Reach k ps (List.replicate n false) L/\Closed k ps L
theorem Least.length {k:Bool}{ps:List PD}{n:Nat}{L:List Bool}(h:Least k ps n L):L.length=n:=by
 rw[AX h.1];simp
theorem none_le (n:Nat)(M:List Bool):LeB (List.replicate n false) M:=by
 intro i hi;rw[dL,List.getElem?_replicate]at hi;split at hi<;>simp at hi
theorem Least.le {k:Bool}{ps:List PD}{n:Nat}{L M:List Bool}(h:Least k ps n L)(hM:Closed k ps M):LeB L M:=CX h.1 (none_le n M) hM
theorem Least.same {k:Bool}{ps:List PD}{n:Nat}{L M:List Bool}(h:Least k ps n L)(h2:Least k ps n M):L=M:=by
 have h3:=h.le h2.2;have h4:=h2.le h.2;refine List.ext_getElem (by rw[h.length,h2.length]) fun i a b=>?_;have e1:=h3 i;have e2:=h4 i;rw[dL,dL,dH a,dH b]at e1 e2;simp only[Option.getD_some]at e1 e2;cases h5:L[i]<;>cases h6:M[i]<;>simp_all
theorem isE_any (W:World)(lb n:Nat)(L:List Bool)(s:Int)(h:W.heap[lb]?=some (.cells (L.map Value.bool).toArray 4))(hl:L.length=n)(h0:-9223372036854775808<=s)(h1:s<=9223372036854775807)(hs:s<0->-1-s<n) :
  Calls Tryz.prog 86 #[.int .i64 s,.slice (some ⟨lb,0,none⟩) n n] W fun e W'=>e=.returned (.bool (isK false L s))/\W=W':=by
 by_cases hc:s<0
 ·have i1:=hs hc;have c1:W.cell? ⟨lb,(-1-s).toNat,none⟩=some (.bool (L.getD (-1-s).toNat false)):=by
   rw[cell_of_block h];simp[dL,hl,show(-1-s).toNat<n by omega]
  have hk:isK false L s=L.getD (-1-s).toNat false:=if_pos hc;rw[hk];generalize L.getD (-1-s).toNat false=y at *;have i0:0<=-1-s:=by omega
  clear hk;go_enter Tryz.func86,Tryz.ntmps86;go_wp2;go_ret;exact⟨rfl,rfl⟩
 ·have hk:isK false L s=false:=if_neg hc;rw[hk];go_enter Tryz.func86,Tryz.ntmps86;go_wp2;go_ret;exact⟨rfl,rfl⟩
theorem jy {nt ns:Nat}{p:PD}(h:fP nt ns p=true):0<=p.sort/\p.sort<ns/\p.rs.length<=12/\∀ s∈p.rs,(0<=s/\s<nt)\/(s<0/\-1-s<ns):=by
 unfold fP at h;simp only[Bool.and_eq_true,decide_eq_true_eq,List.all_eq_true]at h;obtain⟨⟨⟨h1,h2⟩,h3⟩,h4⟩:=h;refine⟨h1,h2,h3,fun s hs=>?_⟩;have:=h4 s hs;unfold mQ at this;simpa using this
theorem BX {G:GD}(h:aB G=true):G.prods.all (fP G.terms.length G.sorts.length)=true:=by
 unfold aB at h;simp only[Bool.and_eq_true]at h;exact h.1.1.2
theorem mP {G:GD}(h:aB G=true){k:Nat}(hk:k<G.prods.length):fP G.terms.length G.sorts.length (G.prods.getD k default)=true:=by
 have:=BX h;rw[List.all_eq_true]at this;have:=this _ (List.getElem_mem hk)
 rwa [dL,dH hk]
theorem gm {G:GD}(h:aB G=true):G.terms.length<=60/\G.sorts.length<=60/\G.prods.length<=120:=by
 unfold aB at h;simp only[Bool.and_eq_true,decide_eq_true_eq]at h;obtain⟨⟨⟨⟨⟨h1,h2⟩,h3⟩,_⟩,_⟩,_⟩:=h;exact⟨h1,h2,h3⟩
theorem dR {G:GD}(h:aB G=true):0<=G.start/\G.start<G.sorts.length:=by
 unfold aB at h;simp only[Bool.and_eq_true,decide_eq_true_eq]at h;exact h.2.1.1.1
theorem GSt.keep {W W':World}{lb Bl Bj Bc n:Nat}{L:List Bool}{c:Bool}(h:GSt W lb Bl Bj Bc n L c)(hb:Below W.heap.size W W'):GSt W' lb Bl Bj Bc n L c:=by
 have k:∀ {b:Nat} {o:Obj},W.heap[b]?=some o->W'.heap[b]?=some o:=fun ho=>(hb.block _ (dZ ho)).trans ho;exact⟨k h.list,k h.var,k h.join,k h.chg,h.len,h.ne⟩
theorem Ed {α:Type}(l:List α)(f:α->Bool)(d:α)(k:Nat)(h:k<l.length):(l.take (k+1)).all f=((l.take k).all f && f (l.getD k d)):=by
 rw[List.take_add_one,List.all_append,dL,dH h];simp
theorem lu {l:List Int}{k:Nat}(h:k<l.length):l.getD k 0∈l:=by
 rw[dL,dH h];exact List.getElem_mem _
theorem passE {G:GD}{gv tv ov sv pv:Value}{tf:Nat->Nat->Value}{rv:Nat->Value}{w0 W:World}{Bg Bi Be lb Bl Bj Bc:Nat}{L:List Bool}(hG:nJ w0 gv G tv ov sv pv tf rv)(hV:aB G=true)
  (hbox:w0.cell? ⟨Bg,3,none⟩=some pv) (his:w0.cell? ⟨Bi,0,none⟩=some (.func (.func 86) #[] #[])) (h0:Below w0.heap.size w0 W)
  (hBe:W.heap[Be]?=some (.cells #[.slice (some ⟨lb,0,none⟩) G.sorts.length G.sorts.length] 75)) (hS:GSt W lb Bl Bj Bc G.sorts.length L false) (g1:w0.heap.size<=lb) (g2:w0.heap.size<=Bc) :
  Calls Tryz.prog 116 #[.func (.func 133) #[] #[.pointer (some ⟨Bj,0,none⟩),.pointer (some ⟨Bl,0,none⟩),.pointer (some ⟨Bc,0,none⟩)],.pointer (some ⟨Bg,0,none⟩),.pointer (some ⟨Bi,0,none⟩),.pointer (some ⟨Be,0,none⟩)] W fun e W' =>
   (∃ v,e=.returned v)/\∃ L' c,GSt W' lb Bl Bj Bc G.sorts.length L' c/\Far (fun k=>k=lb\/k=Bc) W W'/\Passed false G.prods L G.prods.length L' c:=by
 have hp:=hG.prods;obtain⟨pa,pc,rfl,hpn,hp⟩:=hp;have HV:=hid hV;have HG:=hid hG;obtain⟨n60,s60,p120⟩:=gm hV;generalize hnp:G.prods.length=np at *;generalize hns:G.sorts.length=ns at *;have HS0:=hid hS;have hb3:=cell_below h0 hbox;have hlen:=hS.len;clear hV;go_enter Tryz.func116,Tryz.ntmps116;go_wp2_with fail
 go_loopw [13] (fun i wr=>∃ (j:Nat) (Lj:List Bool) (c:Bool),j<=np/\i=.int .i64 (j:Int)/\GSt wr lb Bl Bj Bc ns Lj c/\Far (fun k=>k=lb\/k=Bc) W wr/\Passed false G.prods L j Lj c) (fun i _=>np-(RowKit.intOf i).toNat)
 case atStart=>exact⟨0,L,false,by omega,rfl,hS,Far.refl _ _,CZ _ _ _⟩
 case round =>
  clear hS;obtain⟨j,Lj,c,hj,rfl,hS,hF,hP⟩:=hrel;have HP:=hid hP;clear hP;have hbw:Below w0.heap.size w0 wr:=h0.trans (hF.kW h0.size (by rintro k (rfl | rfl)<;>omega));have nB:¬ (Be=lb\/Be=Bc):=by
   have h1:=HS0.o.list;have h2:=HS0.o.chg;rintro(rfl | rfl)
   ·rw[hBe]at h1;simp at h1
   ·rw[hBe]at h2;simp at h2
  have hbe:=hF.heap hBe nB;by_cases hlt:j<np
  ·obtain⟨b,off,rfl,hc⟩:=hp (by omega);obtain⟨d0,d1,d2,d3⟩:=hc j hlt;replace d0:=cell_below hbw d0;replace d1:=cell_below hbw d1;replace d2:=cell_below hbw d2;replace d3:=cell_below hbw d3;obtain⟨v1,v2,v3,v4⟩:=jy (mP HV.o (k:=j) (by omega));rw[hns]at v2 v4;have hR:=(hG.rights j (by omega)).mono hbw;have hst:=C9 HP.o (by omega) (by rw[hlen];omega);clear hc;generalize G.prods.getD j default=P at *;obtain⟨⟨ra,rc,hrv,hrn,hrc⟩,hri⟩:=hR;rw[hrv]at d2;obtain⟨so,hso⟩:∃ so:Nat,P.sort=so:=⟨P.sort.toNat,by omega⟩;rw[hso]at d1;have hto:P.sort.toNat=so:=by omega
   have hstep:gJ false Lj P=Lj.set so (Lj.getD so false || P.rs.all (isK false Lj)):=by unfold gJ;rw[hto]
   rw[hstep,hto]at hst;have HST:=hid hst;have hsz:=hbw.size;have i0:(0:Int)<=(j:Int):=by omega
   have i1:(j:Int)<(np:Int):=by omega
   have hsn:so<ns:=by omega
   generalize hrs:P.rs=rs at *;clear hst hstep hto hrv hso v1 v2 HP;generalize hrl:rs.length=rl at *;have i2:(rl:Int)<=12:=by omega
   obtain⟨w2,hw2⟩:∃ w2,w2=wr.alloc (.cells #[.string P.lab,.int .i64 (so:Int),.slice ra rl rc,.int .i64 P.cls] 71):=⟨_,rfl⟩;have hb2:Below wr.heap.size wr w2:=by rw[hw2];exact(eH _ _).alloc (bJ _) _
   have p1:w2.cell? ⟨wr.heap.size,1,none⟩=some (.int .i64 (so:Int)):=by rw[hw2,World.cell?_alloc_mark];rfl
   have hS2:=hS.keep hb2;have hF2:Far (fun k=>k=lb\/k=Bc) W w2:=hF.trans (Far.kZ hb2);have e0:=cell_below hb2 (cell_below hbw his);have e1:=cell_of_block ((hb2.block _ (dZ hbe)).trans hbe) 0;have km:=hid (fun(x:Bool)=>J3 hS2 so hsn x);have hli:=hid hS2.list;have hll:Lj.length=ns:=hS2.len;go_wp2_with fail;rw[<-hw2];clear hw2
   go_loop [7,20] (fun all i=>∃ q:Nat,q<=rl/\i=.int .i64 (q:Int)/\all=.bool ((rs.take q).all (isK false Lj))) (fun _ i=>rl-(RowKit.intOf i).toNat)
   case atStart=>exact⟨0,by omega,rfl,rfl⟩
   case round =>
    obtain⟨q,hq,rfl,rfl⟩:=hrel;by_cases hql:q<rl
    ·obtain⟨rb,ro,rfl,hcc⟩:=hrc (by omega);have q1:=cell_below hb2 (hcc q hql);have hms:=lu (l:=rs) (k:=q) (by omega);obtain⟨m1,m2⟩:=hri _ hms;have m3:=v4 _ hms;have hat:=hid (Ed rs (isK false Lj) 0 q (by omega));have ki:=hid (isE_any w2 lb ns Lj (rs.getD q 0) hli.o hll m1 m2 (by omega));clear hcc hms m3;generalize rs.getD q 0=s at *;generalize isK false Lj s=z at *;have j0:(0:Int)<=(q:Int):=by omega
     have j1:(q:Int)<(rl:Int):=(by omega);cases hy:(rs.take q).all (isK false Lj)
     ·rw[hy]at hat;go_wp2;exact⟨⟨q+1,by omega,by go_num,by rw[hat.o];rfl⟩,by simp[RowKit.intOf];omega⟩
     ·rw[hy]at hat;go_wp2_with fail;refine ki.o.mono ?_;rintro e w' ⟨rfl,rfl⟩;go_wp2;exact⟨⟨q+1,by omega,by go_num,by rw[hat.o];rfl⟩,by simp[RowKit.intOf];omega⟩
    ·obtain rfl:q=rl:=by omega
     have hfull:rs.take rs.length=rs:=List.take_length;rw[hrl]at hfull;rw[hfull];generalize rs.all (isK false Lj)=x at *;go_wp2_with fail;refine(km.o x).mono ?_;rintro e w3 ⟨⟨v,rfl⟩,hS3,hF3⟩;go_wp2;exact⟨⟨j+1,_,_,by omega,by go_num,hS3,hF2.trans hF3,HST.o⟩,by simp[RowKit.intOf];omega⟩
  ·obtain rfl:j=np:=by omega
   go_wp2
   go_end0
   exact⟨⟨_,rfl⟩,Lj,c,hS,hF,HP.o⟩
def isF:Value->Bool
 | .bool false=>true
 | _=>false
def falses:Option Obj->Nat
 | some (.cells cs _ _)=>cs.toList.countP isF
 | _=>0
theorem qH (L:List Bool)(t:TypeId)(fr:Nat×Nat):falses (some (.cells (L.map Value.bool).toArray t fr))=L.count false:=by
 show(L.map Value.bool).countP isF=_;induction L with
 | nil=>rfl
 | cons b L ih =>
  rw[List.map_cons,List.countP_cons,ih];cases b<;>simp[isF]
theorem Far.on {S T:Nat->Prop}{a b c:World}(h:Far S a b)(k:Far T b c)(hst:∀ i,T i->S i\/a.heap.size<=i):Far S a c:=
 ⟨k.os.trans h.os,k.tape.trans h.tape,k.output.trans h.output,eX h.size k.size,fun i hi hs=>(k.block i (Nat.lt_of_lt_of_le hi h.size) fun ht=>(hst i ht).elim hs (by omega)).trans (h.block i hi hs)⟩
theorem qh {P:Program}{a:Act}{w:World}{Q:Exit->Act->World->Prop}{rest:Code}{l:Nat}(J:Act->World->Prop)(μ:Act->World->Nat)(h0:J a w)
  (pass:∀ a w,J a w->rest.wp P (Exit.jump l (fun a' w'=>J a' w'/\μ a' w'<μ a w) Q) a w):(Code.scope (.seq (.label l) rest)).wp P Q a w:=by
 refine wp_scope_jumps l J μ (rest:=.seq .skip rest) (by simp[findLabel]) (wp_seq (wp_label ?_)) (fun a w h=>wp_seq (wp_skip ?_))
 ·show rest.wp P _ a w;refine Code.wp_mono (fun e a' w' h=>?_) (pass a w h0);cases e<;>first | exact h | exact⟨h.1,h.2.1⟩
 ·exact pass a w h
theorem aK (w:World)(o:Obj):(w.alloc o).heap[w.heap.size]?=some o:=by
 show(w.heap.push o)[w.heap.size]?=_;simp
theorem growE {G:GD}{gv tv ov sv pv:Value}{tf:Nat->Nat->Value}{rv:Nat->Value}{w0 W:World}{Bg Bi Be lb:Nat}(hG:nJ w0 gv G tv ov sv pv tf rv)(hV:aB G=true)
  (hbox:w0.cell? ⟨Bg,3,none⟩=some pv) (his:w0.cell? ⟨Bi,0,none⟩=some (.func (.func 86) #[] #[])) (h0:Below w0.heap.size w0 W)
  (hBe:W.heap[Be]?=some (.cells #[.slice (some ⟨lb,0,none⟩) G.sorts.length G.sorts.length] 75)) (hl:W.heap[lb]?=some (.cells ((List.replicate G.sorts.length false).map Value.bool).toArray 4)) (g1:w0.heap.size<=lb) :
  Calls Tryz.prog 114 #[.slice (some ⟨lb,0,none⟩) G.sorts.length G.sorts.length,.func (.func 115) #[] #[],.func (.func 116) #[] #[.pointer (some ⟨Bg,0,none⟩),.pointer (some ⟨Bi,0,none⟩),.pointer (some ⟨Be,0,none⟩)]] W fun e W' =>
   e=.returned (.slice (some ⟨lb,0,none⟩) G.sorts.length G.sorts.length)/\∃ L,Least false G.prods G.sorts.length L/\W'.heap[lb]?=some (.cells (L.map Value.bool).toArray 4)/\Far (fun k=>k=lb) W W':=by
 have pass:=hid (fun(W:World) (h0:Below w0.heap.size w0 W) hBe {Bl Bj Bc:Nat} {L:List Bool} hS g2=>passE (W:=W) (Bg:=Bg) (Bi:=Bi) (Be:=Be) (lb:=lb) (Bl:=Bl) (Bj:=Bj) (Bc:=Bc) (L:=L) hG hV hbox his h0 hBe hS g1 g2);have hlb:lb<W.heap.size:=(dZ hl);have hw0:=h0.size;clear hbox his hV;generalize hns:G.sorts.length=ns at *;go_enter Tryz.func114,Tryz.ntmps114;go_wp2;obtain⟨W2,hW2⟩:∃ W2,W2=(W.alloc (.cells #[.slice (some ⟨lb,0,none⟩) ns ns] 75)).alloc (.cells #[.func (.func 115) #[] #[]] 184):=⟨_,rfl⟩;have hB2:Below W.heap.size W W2:=by rw[hW2];exact((eH _ _).alloc (bJ _) _).alloc (by simp) _
 have b1:W2.heap[W.heap.size]?=some (.cells #[.slice (some ⟨lb,0,none⟩) ns ns] 75):=by
  rw[hW2];exact(Below.heap_alloc _ _ _ (by simp)).trans (aK W _)
 have b2:W2.heap[W.heap.size+1]?=some (.cells #[.func (.func 115) #[] #[]] 184):=by
  rw[hW2];have:=aK (W.alloc (.cells #[.slice (some ⟨lb,0,none⟩) ns ns] 75)) (.cells #[.func (.func 115) #[] #[]] 184)
  rwa [World.size_alloc]at this
 have b3:=(hB2.block lb hlb).trans hl;have b4:=(hB2.block Be (dZ hBe)).trans hBe;have s2:=hB2.size;rw[<-hW2];clear hW2;have hbl:W.heap.size≠lb:=by omega
 generalize hBl:W.heap.size=Bl at *;refine qh (fun a' w'=>∃ (u7 u8 u9 u10 u11 u12:Value),a'={tmps:=#[.slice (some ⟨lb,0,none⟩) ns ns,.func (.func 115) #[] #[],.func (.func 116) #[] #[.pointer (some ⟨Bg,0,none⟩),.pointer (some ⟨Bi,0,none⟩),.pointer (some ⟨Be,0,none⟩)],.pointer (some ⟨Bl,0,none⟩),.pointer (some ⟨Bl+1,0,none⟩),undef,.slice none 0 0,u7,u8,u9,u10,u11,u12],defers:=[]} /\
   ∃ L,w'.heap[lb]?=some (.cells (L.map Value.bool).toArray 4)/\L.length=ns/\w'.heap[Bl]?=some (.cells #[.slice (some ⟨lb,0,none⟩) ns ns] 75)/\w'.heap[Bl+1]?=some (.cells #[.func (.func 115) #[] #[]] 184) /\
    w'.heap[Be]?=some (.cells #[.slice (some ⟨lb,0,none⟩) ns ns] 75)/\Reach false G.prods (List.replicate ns false) L/\Far (fun k=>k=lb) W w')
  (fun _ w'=>falses w'.heap[lb]?) ?_ ?_
 ·exact⟨_,_,_,_,_,_,rfl,_,b3,by simp,b1,b2,b4,.refl,(Far.kZ (by rw[hBl];exact hB2))⟩
 ·clear b1 b2 b3 b4 s2 hB2 hl hBe;rintro a' w' ⟨u7,u8,u9,u10,u11,u12,rfl,L,b3,hL,b1,b2,b4,hR,hF⟩;have hwb:=h0.trans (hF.kW (by omega) (by rintro k rfl;omega));have hw2:=hwb.size;obtain⟨w1,hw1⟩:∃ w1,w1=w'.alloc (.cells #[.bool false] 4):=⟨_,rfl⟩;have hB1:Below w'.heap.size w' w1:=by rw[hw1];exact(eH _ _).alloc (bJ _) _
  have kp:∀ {b:Nat} {o:Obj},w'.heap[b]?=some o->w1.heap[b]?=some o:=fun ho=>(hB1.block _ (dZ ho)).trans ho;have c4:w1.heap[w'.heap.size]?=some (.cells #[.bool false] 4):=by rw[hw1];exact aK w' _
  have hlt:=(dZ b3);have HP:=hid (pass.o w1 (hwb.trans (hB1.mono hw2)) (kp b4) (Bl:=Bl) (Bj:=Bl+1) (Bc:=w'.heap.size) (L:=L) ⟨kp b3,kp b1,kp b2,c4,hL,by omega⟩ (by omega));have fl:=qH L 4 (0,0);have HB:=hid b3;have HE:=hid (kp b4);have HB1:=hid (kp b3);have HR:=hid hR;have hbl2:=(dZ b1);have hbl3:=(dZ b2);have hbl4:=(dZ b4);have hW1:Far (fun k=>k=lb) W w1:=hF.on (Far.kZ (S:=fun _=>False) hB1) (fun i h=>h.elim);clear hR b1 b2 b3 b4 c4 hB1 hL;go_wp2_with fail;rw[<-hw1];clear hw1;refine HP.o.mono ?_;rintro e w2 ⟨⟨v,rfl⟩,L',c,hS,hFF,hPa⟩;have d1:=cell_of_block hS.chg 0;have d2:=cell_of_block hS.var 0;simp only[List.getElem?_toArray,List.getElem?_cons_zero]at d1 d2;have hF2:Far (fun k=>k=lb) W w2:=hW1.on hFF (by
   rintro i (rfl | rfl)
   ·exact .inl rfl
   ·right;have:=hF.size;omega)
  have nB:¬ (Be=lb\/Be=w'.heap.size):=by
   rintro(h | h)
   ·have h1:=HE.o;have h2:=HB1.o;rw[h,h2]at h1;simp at h1
   ·omega
  have e4:=hFF.heap HE.o nB;cases c
  ·obtain⟨rfl,hcl⟩:=yZ hPa;go_wp2;simp only[Exit.jump];go_ret;exact⟨rfl,_,⟨HR.o,hcl⟩,hS.list,hF2⟩
  ·go_wp2
   go_step3
   refine⟨rfl,⟨_,_,_,_,_,_,rfl,L',hS.list,hS.len,hS.var,hS.join,e4,CW HR.o hPa.1,hF2⟩,?_⟩;rw[hS.list,HB.o,qH,qH];exact hPa.2.2.2.1 rfl
end Go.Proofs.YticmnfmijdgmbaaGreatDoor.aJ
