import Derived.ChangeSame
import Derived.Deep.Slices
import Derived.LaidSub
import Derived.MakeChecks
import Derived.OpenShut
import Derived.Test.YticmnfmijdgmbaaGreatDoorXt
set_option linter.all false
set_option maxRecDepth 100000
set_option maxHeartbeats 8000000
namespace Go.Proofs.YticmnfmijdgmbaaGreatDoor
open Go Go.RowKit Go.Lib Go.WideShapes Go.ChangeShapes Go.Deep
section
variable {H:Type}{enc:TypeId×Value->H}{P:Program}{w:World}{base:Nat}{spare:Nat->Bool}{held:Bool}
theorem Fp {a:Addr}{v:Value}(h:w.cell? (a.add 0)=some v):∃ b off,a=⟨b,off,none⟩:=by
 obtain⟨b,off,spot⟩:=a;have hspot:spot=none:=by simpa[Addr.add] using World.cell?_spot h
 subst hspot;exact⟨b,off,rfl⟩
theorem mY {t e:TypeId}{c fuel:Nat}{v:Value}{x:DataW H×List MemPlace}(ht:P.underlying t=some (.slice e))(hc:P.cellsOf e=c)(h0:0<c)(h:DataW.trod enc P w base spare held fuel t [v]=some x) :
  ∃ (a:Option Addr) (len cap:Nat) (V:Nat->Nat->Value),v=.slice a len cap/\len<=cap/\cap<=maxLen/\(0<len->∃ b off,a=some ⟨b,off,none⟩/\∀ i,i<len->∀ j,j<c->w.cell? ⟨b,off+i*c+j,none⟩=some (V i j)) /\
   (∀ i,i<len->∃ n y,DataW.trod enc P w base spare held n e ((List.range c).map (V i))=some y)/\(a=none->cap=0):=by
 rcases open_slice ht h with⟨hcs,_⟩ | ⟨a,len,cap,m,n,D,Pl,hcs,hb,hl,hm,hmm,_,hx⟩
 ·simp only[List.cons.injEq,and_true]at hcs;exact⟨none,0,0,fun _ _=>undef,hcs,bJ _,Nat.zero_le _,fun h=>absurd h (Nat.lt_irrefl 0),fun i hi=>absurd hi (Nat.not_lt_zero i),fun _=>rfl⟩
 ·simp only[List.cons.injEq,and_true]at hcs;have hlm:len<=m:=by rw[hmm];split<;>omega
  obtain⟨V,hV⟩:=choose_lt (α:=Nat->Value) (n:=len) (p:=fun i f=>(∀ j,j<c->w.cell? ((a.add (i*c)).add j)=some (f j))/\DataW.trod enc P w base spare held n e ((List.range c).map f)=some (D i,Pl i)) (fun i hi=>by
   obtain⟨cs',h1,h2⟩:=hx i (by omega);rw[hc]at h1;obtain⟨_,hlen,hcell⟩:=World.cells?_some h1;refine⟨fun j=>cs'.getD j undef,fun j hj=>?_,?_⟩
   ·show _=some (cs'.getD j undef);rw[hcell j hj,dL,dH (by omega)];rfl
   ·have:(List.range c).map (fun j=>cs'.getD j undef)=cs':=by
     refine List.ext_getElem (by simp[hlen]) fun j h3 h4=>?_;simp[dL,dH h4]
    rw[this];exact h2)
  refine⟨some a,len,cap,V,hcs,hl,hm,fun hlt=>?_,fun i hi=>⟨n,_,(hV i hi).2⟩,fun h=>(by cases h)⟩;have:=(hV 0 hlt).1 0 h0;rw[add_add,Nat.zero_mul,Nat.add_zero]at this;obtain⟨b,off,rfl⟩:=Fp this;refine⟨b,off,rfl,fun i hi j hj=>?_⟩;have:=(hV i hi).1 j hj;rw[add_add,Lib.add_plain,<-Nat.add_assoc]at this;exact this
end
theorem getD_map {α:Type}(f:Nat->α)(n:Nat)(d:α){i:Nat}(h:i<n):((List.range n).map f).getD i d=f i:=by
 simp[dL,h]
section
variable {H:Type}{enc:TypeId×Value->H}{w:World}{base:Nat}{spare:Nat->Bool}{held:Bool}
theorem rD {n:Int}(h:(Lit.int .i64 n).wf=true):-9223372036854775808<=n/\n<=9223372036854775807:=by
 simpa[Lit.wf,IntKind.min,IntKind.max,IntKind.signed,IntKind.bits] using h
theorem Ih {t e:TypeId}{fuel:Nat}{v:Value}{x:DataW H×List MemPlace}(ht:Tryz.prog.underlying t=some (.slice e))(he:Tryz.prog.underlying e=some (.int .i64))(hc:Tryz.prog.cellsOf e=1)(h:DataW.trod enc Tryz.prog w base spare held fuel t [v]=some x) :
  ∃ l a c,v=.slice a l.length c/\l.length<=c/\dw w v l/\(a=none->c=0):=by
 obtain⟨a,len,cap,V,rfl,hl,hm,hat,hel,hnc⟩:=mY ht hc (by omega) h;obtain⟨f,hf⟩:=choose_lt (α:=Int) (n:=len) (p:=fun i z=>V i 0=.int .i64 z/\(Lit.int .i64 z).wf=true) (fun i hi=>by
  obtain⟨n,y,hy⟩:=hel i hi;obtain⟨z,hz,_,hw⟩:=DataW.trod_int he hy;simp only[show(List.range 1).map (V i)=[V i 0]from rfl,List.cons.injEq,and_true]at hz;exact⟨z,hz,hw⟩)
 have hlen:((List.range len).map f).length=len:=by simp
 have hm':cap<=9223372036854775807:=hm;refine⟨(List.range len).map f,a,cap,by rw[hlen],by omega,⟨⟨a,cap,by rw[hlen],by omega,fun h0=>?_⟩,fun x hx=>?_⟩,hnc⟩
 ·rw[hlen]at h0;obtain⟨b,off,rfl,hcell⟩:=hat h0;refine⟨b,off,rfl,fun i hi=>?_⟩;rw[hlen]at hi;have:=hcell i hi 0 (by omega);rw[Nat.mul_one,Nat.add_zero,(hf i hi).1]at this;rw[getD_map f len 0 hi];exact this
 ·obtain⟨i,hi,rfl⟩:=List.mem_map.1 hx;exact rD (hf i (by simpa using hi)).2
theorem A7 {r:Reach}{b0:Nat}{v:Value}{d:DataW H}{ps:List MemPlace}(hval:Value.okWide Tryz.prog w r b0 27 v)(h:DataW.Trod enc Tryz.prog w base spare held 27 v d ps) :
  ∃ G tv ov sv pv tf rv,nJ w v G tv ov sv pv tf rv/\-9223372036854775808<=G.start/\G.start<=9223372036854775807 /\
   (∀ p∈G.prods,(-9223372036854775808<=p.sort/\p.sort<=9223372036854775807))/\∀ n c,pv=.slice none n c->c=0:=by
 obtain⟨cs,rfl,hsz⟩:=okWide_struct Tryz.underlying27 hval;obtain⟨l⟩:=cs;have hC:Tryz.prog.cellsOf 27=5:=by kernel_rfl
 match l,hsz.trans hC with
 | [tv,ov,sv,pv,st],_ =>
  obtain⟨fuel,hf⟩:=h;obtain⟨xs,n,_,hx,_,hlen,hg⟩:=DataW.trod_struct Tryz.underlying27 hf
  match xs,hlen with
  | [y0,y1,y2,y3,y4],_ =>
   have k0:DataW.trod enc Tryz.prog w base spare held n 22 [tv]=some y0:=hg 0 _ rfl;have k1:DataW.trod enc Tryz.prog w base spare held n 23 [ov]=some y1:=hg 1 _ rfl;have k2:DataW.trod enc Tryz.prog w base spare held n 24 [sv]=some y2:=hg 2 _ rfl;have k3:DataW.trod enc Tryz.prog w base spare held n 25 [pv]=some y3:=hg 3 _ rfl;have k4:DataW.trod enc Tryz.prog w base spare held n 3 [st]=some y4:=hg 4 _ rfl;obtain⟨start,hst,_,hsw⟩:=DataW.trod_int Tryz.underlying3 k4;simp only[List.cons.injEq,and_true]at hst;subst hst;obtain⟨ta,tl,tc,TV,rfl,htl,htm,hta,hte,_⟩:=mY Tryz.underlying22 (by kernel_rfl:Tryz.prog.cellsOf 105=4) (by omega) k0;obtain⟨oa,ol,oc,OV,rfl,hol,hom,hoa,hoe,_⟩:=mY Tryz.underlying23 (by kernel_rfl:Tryz.prog.cellsOf 94=2) (by omega) k1;obtain⟨sa,sl,sc,SV,rfl,hsl,hsm,hsa,hse,_⟩:=mY Tryz.underlying24 (by kernel_rfl:Tryz.prog.cellsOf 9=1) (by omega) k2;obtain⟨pa,pl,pc,PV,rfl,hpl,hpm,hpa,hpe,hpz⟩:=mY Tryz.underlying25 (by kernel_rfl:Tryz.prog.cellsOf 71=4) (by omega) k3;have htm':tc<=9223372036854775807:=htm;have hom':oc<=9223372036854775807:=hom;have hsm':sc<=9223372036854775807:=hsm;have hpm':pc<=9223372036854775807:=hpm;obtain⟨tn,htn⟩:=choose_lt (α:=ByteArray) (n:=tl) (p:=fun i s=>TV i 0=.string s) (fun i hi=>by
    obtain⟨n,y,hy⟩:=hte i hi;obtain⟨xs,n',_,_,_,hl,hg⟩:=DataW.trod_struct Tryz.underlying105 hy;have hl':xs.length=4:=hl;have k:DataW.trod enc Tryz.prog w base spare held n' 9 [TV i 0]=xs[0]?:=hg 0 _ rfl;rw[dH (by omega)]at k;obtain⟨s,hs,_⟩:=DataW.trod_string Tryz.underlying9 k;simp only[List.cons.injEq,and_true]at hs;exact⟨s,hs⟩)
   obtain⟨sn,hsn⟩:=choose_lt (α:=ByteArray) (n:=sl) (p:=fun i s=>SV i 0=.string s) (fun i hi=>by
    obtain⟨n,y,hy⟩:=hse i hi;obtain⟨s,hs,_⟩:=DataW.trod_string Tryz.underlying9 hy;simp only[show(List.range 1).map (SV i)=[SV i 0]from rfl,List.cons.injEq,and_true]at hs;exact⟨s,hs⟩)
   obtain⟨on,hon⟩:=choose_lt (α:=Int×Int) (n:=ol) (p:=fun i q=>OV i 0=.int .i64 q.1/\OV i 1=.int .i64 q.2) (fun i hi=>by
    obtain⟨n,y,hy⟩:=hoe i hi;obtain⟨xs,n',_,_,_,hl,hg⟩:=DataW.trod_array Tryz.underlying94 hy;have g0:DataW.trod enc Tryz.prog w base spare held n' 3 [OV i 0]=xs[0]?:=hg 0 (by omega);have g1:DataW.trod enc Tryz.prog w base spare held n' 3 [OV i 1]=xs[1]?:=hg 1 (by omega);rw[dH (by omega)]at g0 g1;obtain⟨z0,hz0,_⟩:=DataW.trod_int Tryz.underlying3 g0;obtain⟨z1,hz1,_⟩:=DataW.trod_int Tryz.underlying3 g1;simp only[List.cons.injEq,and_true]at hz0 hz1;exact⟨(z0,z1),hz0,hz1⟩)
   obtain⟨pn,hpn⟩:=choose_lt (α:=PD) (n:=pl) (p:=fun i q=>PV i 0=.string q.lab/\PV i 1=.int .i64 q.sort/\(Lit.int .i64 q.sort).wf=true/\PV i 3=.int .i64 q.cls/\dw w (PV i 2) q.rs/\∃ a c,PV i 2=.slice a q.rs.length c/\q.rs.length<=c) (fun i hi=>by
    obtain⟨n,y,hy⟩:=hpe i hi;obtain⟨xs,n',_,_,_,hl,hg⟩:=DataW.trod_struct Tryz.underlying71 hy;have hl':xs.length=4:=hl;have g0:DataW.trod enc Tryz.prog w base spare held n' 9 [PV i 0]=xs[0]?:=hg 0 _ rfl;have g1:DataW.trod enc Tryz.prog w base spare held n' 3 [PV i 1]=xs[1]?:=hg 1 _ rfl;have g2:DataW.trod enc Tryz.prog w base spare held n' 64 [PV i 2]=xs[2]?:=hg 2 _ rfl;have g3:DataW.trod enc Tryz.prog w base spare held n' 3 [PV i 3]=xs[3]?:=hg 3 _ rfl;rw[dH (by omega)]at g0 g1 g2 g3;obtain⟨s,hs,_⟩:=DataW.trod_string Tryz.underlying9 g0;obtain⟨z1,hz1,_,hw1⟩:=DataW.trod_int Tryz.underlying3 g1;obtain⟨rs,a,c,hr1,hr2,hr3,_⟩:=Ih Tryz.underlying64 Tryz.underlying61 (by kernel_rfl) g2;obtain⟨z3,hz3,_⟩:=DataW.trod_int Tryz.underlying3 g3;simp only[List.cons.injEq,and_true]at hs hz1 hz3;exact⟨⟨s,z1,rs,z3⟩,hs,hz1,hw1,hz3,hr3,a,c,hr1,hr2⟩)
   refine⟨⟨(List.range tl).map tn,(List.range ol).map on,(List.range sl).map sn,(List.range pl).map pn,start⟩,_,_,_,_,TV,fun i=>PV i 2,⟨rfl,?_,?_,?_,?_,?_,?_⟩,(rD hsw).1,(rD hsw).2,?_,?_⟩
   ·refine⟨ta,tc,by simp,by simp;omega,fun h0=>?_⟩;simp only[List.length_map,List.length_range]at h0;obtain⟨b,off,rfl,hcell⟩:=hta h0;refine⟨b,off,rfl,fun i hi=>?_⟩;simp only[List.length_map,List.length_range]at hi;rw[getD_map tn tl _ hi,<-htn i hi];exact⟨hcell i hi 0 (by omega),hcell i hi 1 (by omega),hcell i hi 2 (by omega),hcell i hi 3 (by omega)⟩
   ·refine⟨oa,oc,by simp,by simp;omega,fun h0=>?_⟩;simp only[List.length_map,List.length_range]at h0;obtain⟨b,off,rfl,hcell⟩:=hoa h0;refine⟨b,off,rfl,fun i hi=>?_⟩;simp only[List.length_map,List.length_range]at hi;rw[getD_map on ol _ hi,<-(hon i hi).1,<-(hon i hi).2];exact⟨hcell i hi 0 (by omega),hcell i hi 1 (by omega)⟩
   ·refine⟨sa,sc,by simp,by simp;omega,fun h0=>?_⟩;simp only[List.length_map,List.length_range]at h0;obtain⟨b,off,rfl,hcell⟩:=hsa h0;refine⟨b,off,rfl,fun i hi=>?_⟩;simp only[List.length_map,List.length_range]at hi;rw[getD_map sn sl _ hi,<-hsn i hi];have:=hcell i hi 0 (by omega)
    rwa [Nat.mul_one]at this
   ·refine⟨pa,pc,by simp,by simp;omega,fun h0=>?_⟩;simp only[List.length_map,List.length_range]at h0;obtain⟨b,off,rfl,hcell⟩:=hpa h0;refine⟨b,off,rfl,fun i hi=>?_⟩;simp only[List.length_map,List.length_range]at hi;rw[getD_map pn pl _ hi];obtain⟨h1,h2,_,h3,_⟩:=hpn i hi;rw[<-h1,<-h2,<-h3];exact⟨hcell i hi 0 (by omega),hcell i hi 1 (by omega),hcell i hi 2 (by omega),hcell i hi 3 (by omega)⟩
   ·intro i hi;simp only[List.length_map,List.length_range]at hi;show dw w _ (((List.range pl).map pn).getD i default).rs;rw[getD_map pn pl _ hi];exact(hpn i hi).2.2.2.2.1
   ·intro i hi a n c e;simp only[List.length_map,List.length_range]at hi;obtain⟨a',c',h1,h2⟩:=(hpn i hi).2.2.2.2.2;rw[h1]at e;cases e;exact h2
   ·intro p hp;obtain⟨i,hi,rfl⟩:=List.mem_map.1 hp;exact rD (hpn i (by simpa using hi)).2.2.1
   ·intro n c e;cases e;exact hpz rfl
end
end Go.Proofs.YticmnfmijdgmbaaGreatDoor
/- Items that are handed in; the table of powers of ten, as a row lists it. -/
namespace Go.Proofs.YticmnfmijdgmbaaGreatDoor
open Go Go.RowKit Go.Lib Go.WideShapes Go.ChangeShapes Go.Deep
open aO (It)
theorem Ci {W:World}{L:List (String×DataW Unit)}(hL:laidMetH Tryz.prog L W)(hf:(L.filter fun x=>x.1 == "internal/strconv.uint64pow10")=[("internal/strconv.uint64pow10",Lib.tabData .u64 Lib.pow10Tab)]):Tab W.heap.size W:=by
 have h:=hL.filter fun x=>x.1 == "internal/strconv.uint64pow10";rw[hf,MakeChecks.laidMetH_plain _ _ _ (by kernel_rfl)]at h;exact Lib.tabBelow_of_tabIs (Lib.tabIs_of_head (g:=0) (t:=226) (e:=68) (n:=20) (by kernel_rfl) (by kernel_rfl) Tryz.underlying226 Tryz.underlying68 (by kernel_rfl) (by kernel_rfl) h)
section
variable {H:Type}{enc:TypeId×Value->H}{w:World}{base:Nat}{spare:Nat->Bool}{held:Bool}
end
end Go.Proofs.YticmnfmijdgmbaaGreatDoor
/- Little; where a state goes, and what stands behind a symbol. -/
namespace Go.Proofs.YticmnfmijdgmbaaGreatDoor
open Go Go.RowKit Go.Lib
open aO (It fD aP pK aX aY cO ag aN)
theorem Ie {G:GD}{s:Int}{p:Nat}(h:ig G s=some p):(cO G)[p]?=some s:=by
 unfold ig at h;split at h
 ·split at h
  ·obtain rfl:s.toNat=p:=Option.some.inj h;rw[aO.qR (by omega)];congr 1;omega
  ·cases h
 ·split at h
  ·obtain rfl:G.terms.length+(-1-s).toNat=p:=Option.some.inj h;rw[aO.qU (by omega)];congr 1;omega
  ·cases h
def LittleP (w:World)(e:Ending)(w':World):Prop:=∃ b,e=.returned (.bool b)/\Below w.heap.size w w'
theorem FO {G:GD}{gv:Value}{w:World}(h:fZ w gv G):Calls Tryz.prog 16 #[gv] w (LittleP w):=by
 have HGr:=hid h;obtain⟨tv,ov,sv,pv,tf,rv,h⟩:=h;have hgv:=h.eq;subst hgv;have HRI:=hid h.rights;obtain⟨pa,pc,rfl,hpn,hpc⟩:=h.prods;obtain⟨np,hnp⟩:=ai (G.prods.length);have HNP:=hid hnp;have HPC:=hid hpc;rw[hnp]at HGr hpn ⊢;obtain⟨W1,e1⟩:=ai (w.alloc (.cells #[tv,ov,sv,.slice pa np pc,.int .i64 G.start] 27));have hb1:Below w.heap.size w W1:=dM e1;have n1:W1.heap[w.heap.size]?=some (.cells #[tv,ov,sv,.slice pa np pc,.int .i64 G.start] 27 (0,0)):=dO e1;have HB1:=hid hb1;have HN1:=hid n1;obtain⟨tv',ov',sv',pv',tf',rv',hg1⟩:=HGr.o.below hb1;obtain⟨fw,hfw⟩:=ai (decide (fewG G));have KF:=few_any hg1;rw[hfw]at KF;have KF:=hid KF;obtain⟨c0,c1,c2,c3,c4⟩:=cells5 n1;clear h hb1 n1 hg1 hnp hpc hfw;go_enter Tryz.func16,Tryz.ntmps16;go_wp2_with fail;refine KF.o.mono ?_;rintro e w2 ⟨rfl,hb2⟩;have HB2:=fJ HB1 hb2;have HN2:=hid ((hb2.block _ (dZ HN1.o)).trans HN1.o);have c3:ay w2 w.heap.size 3 (.slice pa np pc):=ak HN2.o 3;clear hb2 KF e1 c0 c1 c2 c4;go_wp2_with fail
 go_loopw [4] (fun t4 wr=>∃ k:Nat,k<=np/\t4=.int .i64 (k:Int)/\wr=w2) (fun t4 _=>np-(RowKit.intOf t4).toNat)
 case atStart=>exact⟨0,Nat.zero_le _,rfl,by first | trivial | rfl⟩
 case round =>
  obtain⟨k,hk,rfl,hww⟩:=hrel;subst hww;by_cases hlt:k<np
  ·have t1:(k:Int)<(np:Int):=by omega
   have t2:(0:Int)<=(k:Int):=by omega
   by_cases h15:k<15
   ·have t3:(k:Int)<15:=(by omega);obtain⟨pb,po,rfl,hpq⟩:=HPC.o (by rw[HNP.o];omega);have q2:=cell_below HB2.o (hpq k (by rw[HNP.o];exact hlt)).2.2.1;obtain⟨⟨ra,rc,hrv,_⟩,_⟩:=HRI.o k (by rw[HNP.o];exact hlt);rw[hrv]at q2;generalize (G.prods.getD k default).rs.length=rl at *;clear hpq hrv;by_cases h5:5<rl
    ·have t4:(5:Int)<(rl:Int):=(by omega);go_wp2_with fail;go_ret;exact⟨_,rfl,HB2.o⟩
    ·have t4:¬ (5:Int)<(rl:Int):=(by omega);go_wp2_with fail;refine⟨⟨k+1,by omega,rfl,by first | trivial | rfl⟩,?_⟩;show np-((k:Int)+1).toNat<np-((k:Int)).toNat;omega
   ·have t3:¬ (k:Int)<15:=(by omega);have t5:¬ (np:Int)<=10:=(by omega);cases fw
    ·go_wp2_with fail;go_ret;exact⟨_,rfl,HB2.o⟩
    ·go_wp2_with fail;go_ret;exact⟨_,rfl,HB2.o⟩
  ·have t1:¬ (k:Int)<(np:Int):=by omega
   cases fw
   ·go_wp2_with fail;go_ret;exact⟨_,rfl,HB2.o⟩
   ·by_cases h10:np<=10
    ·have t5:(np:Int)<=10:=(by omega);go_wp2_with fail;go_ret;exact⟨_,rfl,HB2.o⟩
    ·have t5:¬ (np:Int)<=10:=(by omega);go_wp2_with fail;go_ret;exact⟨_,rfl,HB2.o⟩
end Go.Proofs.YticmnfmijdgmbaaGreatDoor
/- What All answers, for a law; the walk of LookBegins. -/
namespace Go.Proofs.YticmnfmijdgmbaaGreatDoor
open Go Go.RowKit Go.Lib
open aO (It exG aP ag aN dn ax aY bg)
open aJ (u64 aZ top E0 F0 fM gu)
open aJ.cZ (Pl dm dJ places bi)
theorem D8 {G:GD}{n:Nat}(h:aN G n):n<=2000:=by
 have:=h.1.le;rw[h.inv.2.2]at this;exact this
abbrev uv (n:Nat):Value:=.int .u64 (n:Int)
def MR (w:World)(lb lf n:Nat)(C:Nat->List It)(A:Pl->Nat):Prop:=∀ i,i<n->∃ io ic ao ac,w.cell? ⟨lb,lf+i*2,none⟩=some (.slice io (C i).length ic)/\w.cell? ⟨lb,lf+i*2+1,none⟩=some (.slice ao (C i).length ac) /\
 aS w (.slice io (C i).length ic) (C i)/\yK w (.slice ao (C i).length ac) ((C i).map fun x=>A (i,x))/\∀ k x,(C i)[k]?=some x->∃ ib jf ab af,io=some ⟨ib,jf,none⟩/\w.cell? ⟨ib,jf+k*2,none⟩=some (.int .i64 x.1)/\w.cell? ⟨ib,jf+k*2+1,none⟩=some (.int .i64 x.2)/\ao=some ⟨ab,af,none⟩/\w.cell? ⟨ab,af+k,none⟩=some (u64 (A (i,x)))
theorem MR.below {w w':World}{lb lf n:Nat}{C:Nat->List It}{A:Pl->Nat}(h:MR w lb lf n C A)(hb:Below w.heap.size w w'):MR w' lb lf n C A:=fun i hi=>by
 obtain⟨io,ic,ao,ac,h1,h2,h3,h4,h5⟩:=h i hi;refine⟨io,ic,ao,ac,cell_below hb h1,cell_below hb h2,h3.below hb,h4.below hb,fun k x hk=>?_⟩;obtain⟨ib,jf,ab,af,e1,e2,e3,e4,e5⟩:=h5 k x hk;exact⟨ib,jf,ab,af,e1,cell_below hb e2,cell_below hb e3,e4,cell_below hb e5⟩
end Go.Proofs.YticmnfmijdgmbaaGreatDoor
/- The document's Go. -/
namespace Go.Proofs.YticmnfmijdgmbaaGreatDoor
open Go Go.RowKit Go.Lib
theorem xu {G:GD}{gv av:Value}{w:World}{ker:List (List aO.It)}{nx:List (List Int)}(h:fZ w gv G)(ha:jY w av ker nx)(hok:rO G nx)(at_ s:Int)(s0:-9223372036854775808<=s)(s1:s<=9223372036854775807) :
  Calls Tryz.prog 77 #[gv,av,.int .i64 at_,.int .i64 s] w fun e w'=>e=.returned (.int .i64 (ng G nx at_ s))/\Below w.heap.size w w':=by
 obtain⟨tv,ov,sv,pv,tf,rv,h⟩:=h;have hgv:=h.eq;subst hgv;obtain⟨gY,tc,rfl,htn,_⟩:=h.terms;obtain⟨kv,nv,rfl,hkv,hnv⟩:=ha;obtain⟨no,nc,rfl,hnn⟩:=hnv.len;obtain⟨W1,e1⟩:=ai (w.alloc (.cells #[.slice gY G.terms.length tc,ov,sv,pv,.int .i64 G.start] 27));have hb1:Below w.heap.size w W1:=dM e1;have n1:W1.heap[w.heap.size]?=some (.cells #[.slice gY G.terms.length tc,ov,sv,pv,.int .i64 G.start] 27 (0,0)):=dO e1;obtain⟨W2,e2⟩:=ai (W1.alloc (.cells #[kv,.slice no nx.length nc] 38));have hb2:Below W1.heap.size W1 W2:=dM e2;have n2:W2.heap[W1.heap.size]?=some (.cells #[kv,.slice no nx.length nc] 38 (0,0)):=dO e2;have hbw:=hb1.trans (hb2.mono hb1.size);have n1':=(hb2.block _ (dZ n1)).trans n1;have c0:ay W2 w.heap.size 0 (.slice gY G.terms.length tc):=ak n1' 0;have d1:ay W2 W1.heap.size 1 (.slice no nx.length nc):=ak n2 1;have HBW:=hid hbw;have HNV:=hid (hnv.below (q:=fun i u=>dw W2 u (nx.getD i [])) hbw fun i u hu=>hu.mono hbw);have HOK:=hid hok;obtain⟨r,hr⟩:=ai (ng G nx at_ s);have HR:=hid hr;rw[hr];obtain⟨nt,hnt⟩:=ai (G.terms.length);obtain⟨ns,hns⟩:=ai (G.sorts.length);obtain⟨n,hn⟩:=ai (nx.length);have HN:=hid hn;have HLEN:=hid (show ∀ R∈nx,R.length=nt+ns/\∀ v∈R,v=-1\/(0<=v/\v<(n:Int))from by rw[<-hnt,<-hns,<-hn];exact hok);have hPX:ig G s=if 0<=s then(if s<(nt:Int)then some s.toNat else none)else(if -1-s<(ns:Int)then some (nt+(-1-s).toNat)else none):=by unfold ig;rw[hnt,hns]
 have HPX:=hid hPX;rw[hnt]at e1 htn ⊢;rw[hn]at e2 d1 ⊢;rw[hnt]at c0;clear h hkv hnv hok hb1 hb2 n1 n2 n1' hbw hr hnt hns hn hPX;by_cases hat:0<=at_/\at_<(n:Int)
 case neg =>
  obtain rfl:-1=r:=by rw[<-HR.o,wY (by rw[HN.o];exact hat)]
  by_cases hs:s<0
  ·have y0:decide (s<0)=true:=eP hs;obtain⟨t,hst⟩:∃ t:Nat,-1-s=(t:Int):=⟨(-1-s).toNat,by omega⟩;have hws:IntKind.i64.wrap (-1-s)=(t:Int):=by rw[wrap_small (by omega) (by omega),hst]
   obtain⟨kk,hkk⟩:=ai (IntKind.i64.wrap ((nt:Int)+(t:Int)));by_cases ha0:at_<0
   ·have z0:decide (at_<0)=true:=eP ha0;clear hat;go_enter Tryz.func77,Tryz.ntmps77;go_wp2_with fail;go_ret;exact⟨rfl,HBW.o⟩
   ·have z0:decide (at_<0)=false:=dA ha0;have z1:(n:Int)<=at_:=(by omega);clear hat;go_enter Tryz.func77,Tryz.ntmps77;go_wp2_with fail;go_ret;exact⟨rfl,HBW.o⟩
  ·have y0:decide (s<0)=false:=dA hs;by_cases ha0:at_<0
   ·have z0:decide (at_<0)=true:=eP ha0;clear hat;go_enter Tryz.func77,Tryz.ntmps77;go_wp2_with fail;go_ret;exact⟨rfl,HBW.o⟩
   ·have z0:decide (at_<0)=false:=dA ha0;have z1:(n:Int)<=at_:=(by omega);clear hat;go_enter Tryz.func77,Tryz.ntmps77;go_wp2_with fail;go_ret;exact⟨rfl,HBW.o⟩
 obtain⟨i,rfl⟩:∃ i:Nat,at_=(i:Int):=⟨at_.toNat,by omega⟩;have hin:i<n:=by omega
 have z0:decide ((i:Int)<0)=false:=dA (by omega);have z1:decide (n<=i)=false:=dA (by omega);have z2:¬ (n:Int)<=(i:Int):=by omega
 have i0:(0:Int)<=(i:Int):=by omega
 have i1:(i:Int)<(n:Int):=by omega
 clear hat;obtain⟨R,hRx⟩:∃ R,nx[i]?=some R:=⟨_,dH (by rw[HN.o];exact hin)⟩;have HRX:=hid hRx;obtain⟨hRl,hRv⟩:=HLEN.o R (List.mem_of_getElem? hRx);have hnv2:=HNV.o;obtain⟨nb,noff,u,rfl,u1,u2⟩:=hnv2.at_ (k:=i) (by rw[HN.o];exact hin);rw[aO.getD_get hRx]at u2;obtain⟨⟨ro,rc,rfl,hrn,hrq⟩,_⟩:=u2;obtain⟨rl,hrl⟩:=ai (R.length);have HRL:=hid hrl;rw[hrl]at u1 hrn hRl hrq;clear hnv2 hRx hrl hRv;by_cases hs:s<0
 ·have y0:decide (s<0)=true:=eP hs;obtain⟨t,hst⟩:∃ t:Nat,-1-s=(t:Int):=⟨(-1-s).toNat,by omega⟩;have hws:IntKind.i64.wrap (-1-s)=(t:Int):=by rw[wrap_small (by omega) (by omega),hst]
  by_cases hq:t<ns
  ·have HPL:=hid (show ig G s=some (nt+t)from by rw[HPX.o,if_neg (by omega),if_pos (by omega),hst,Int.toNat_natCast]);obtain⟨v,hv⟩:∃ v,R[nt+t]?=some v:=⟨_,dH (by rw[HRL.o];omega)⟩;obtain rfl:v=r:=by rw[<-HR.o,qG HPL.o HRX.o hv]
   obtain⟨rb,roff,rfl,hrq2⟩:=hrq (by omega);have u3:=hrq2 (nt+t) (by omega);dsimp only at u3;rw[aO.getD_get hv]at u3;have hww:IntKind.i64.wrap ((nt:Int)+(t:Int))=(nt:Int)+(t:Int):=wrap_small (by omega) (by omega);have k0:¬ ((nt:Int)+(t:Int))<0:=by omega
   have k1:¬ (rl:Int)<=((nt:Int)+(t:Int)):=by omega
   have k2:decide ((rl:Int)<=((nt:Int)+(t:Int)))=false:=dA k1;have k3:((nt:Int)+(t:Int))<(rl:Int):=by omega
   have k4:(0:Int)<=((nt:Int)+(t:Int)):=by omega
   have k6:(((nt:Int)+(t:Int))).toNat=nt+t:=by omega
   have k5:decide (rl<=nt+t)=false:=dA (by omega);have k7:¬ (nt:Int)<=s:=by omega
   have k8:decide ((nt:Int)<=s)=false:=dA k7;have k9:decide (((nt:Int)+(t:Int))<0)=false:=dA k0;clear hrq hrq2 hv hq hst;go_enter Tryz.func77,Tryz.ntmps77;go_wp2_with fail;go_ret;exact⟨rfl,HBW.o⟩
  ·have HPL:=hid (show ig G s=none from by rw[HPX.o,if_neg (by omega),if_neg (by omega)]);obtain rfl:-1=r:=by rw[<-HR.o,qF HPL.o]
   obtain⟨kk,hkk⟩:=ai (IntKind.i64.wrap ((nt:Int)+(t:Int)));have hkc:kk<0\/(¬ kk<0/\(rl:Int)<=kk):=by
    by_cases ho:(nt:Int)+(t:Int)<=9223372036854775807
    ·rw[wrap_small (by omega) ho]at hkk;exact .inr ⟨by omega,by omega⟩
    ·refine .inl ?_;rw[<-hkk];have hb:IntKind.i64.wrap ((nt:Int)+(t:Int))=(nt:Int)+(t:Int)-18446744073709551616:=by
      unfold IntKind.wrap;simp[IntKind.signed,IntKind.bits];omega
     rw[hb];omega
   rcases hkc with hk | ⟨hk,hk2⟩
   ·have k1:decide (kk<0)=true:=eP hk;clear hq hst hrq;go_enter Tryz.func77,Tryz.ntmps77;go_wp2_with fail;go_ret;exact⟨rfl,HBW.o⟩
   ·have k1:decide (kk<0)=false:=dA hk;have k2:decide ((rl:Int)<=kk)=true:=eP hk2;clear hq hst hrq;go_enter Tryz.func77,Tryz.ntmps77;go_wp2_with fail;go_ret;exact⟨rfl,HBW.o⟩
 ·obtain⟨t,rfl⟩:∃ t:Nat,s=(t:Int):=⟨s.toNat,by omega⟩;have y0:¬ (t:Int)<0:=hs;have y1:decide ((t:Int)<0)=false:=dA hs;by_cases hq:t<nt
  ·have HPL:=hid (show ig G (t:Int)=some t from by rw[HPX.o,if_pos (by omega),if_pos (by omega),Int.toNat_natCast]);obtain⟨v,hv⟩:∃ v,R[t]?=some v:=⟨_,dH (by rw[HRL.o];omega)⟩;obtain rfl:v=r:=by rw[<-HR.o,qG HPL.o HRX.o hv]
   obtain⟨rb,roff,rfl,hrq2⟩:=hrq (by omega);have u3:=hrq2 t (by omega);dsimp only at u3;rw[aO.getD_get hv]at u3;have k1:¬ (rl:Int)<=(t:Int):=by omega
   have k2:decide (rl<=t)=false:=dA (by omega);have k3:(t:Int)<(rl:Int):=by omega
   have k4:(0:Int)<=(t:Int):=by omega
   have k7:¬ (nt:Int)<=(t:Int):=by omega
   have k8:decide (nt<=t)=false:=dA (by omega);clear hrq hrq2 hv hq;go_enter Tryz.func77,Tryz.ntmps77;go_wp2_with fail;go_ret;exact⟨rfl,HBW.o⟩
  ·have HPL:=hid (show ig G (t:Int)=none from by rw[HPX.o,if_pos (by omega),if_neg (by omega)]);obtain rfl:-1=r:=by rw[<-HR.o,qF HPL.o]
   by_cases hq2:rl<=t
   ·have k1:(rl:Int)<=(t:Int):=(by omega);have k2:decide (rl<=t)=true:=eP (by omega);clear hq hrq;go_enter Tryz.func77,Tryz.ntmps77;go_wp2_with fail;go_ret;exact⟨rfl,HBW.o⟩
   ·have k1:¬ (rl:Int)<=(t:Int):=(by omega);have k2:decide (rl<=t)=false:=dA (by omega);have k7:(nt:Int)<=(t:Int):=(by omega);have k8:decide (nt<=t)=true:=eP (by omega);clear hq hrq;go_enter Tryz.func77,Tryz.ntmps77;go_wp2_with fail;go_ret;exact⟨rfl,HBW.o⟩
end Go.Proofs.YticmnfmijdgmbaaGreatDoor
/- Plain mathematics: rounds enough come to what is closed. -/
namespace Go.Proofs.YticmnfmijdgmbaaGreatDoor.aJ
abbrev cf (l:List Bool):Nat:=l.count false
section
variable {σ:Type}{Inv:σ->Prop}{pat:σ->List Bool}{us:List (σ->σ)}
structure jL (Inv:σ->Prop) (pat:σ->List Bool) (us:List (σ->σ)):Prop where
 keep:∀ u∈us,∀ L,Inv L->Inv (u L)
 same:∀ u∈us,∀ L L',Inv L->Inv L'->pat L=pat L'->pat (u L)=pat (u L')
 less:∀ u∈us,∀ L,Inv L->pat (u L)=pat L\/cf (pat (u L))<cf (pat L)
def fK (us:List (σ->σ))(L:σ):σ:=us.foldl (fun L u=>u L) L
theorem jL.tail {u:σ->σ}(h:jL Inv pat (u::us)):jL Inv pat us:=
 ⟨fun v hv=>h.keep v (List.mem_cons_of_mem _ hv),fun v hv=>h.same v (List.mem_cons_of_mem _ hv),fun v hv=>h.less v (List.mem_cons_of_mem _ hv)⟩
theorem jL.inv:∀ {us:List (σ->σ)},jL Inv pat us->∀ L,Inv L->Inv (fK us L)
 | [],_,_,hL=>hL
 | u::us,h,L,hL=>jL.inv (us:=us) h.tail (u L) (h.keep u List.mem_cons_self L hL)
theorem jL.round:∀ {us:List (σ->σ)},jL Inv pat us->∀ L,Inv L->(pat (fK us L)=pat L/\∀ u∈us,pat (u L)=pat L)\/cf (pat (fK us L))<cf (pat L)
 | [],_,L,_=>.inl ⟨rfl,fun _ h=>absurd h (by simp)⟩
 | u::us,h,L,hL=>by
  have hu:=h.keep u List.mem_cons_self L hL;have ih:=jL.round (us:=us) h.tail (u L) hu;rcases h.less u List.mem_cons_self L hL with h1 | h1
  ·rcases ih with⟨h2,h3⟩ | h2
   ·left;refine⟨h2.trans h1,fun v hv=>?_⟩;rcases List.mem_cons.1 hv with rfl | hv
    ·exact h1
    ·rw[<-h.same v (List.mem_cons_of_mem _ hv) (u L) L hu hL h1,h3 v hv,h1]
   ·right;rw[h1]at h2;exact h2
  ·right;rcases ih with⟨h2,_⟩ | h2
   ·show cf (pat (fK us (u L)))<_;rw[h2];exact h1
   ·exact Nat.lt_trans h2 h1
theorem jL.still (h:jL Inv pat us){L:σ}(hL:Inv L)(hc:∀ u∈us,pat (u L)=pat L):∀ u∈us,pat (u (fK us L))=pat (fK us L):=by
 have hr:pat (fK us L)=pat L:=by
  rcases h.round L hL with⟨h1,_⟩ | h1
  ·exact h1
  ·exfalso;have:∀ (vs:List (σ->σ)),jL Inv pat vs->∀ M,Inv M->pat M=pat L->(∀ u∈vs,pat (u L)=pat L)->pat (fK vs M)=pat L:=by
    intro vs;induction vs with
    | nil=>exact fun _ M _ hM _=>hM
    | cons v vs ih =>
     intro ht M hI hM hcv;exact ih ht.tail (v M) (ht.keep v List.mem_cons_self M hI) ((ht.same v List.mem_cons_self M L hI hL hM).trans (hcv v List.mem_cons_self)) (fun u hu=>hcv u (List.mem_cons_of_mem _ hu))
   rw[this us h L hL rfl hc]at h1;exact Nat.lt_irrefl _ h1
 intro u hu;rw[h.same u hu _ L (h.inv L hL) hL hr,hc u hu,hr]
def dU (us:List (σ->σ)):Nat->σ->σ
 | 0,L=>L
 | n+1,L=>fK us (dU us n L)
theorem jL.invs (h:jL Inv pat us){L:σ}(hL:Inv L):∀ n,Inv (dU us n L)
 | 0=>hL
 | n+1=>h.inv _ (h.invs hL n)
theorem jL.enough (h:jL Inv pat us){L:σ}(hL:Inv L):∀ n,(∀ u∈us,pat (u (dU us n L))=pat (dU us n L))\/cf (pat (dU us n L))+n<=cf (pat L)
 | 0=>.inr (bJ _)
 | n+1=>by
  rcases h.enough hL n with h1 | h1
  ·exact .inl (h.still (h.invs hL n) h1)
  ·rcases h.round _ (h.invs hL n)with⟨_,h2⟩ | h2
   ·exact .inl (h.still (h.invs hL n) h2)
   ·right;show cf (pat (fK us (dU us n L)))+(n+1)<=_;omega
theorem jL.closed (h:jL Inv pat us){L:σ}(hL:Inv L){n:Nat}(hn:cf (pat L)<=n):∀ u∈us,pat (u (dU us (n+1) L))=pat (dU us (n+1) L):=by
 rcases h.enough hL (n+1)with h1 | h1
 ·exact h1
 ·omega
end
def Et (k:Bool)(ps:List PD):List (List Bool->List Bool):=ps.map fun p L=>gJ k L p
theorem AA {k:Bool}{ps:List PD}{n:Nat}(hs:∀ p∈ps,p.sort.toNat<n):jL (fun L:List Bool=>L.length=n) id (Et k ps):=by
 refine⟨fun u hu L hL=>?_,fun u _ L L' _ _ e=>by rw[show L=L' from e],fun u hu L hL=>?_⟩
 ·obtain⟨p,_,rfl⟩:=List.mem_map.1 hu;show(gJ k L p).length=n;rw[lQ];exact hL
 ·obtain⟨p,hp,rfl⟩:=List.mem_map.1 hu;rcases oO k L p (by have:=hs p hp;have:L.length=n:=hL;omega)with⟨_,h,_⟩ | ⟨_,h⟩
  ·exact .inl h
  ·exact .inr h
theorem yU {k:Bool}{ps:List PD}{L0:List Bool}(n:Nat):Reach k ps L0 (dU (Et k ps) n L0):=by
 induction n with
 | zero=>exact .refl
 | succ n ih =>
  have:∀ (qs:List PD),(∀ q∈qs,q∈ps)->∀ M,Reach k ps L0 M->Reach k ps L0 (fK (Et k qs) M):=by
   intro qs;induction qs with
   | nil=>exact fun _ M h=>h
   | cons q qs ih2=>exact fun hq M h=>ih2 (fun x hx=>hq x (List.mem_cons_of_mem _ hx)) _ (.step h (hq q List.mem_cons_self))
  exact this ps (fun _ h=>h) _ ih
theorem A8 {k:Bool}{ps:List PD}{n:Nat}(hs:∀ p∈ps,p.sort.toNat<n):Least k ps n (dU (Et k ps) (n+1) (List.replicate n false)):=by
 refine⟨yU _,fun p hp ha=>?_⟩;have hc:=(AA (k:=k) hs).closed (L:=List.replicate n false) (by simp) (n:=n) (by show(List.replicate n false).count false<=n;simp) _ (List.mem_map.2 ⟨p,hp,rfl⟩);have hl:=(AA (k:=k) hs).invs (L:=List.replicate n false) (by simp) (n+1);generalize dU (Et k ps) (n+1) (List.replicate n false)=M at *;have h1:gJ k M p=M:=hc;have h2:=congrArg (fun l=>l.getD p.sort.toNat false) h1;simp only[gJ]at h2;rw[dL,List.getElem?_set_self (by have:=hs p hp;have:M.length=n:=hl;omega)]at h2;rw[<-h2,ha];simp
end Go.Proofs.YticmnfmijdgmbaaGreatDoor.aJ
