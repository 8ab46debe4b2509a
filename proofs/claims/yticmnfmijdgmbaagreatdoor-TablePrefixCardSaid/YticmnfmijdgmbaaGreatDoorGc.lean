/- What a row's parts are derived from, told by a table of three: the mathematics of Span, Ends and Derived. -/
import Derived.Test.YticmnfmijdgmbaaGreatDoorZi
import Derived.Deep.QuietTactic
import Derived.BigQuiet
import Derived.WalkSmall
import Derived.Deep.RegionHeld3
import Derived.Laws.BitsLemmas
import Derived.Test.YticmnfmijdgmbaaGreatDoorGa
set_option linter.unusedVariables false
set_option linter.unusedSimpArgs false
namespace Go.Proofs.YticmnfmijdgmbaaGreatDoor
namespace LR
def seg (l:List Int) (m k:Nat):List Int:=(l.drop m).take (k - m)
theorem seg_len {l:List Int} {m k:Nat} (hk:k<=l.length):(seg l m k).length=k - m:=by
 unfold seg; rw [List.length_take,List.length_drop]; omega
theorem seg_self (l:List Int) (m:Nat):seg l m m=[]:=by unfold seg; simp
theorem seg_app {l:List Int} {m j k:Nat} (h1:m<=j) (h2:j<=k):seg l m j ++ seg l j k=seg l m k:=by
 unfold seg
 have h3:k - m=(j - m) + (k - j):=by omega
 rw [h3,List.take_add,List.drop_drop]
 congr 2
 congr 1
 omega
theorem seg_whole (l:List Int):seg l 0 l.length=l:=by unfold seg; simp
theorem seg_one {l:List Int} {m:Nat} {t:Int} (h:l[m]?=some t):seg l m (m + 1)=[t]:=by
 unfold seg
 obtain ⟨h1,h2⟩:=List.getElem?_eq_some_iff.1 h
 rw [show m + 1 - m=1 by omega,List.drop_eq_getElem_cons h1,h2]
 rfl
theorem seg_cons {l:List Int} {m k:Nat} {t:Int} {w:List Int} (hk:k<=l.length) (h:t :: w=seg l m k):m < k/\l[m]?=some t/\w=seg l (m + 1) k:=by
 have hl:=congrArg List.length h
 rw [List.length_cons,seg_len hk] at hl
 have hm:m < l.length:=by omega
 have h1:=seg_app (l:=l) (show m<=m + 1 by omega) (show m + 1<=k by omega)
 rw [seg_one (geQ hm),<-h] at h1
 have h2:l[m] :: seg l (m + 1) k=t :: w:=h1
 injection h2 with h3 h4
 exact ⟨by omega,by rw [geQ hm,h3],h4.symm⟩
theorem seg_split {l x w:List Int} {m k:Nat} (hm:m<=k) (hk:k<=l.length) (h:x ++ w=seg l m k):∃ j,m<=j/\j<=k/\x=seg l m j/\w=seg l j k:=by
 have hl:=congrArg List.length h
 rw [List.length_append,seg_len hk] at hl
 have h1:=seg_app (l:=l) (show m<=m + x.length by omega) (show m + x.length<=k by omega)
 rw [<-h] at h1
 have h2:=List.append_inj h1 (by rw [seg_len (by omega)]; omega)
 exact ⟨m + x.length,by omega,by omega,h2.1.symm,h2.2.symm⟩
def stepE (l:List Int) (C:Nat->Nat->Nat->Bool) (s:Int) (R:Nat->Bool) (k:Nat):Bool:=
 if 0<=s then decide (0 < k) && R (k - 1) && decide (l[k - 1]?=some s) else (List.range (k + 1)).any fun m=>R m && C (-1 - s).toNat m k
def endsE (l:List Int) (C:Nat->Nat->Nat->Bool) (rs:List Int) (R:Nat->Bool):Nat->Bool:=rs.foldl (fun R s=>stepE l C s R) R
theorem endsE_snoc (l:List Int) (C:Nat->Nat->Nat->Bool) (rs:List Int) (s:Int) (R:Nat->Bool):endsE l C (rs ++ [s]) R=stepE l C s (endsE l C rs R):=by
 unfold endsE; rw [List.foldl_append]; rfl
theorem step_term {l:List Int} {C:Nat->Nat->Nat->Bool} {s:Int} (hs:0<=s) {R:Nat->Bool} {k:Nat} : stepE l C s R k=true ↔ ∃ m,k=m + 1/\R m=true/\l[m]?=some s:=by
 unfold stepE
 rw [if_pos hs,Bool.and_eq_true,Bool.and_eq_true,decide_eq_true_iff,decide_eq_true_iff]
 constructor
 ·rintro ⟨⟨h1,h2⟩,h3⟩; exact ⟨k - 1,by omega,h2,h3⟩
 ·rintro ⟨m,rfl,h2,h3⟩; exact ⟨⟨by omega,h2⟩,h3⟩
theorem step_sort {l:List Int} {C:Nat->Nat->Nat->Bool} {s:Int} (hs:s < 0) {R:Nat->Bool} {k:Nat} : stepE l C s R k=true ↔ ∃ m,m<=k/\R m=true/\C (-1 - s).toNat m k=true:=by
 unfold stepE
 rw [if_neg (by omega),List.any_eq_true]
 constructor
 ·rintro ⟨m,h1,h2⟩
  rw [Bool.and_eq_true] at h2
  rw [List.mem_range] at h1
  exact ⟨m,by omega,h2⟩
 ·rintro ⟨m,h1,h2,h3⟩
  exact ⟨m,List.mem_range.2 (by omega),by rw [h2,h3]; rfl⟩
section
variable {M:Mach} {l:List Int} {C:Nat->Nat->Nat->Bool}
def TellsE (M:Mach) (l:List Int) (C:Nat->Nat->Nat->Bool):Prop:=∀ A m k,m<=k->k<=l.length->C A m k=true->Der M [-1 - (A:Int)] (seg l m k)
def ClosedE (M:Mach) (l:List Int) (C:Nat->Nat->Nat->Bool):Prop:=∀ q,M.isP q->∀ m k,m<=k->k<=l.length->endsE l C (M.rt q) (fun j=>j == m) k=true->C (-1 - M.srt q).toNat m k=true
theorem ends_sound (hC:TellsE M l C):∀ (rs:List Int) (R:Nat->Bool) {k:Nat},k<=l.length->endsE l C rs R k=true->∃ m,m<=k/\R m=true/\Der M rs (seg l m k)
 | [],R,k,_,h=>⟨k,Nat.le_refl _,h,by rw [seg_self]; exact .nil⟩
 | s :: rs,R,k,hk,h=>by
  obtain ⟨j,h1,h2,h3⟩:=ends_sound hC rs (stepE l C s R) hk h
  by_cases hs:0<=s
  ·obtain ⟨m,rfl,h4,h5⟩:=(step_term hs).1 h2
   refine ⟨m,by omega,h4,?_⟩
   rw [<-seg_app (show m<=m + 1 by omega) h1,seg_one h5]
   exact .term s _ _ hs h3
  ·obtain ⟨m,h4,h5,h6⟩:=(step_sort (by omega)).1 h2
   refine ⟨m,by omega,h5,?_⟩
   have h7:=hC _ m j h4 (by omega) h6
   rw [show (-1 - ((-1 - s).toNat:Int))=s by omega] at h7
   rw [<-seg_app h4 h1]
   exact Der.app (l:=[s]) h7 h3
theorem ends_complete (hcl:ClosedE M l C) (hsrt:∀ q,M.isP q->M.srt q < 0) {rs x:List Int} (h:Der M rs x):∀ {m k:Nat} (R:Nat->Bool),m<=k->k<=l.length->x=seg l m k->R m=true->endsE l C rs R k=true:=by
 induction h with
 | nil =>
  intro m k R hm hk hx hR
  have:=congrArg List.length hx
  rw [seg_len hk,List.length_nil] at this
  obtain rfl:m=k:=by omega
  exact hR
 | term t rs w h0 _ ih =>
  intro m k R hm hk hx hR
  obtain ⟨h1,h2,h3⟩:=seg_cons hk hx
  exact ih (stepE l C t R) (by omega) hk h3 ((step_term h0).2 ⟨m,rfl,hR,h2⟩)
 | sort q rs x w hq _ _ ih1 ih2 =>
  intro m k R hm hk hx hR
  obtain ⟨j,h1,h2,h3,h4⟩:=seg_split hm hk hx
  have h5:=hcl q hq m j h1 (by omega) (ih1 (fun i=>i == m) h1 (by omega) h3 (by simp))
  exact ih2 (stepE l C (M.srt q) R) h2 hk h4 ((step_sort (hsrt q hq)).2 ⟨m,h1,hR,h5⟩)
theorem span_iff (hC:TellsE M l C) (hcl:ClosedE M l C) (hsrt:∀ q,M.isP q->M.srt q < 0) {A m k:Nat} (hm:m<=k) (hk:k<=l.length):C A m k=true ↔ Der M [-1 - (A:Int)] (seg l m k):=by
 refine ⟨hC A m k hm hk,fun h=>?_⟩
 have h1:=ends_complete hcl hsrt h (fun j=>j == m) hm hk rfl (by simp)
 obtain ⟨j,h2,h3,h4⟩:=(step_sort (C:=C) (l:=l) (s:=-1 - (A:Int)) (by omega) (k:=k)).1 h1
 rw [beq_iff_eq] at h3
 subst h3
 rw [show (-1 - (-1 - (A:Int))).toNat=A by omega] at h4
 exact h4
theorem tells_more (hC:TellsE M l C) {q:Int} (hq:M.isP q) (hsrt:M.srt q < 0) {m k:Nat} (hm:m<=k) (hk:k<=l.length) (h:endsE l C (M.rt q) (fun j=>j == m) k=true) :
  TellsE M l (fun A i j=>C A i j || (A == (-1 - M.srt q).toNat && i == m && j == k)):=fun A i j h1 h2 h3=>by
 rw [Bool.or_eq_true] at h3
 rcases h3 with h3 | h3
 ·exact hC A i j h1 h2 h3
 ·rw [Bool.and_eq_true,Bool.and_eq_true,beq_iff_eq,beq_iff_eq,beq_iff_eq] at h3
  obtain ⟨⟨rfl,rfl⟩,rfl⟩:=h3
  obtain ⟨i',h4,h5,h6⟩:=ends_sound hC _ _ h2 h
  rw [beq_iff_eq] at h5
  subst h5
  rw [show (-1 - ((-1 - M.srt q).toNat:Int))=M.srt q by omega]
  have:=Der.sort q [] _ [] hq h6 .nil
  rw [List.append_nil] at this
  exact this
theorem tells_none:TellsE M l (fun _ _ _=>false):=fun _ _ _ _ _ h=>by cases h
theorem ends_mono {C':Nat->Nat->Nat->Bool} (hC:∀ A m k,C A m k=true->C' A m k=true):∀ (rs:List Int) {R R':Nat->Bool},(∀ k,R k=true->R' k=true)->∀ k,endsE l C rs R k=true->endsE l C' rs R' k=true
 | [],R,R',hR,k,h=>hR k h
 | s :: rs,R,R',hR,k,h=>ends_mono hC rs (R:=stepE l C s R) (R':=stepE l C' s R') (fun j hj=>by
  by_cases hs:0<=s
  ·obtain ⟨m,h1,h2,h3⟩:=(step_term hs).1 hj
   exact (step_term hs).2 ⟨m,h1,hR _ h2,h3⟩
  ·obtain ⟨m,h1,h2,h3⟩:=(step_sort (by omega)).1 hj
   exact (step_sort (by omega)).2 ⟨m,h1,hR _ h2,hC _ _ _ h3⟩) k h
end
end LR
end Go.Proofs.YticmnfmijdgmbaaGreatDoor

namespace Go.Proofs.YticmnfmijdgmbaaGreatDoor
open Go Go.RowKit Go.Lib
theorem among_any (n c:Int) (w:World):Calls Tryz.prog 97 #[.int .i64 n,.int .i64 c] w fun e w'=>e=.returned (.bool (decide (0<=n/\n < c)))/\w'=w:=by
 go_enter Tryz.func97,Tryz.ntmps97
 go_wp2
 all_goals
  go_ret
  refine ⟨?_,rfl⟩
  refine congrArg (fun b=>Ending.returned (Value.bool b)) ?_
  rw [Bool.eq_iff_iff]
  simp only [Bool.decide_and,Bool.and_eq_true,decide_eq_true_eq,Bool.false_eq_true,false_iff]
  omega
theorem name_s (x:ByteArray) (w:World):Calls Tryz.prog 99 #[.string x] w fun e w'=>e=.returned (.string x)/\w'=w:=by
 go_enter Tryz.func99,Tryz.ntmps99
 go_wp2
 go_ret
 exact ⟨rfl,rfl⟩
def leS (x y:ByteArray):Bool:=Op.bytesLess x.toList y.toList || x.toList == y.toList
theorem run_leS (x y:ByteArray) (w:World):(binOp .leq 9 (.string x) (.string y)).run Tryz.prog w=.ok (.bool (leS x y)) w:=rfl
def riseB (l:List ByteArray):Bool:=decide (∀ k,k < l.length - 1->leS (l.getD (k + 1) ByteArray.empty) (l.getD k ByteArray.empty)=false)
theorem rise_up {l:List ByteArray} (h:∀ j,j < l.length - 1->leS (l.getD (j + 1) ByteArray.empty) (l.getD j ByteArray.empty)=false):riseB l=true:=decide_eq_true h
theorem rise_no {l:List ByteArray} {k:Nat} (h1:k + 1 < l.length) (h:leS (l.getD (k + 1) ByteArray.empty) (l.getD k ByteArray.empty)=true):riseB l=false:=
 decide_eq_false fun h'=>by have:=h' k (by omega); rw [h] at this; cases this
theorem name_p (x:ByteArray) (s r c:Value) (w:World):Calls Tryz.prog 101 #[.agg #[.string x,s,r,c]] w fun e w'=>e=.returned (.string x)/\w'=w.alloc (.cells #[.string x,s,r,c] 71):=by
 go_enter Tryz.func101,Tryz.ntmps101
 go_wp2
 go_ret
 exact ⟨rfl,rfl⟩
theorem name_t (x:ByteArray) (s r c:Value) (w:World):Calls Tryz.prog 103 #[.agg #[.string x,s,r,c]] w fun e w'=>e=.returned (.string x)/\w'=w.alloc (.cells #[.string x,s,r,c] 105):=by
 go_enter Tryz.func103,Tryz.ntmps103
 go_wp2
 go_ret
 exact ⟨rfl,rfl⟩
set_option maxRecDepth 100000 in
set_option maxHeartbeats 1000000 in
theorem rise_s (l:List ByteArray) (sv:Value) (w:World) (h:StrsAt w sv l):Calls Tryz.prog 98 #[sv,.func (.func 99) #[] #[]] w fun e w'=>e=.returned (.bool (riseB l))/\Below w.heap.size w w':=by
 obtain ⟨sa,sc,rfl,hsn,hs⟩:=h
 have RU:=hid (rise_up (l:=l))
 have RN:=hid (fun k=>rise_no (l:=l) (k:=k))
 generalize hB:riseB l=B at *
 clear hB
 generalize hnl:l.length=n at *
 go_enter Tryz.func98,Tryz.ntmps98
 go_wp2
 go_loopw [5] (fun i wr=>∃ k:Nat,(k + 1<=n\/k=0)/\i=.int .i64 ((k:Int) + 1)/\Below w.heap.size w wr/\∀ j,j < k->leS (l.getD (j + 1) ByteArray.empty) (l.getD j ByteArray.empty)=false) (fun i _=>n - (RowKit.intOf i).toNat)
 case atStart=>exact ⟨0,by omega,rfl,Below.refl _ _,fun j hj=>by omega⟩
 case round =>
  obtain ⟨k,hk,rfl,hwb,hj⟩:=hrel
  have HJ:=hid hj
  clear hj
  have hsz:=hwb.size
  by_cases hlt:k + 1 < n
  ·obtain ⟨b,off,rfl,hc⟩:=hs (by omega)
   have g1:=cell_below hwb (hc (k + 1) hlt)
   have g2:=cell_below hwb (hc k (by omega))
   have HS:Hid (leS (l.getD (k + 1) ByteArray.empty) (l.getD k ByteArray.empty)=false->∀ j,j < k + 1->leS (l.getD (j + 1) ByteArray.empty) (l.getD j ByteArray.empty)=false):=fun h j hj=>by
    rcases Nat.lt_or_ge j k with h1 | h1
    ·exact HJ.out j h1
    ·obtain rfl:j=k:=by omega
     exact h
   have HN:=hid (RN.out k hlt)
   clear hc HJ
   generalize l.getD k ByteArray.empty=x at *
   generalize l.getD (k + 1) ByteArray.empty=y at *
   have i0:(0:Int)<=(k:Int) + 1:=by omega
   have i1:(k:Int) + 1 < (n:Int):=by omega
   have i3:(0:Int)<=(k:Int):=by omega
   have i4:(k:Int) < (n:Int):=by omega
   have i5:IntKind.i64.wrap (k:Int)=(k:Int):=by rw [IntKind.wrap_i64]; omega
   have i6:((k:Int) + 1).toNat=k + 1:=by omega
   have r1:=run_leS y x
   generalize leS y x=LE at *
   go_wp2_with fail
   go_quiet ((go_at_call 99; exact Calls.quiet_of_same (name_s _ _)))
   replace hwb:=below_drewN hwb nq
   clear i5 i6
   cases LE
   ·have HS2:=hid (HS.out rfl)
    go_wp2
    exact ⟨⟨k + 1,by omega,by go_num,hwb,HS2.out⟩,by simp [RowKit.intOf]; omega⟩
   ·have HN2:=hid (HN.out rfl)
    go_wp2
    go_ret
    exact ⟨by rw [HN2.out] <;> rfl,hwb⟩
  ·have i1:¬ ((k:Int) + 1 < (n:Int)):=by omega
   have HT:Hid (B=true):=RU.out fun j hj=>HJ.out j (by omega)
   go_wp2
   go_ret
   exact ⟨by rw [HT.out] <;> rfl,hwb⟩
set_option maxRecDepth 100000 in
set_option maxHeartbeats 1000000 in
theorem rise_p (l:List PD) (rv:Nat->Value) (sv:Value) (w:World) (h:ProdsAt w sv l rv):Calls Tryz.prog 100 #[sv,.func (.func 101) #[] #[]] w fun e w'=>e=.returned (.bool (riseB (l.map (·.lab))))/\Below w.heap.size w w':=by
 obtain ⟨sa,sc,rfl,hsn,hs⟩:=h
 have RU:=hid (rise_up (l:=(l.map (·.lab))))
 have RN:=hid (fun k=>rise_no (l:=(l.map (·.lab))) (k:=k))
 have hln:(l.map (·.lab)).length=l.length:=by simp
 generalize hB:riseB (l.map (·.lab))=B at *
 rw [hln] at RU RN
 clear hB
 generalize hnl:l.length=n at *
 go_enter Tryz.func100,Tryz.ntmps100
 go_wp2
 go_loopw [5] (fun i wr=>∃ k:Nat,(k + 1<=n\/k=0)/\i=.int .i64 ((k:Int) + 1)/\Below w.heap.size w wr/\∀ j,j < k->leS ((l.map (·.lab)).getD (j + 1) ByteArray.empty) ((l.map (·.lab)).getD j ByteArray.empty)=false) (fun i _=>n - (RowKit.intOf i).toNat)
 case atStart=>exact ⟨0,by omega,rfl,Below.refl _ _,fun j hj=>by omega⟩
 case round =>
  obtain ⟨k,hk,rfl,hwb,hj⟩:=hrel
  have HJ:=hid hj
  clear hj
  have hsz:=hwb.size
  by_cases hlt:k + 1 < n
  ·obtain ⟨b,off,rfl,hc⟩:=hs (by omega)
   obtain ⟨c0,c1,c2,c3⟩:=hc (k + 1) hlt
   obtain ⟨d0,d1,d2,d3⟩:=hc k (by omega)
   replace c0:=cell_below hwb c0
   replace c1:=cell_below hwb c1
   replace c2:=cell_below hwb c2
   replace c3:=cell_below hwb c3
   replace d0:=cell_below hwb d0
   replace d1:=cell_below hwb d1
   replace d2:=cell_below hwb d2
   replace d3:=cell_below hwb d3
   have e1:(l.map (·.lab)).getD k ByteArray.empty=(l.getD k default).lab:=by simp [gdQ,geQ (show k < l.length by omega)]
   have e2:(l.map (·.lab)).getD (k + 1) ByteArray.empty=(l.getD (k + 1) default).lab:=by simp [gdQ,geQ (show k + 1 < l.length by omega)]
   rw [<-e1] at d0
   rw [<-e2] at c0
   clear e1 e2
   have HS:Hid (leS ((l.map (·.lab)).getD (k + 1) ByteArray.empty) ((l.map (·.lab)).getD k ByteArray.empty)=false->∀ j,j < k + 1->leS ((l.map (·.lab)).getD (j + 1) ByteArray.empty) ((l.map (·.lab)).getD j ByteArray.empty)=false):=fun h j hj=>by
    rcases Nat.lt_or_ge j k with h1 | h1
    ·exact HJ.out j h1
    ·obtain rfl:j=k:=by omega
     exact h
   have HN:=hid (RN.out k hlt)
   clear hc HJ
   generalize (l.map (·.lab)).getD k ByteArray.empty=x at *
   generalize (l.map (·.lab)).getD (k + 1) ByteArray.empty=y at *
   generalize Value.int IntKind.i64 (l.getD (k + 1) default).sort=vc1 at *
   generalize rv (k + 1)=vc2 at *
   generalize Value.int IntKind.i64 (l.getD (k + 1) default).cls=vc3 at *
   generalize Value.int IntKind.i64 (l.getD k default).sort=vd1 at *
   generalize rv k=vd2 at *
   generalize Value.int IntKind.i64 (l.getD k default).cls=vd3 at *
   have i0:(0:Int)<=(k:Int) + 1:=by omega
   have i1:(k:Int) + 1 < (n:Int):=by omega
   have i3:(0:Int)<=(k:Int):=by omega
   have i4:(k:Int) < (n:Int):=by omega
   have i5:IntKind.i64.wrap (k:Int)=(k:Int):=by rw [IntKind.wrap_i64]; omega
   have i6:((k:Int) + 1).toNat=k + 1:=by omega
   have r1:=run_leS y x
   generalize leS y x=LE at *
   go_wp2_with fail
   have hb1:=World.block_lt_of_cell? wr _ c0
   go_region_held3 (fun w'=>w'.cell? ⟨b,off + (k + 1) * 4,none⟩=some (.string y)/\w'.cell? ⟨b,off + (k + 1) * 4 + 1,none⟩=some vc1/\w'.cell? ⟨b,off + (k + 1) * 4 + 2,none⟩=some vc2/\w'.cell? ⟨b,off + (k + 1) * 4 + 3,none⟩=some vc3/\w'.cell? ⟨b,off + k * 4,none⟩=some (.string x)/\w'.cell? ⟨b,off + k * 4 + 1,none⟩=some vd1/\w'.cell? ⟨b,off + k * 4 + 2,none⟩=some vd2/\w'.cell? ⟨b,off + k * 4 + 3,none⟩=some vd3)
    (go_keep)
    ((go_at_call 101; refine (name_p _ _ _ _ _).mono ?_; rintro e w6 ⟨rfl,rfl⟩))
   replace hwb:=((hwb.alloc hsz (.cells #[.string y,vc1,vc2,vc3] 71)).alloc (by simp; omega) (.cells #[.string x,vd1,vd2,vd3] 71)).drew
   clear i5 i6
   cases LE
   ·have HS2:=hid (HS.out rfl)
    go_wp2
    exact ⟨⟨k + 1,by omega,by go_num,hwb,HS2.out⟩,by simp [RowKit.intOf]; omega⟩
   ·have HN2:=hid (HN.out rfl)
    go_wp2
    go_ret
    exact ⟨by rw [HN2.out] <;> rfl,hwb⟩
  ·have i1:¬ ((k:Int) + 1 < (n:Int)):=by omega
   have HT:Hid (B=true):=RU.out fun j hj=>HJ.out j (by omega)
   go_wp2
   go_ret
   exact ⟨by rw [HT.out] <;> rfl,hwb⟩
set_option maxRecDepth 100000 in
set_option maxHeartbeats 1000000 in
theorem rise_t (l:List ByteArray) (tf:Nat->Nat->Value) (sv:Value) (w:World) (h:TermsAt w sv l tf):Calls Tryz.prog 102 #[sv,.func (.func 103) #[] #[]] w fun e w'=>e=.returned (.bool (riseB l))/\Below w.heap.size w w':=by
 obtain ⟨sa,sc,rfl,hsn,hs⟩:=h
 have RU:=hid (rise_up (l:=l))
 have RN:=hid (fun k=>rise_no (l:=l) (k:=k))
 generalize hB:riseB l=B at *
 clear hB
 generalize hnl:l.length=n at *
 go_enter Tryz.func102,Tryz.ntmps102
 go_wp2
 go_loopw [5] (fun i wr=>∃ k:Nat,(k + 1<=n\/k=0)/\i=.int .i64 ((k:Int) + 1)/\Below w.heap.size w wr/\∀ j,j < k->leS (l.getD (j + 1) ByteArray.empty) (l.getD j ByteArray.empty)=false) (fun i _=>n - (RowKit.intOf i).toNat)
 case atStart=>exact ⟨0,by omega,rfl,Below.refl _ _,fun j hj=>by omega⟩
 case round =>
  obtain ⟨k,hk,rfl,hwb,hj⟩:=hrel
  have HJ:=hid hj
  clear hj
  have hsz:=hwb.size
  by_cases hlt:k + 1 < n
  ·obtain ⟨b,off,rfl,hc⟩:=hs (by omega)
   obtain ⟨c0,c1,c2,c3⟩:=hc (k + 1) hlt
   obtain ⟨d0,d1,d2,d3⟩:=hc k (by omega)
   replace c0:=cell_below hwb c0
   replace c1:=cell_below hwb c1
   replace c2:=cell_below hwb c2
   replace c3:=cell_below hwb c3
   replace d0:=cell_below hwb d0
   replace d1:=cell_below hwb d1
   replace d2:=cell_below hwb d2
   replace d3:=cell_below hwb d3
   have HS:Hid (leS (l.getD (k + 1) ByteArray.empty) (l.getD k ByteArray.empty)=false->∀ j,j < k + 1->leS (l.getD (j + 1) ByteArray.empty) (l.getD j ByteArray.empty)=false):=fun h j hj=>by
    rcases Nat.lt_or_ge j k with h1 | h1
    ·exact HJ.out j h1
    ·obtain rfl:j=k:=by omega
     exact h
   have HN:=hid (RN.out k hlt)
   clear hc HJ
   generalize l.getD k ByteArray.empty=x at *
   generalize l.getD (k + 1) ByteArray.empty=y at *
   generalize tf (k + 1) 1=vc1 at *
   generalize tf (k + 1) 2=vc2 at *
   generalize tf (k + 1) 3=vc3 at *
   generalize tf k 1=vd1 at *
   generalize tf k 2=vd2 at *
   generalize tf k 3=vd3 at *
   have i0:(0:Int)<=(k:Int) + 1:=by omega
   have i1:(k:Int) + 1 < (n:Int):=by omega
   have i3:(0:Int)<=(k:Int):=by omega
   have i4:(k:Int) < (n:Int):=by omega
   have i5:IntKind.i64.wrap (k:Int)=(k:Int):=by rw [IntKind.wrap_i64]; omega
   have i6:((k:Int) + 1).toNat=k + 1:=by omega
   have r1:=run_leS y x
   generalize leS y x=LE at *
   go_wp2_with fail
   have hb1:=World.block_lt_of_cell? wr _ c0
   go_region_held3 (fun w'=>w'.cell? ⟨b,off + (k + 1) * 4,none⟩=some (.string y)/\w'.cell? ⟨b,off + (k + 1) * 4 + 1,none⟩=some vc1/\w'.cell? ⟨b,off + (k + 1) * 4 + 2,none⟩=some vc2/\w'.cell? ⟨b,off + (k + 1) * 4 + 3,none⟩=some vc3/\w'.cell? ⟨b,off + k * 4,none⟩=some (.string x)/\w'.cell? ⟨b,off + k * 4 + 1,none⟩=some vd1/\w'.cell? ⟨b,off + k * 4 + 2,none⟩=some vd2/\w'.cell? ⟨b,off + k * 4 + 3,none⟩=some vd3)
    (go_keep)
    ((go_at_call 103; refine (name_t _ _ _ _ _).mono ?_; rintro e w6 ⟨rfl,rfl⟩))
   replace hwb:=((hwb.alloc hsz (.cells #[.string y,vc1,vc2,vc3] 105)).alloc (by simp; omega) (.cells #[.string x,vd1,vd2,vd3] 105)).drew
   clear i5 i6
   cases LE
   ·have HS2:=hid (HS.out rfl)
    go_wp2
    exact ⟨⟨k + 1,by omega,by go_num,hwb,HS2.out⟩,by simp [RowKit.intOf]; omega⟩
   ·have HN2:=hid (HN.out rfl)
    go_wp2
    go_ret
    exact ⟨by rw [HN2.out] <;> rfl,hwb⟩
  ·have i1:¬ ((k:Int) + 1 < (n:Int)):=by omega
   have HT:Hid (B=true):=RU.out fun j hj=>HJ.out j (by omega)
   go_wp2
   go_ret
   exact ⟨by rw [HT.out] <;> rfl,hwb⟩
def symB (nt ns:Nat) (s:Int):Bool:=decide (0<=s/\s < nt\/s < 0/\-1 - s < ns)
def prodB (nt ns:Nat) (p:PD):Bool:=decide (0<=p.sort/\p.sort < ns) && decide (p.rs.length<=12) && p.rs.all (symB nt ns)
theorem prodB_up {nt ns:Nat} {p:PD} (h1:0<=p.sort/\p.sort < ns) (h2:p.rs.length<=12) (h3:∀ j,j < p.rs.length->symB nt ns (p.rs.getD j 0)=true):prodB nt ns p=true:=by
 unfold prodB
 rw [decide_eq_true h1,decide_eq_true h2,Bool.true_and,Bool.true_and,List.all_eq_true]
 intro x hx
 obtain ⟨j,hj,rfl⟩:=List.getElem_of_mem hx
 have:=h3 j hj
 rwa [gdQ,geQ hj] at this
theorem prodB_sort {nt ns:Nat} {p:PD} (h:¬ (0<=p.sort/\p.sort < ns)):prodB nt ns p=false:=by
 unfold prodB; rw [decide_eq_false h]; rfl
theorem prodB_long {nt ns:Nat} {p:PD} (h:¬ (p.rs.length<=12)):prodB nt ns p=false:=by
 unfold prodB; rw [decide_eq_false h,Bool.and_false]; rfl
theorem prodB_sym {nt ns:Nat} {p:PD} {j:Nat} (hj:j < p.rs.length) (h:symB nt ns (p.rs.getD j 0)=false):prodB nt ns p=false:=by
 unfold prodB
 rw [show p.rs.all (symB nt ns)=false from ?_,Bool.and_false]
 rw [Bool.eq_false_iff]
 intro h'
 rw [List.all_eq_true] at h'
 have:=h' _ (List.getElem_mem hj)
 rw [gdQ,geQ hj] at h
 rw [show symB nt ns p.rs[j]=false from h] at this
 cases this
theorem among_is (n c:Int) (w:World):Calls Tryz.prog 97 #[.int .i64 n,.int .i64 c] w fun e w'=>e=.returned (.bool (decide (0<=n/\n < c)))/\w=w':=
 (among_any n c w).mono fun _ _ ⟨h1,h2⟩=>⟨h1,h2.symm⟩
theorem pr_box (w:World) (lab:ByteArray) (s:Int) (r c:Value) :
  ∃ W1 B,W1=w.alloc (.cells #[.string lab,.int .i64 s,r,c] 71)/\B=w.heap.size/\W1.cell? ⟨B,0,none⟩=some (.string lab)/\W1.cell? ⟨B,1,none⟩=some (.int .i64 s)/\W1.cell? ⟨B,2,none⟩=some r /\
   W1.cell? ⟨B,3,none⟩=some c/\Below w.heap.size w W1:=by
 refine ⟨_,_,rfl,rfl,?_,?_,?_,?_,(Below.refl _ _).alloc (Nat.le_refl _) _⟩ <;> (rw [World.cell?_alloc_mark]; rfl)
set_option maxRecDepth 100000 in
set_option maxHeartbeats 1000000 in
theorem prodValid_any {G:GD} {gv tv ov sv pv:Value} {tf:Nat->Nat->Value} {rv:Nat->Value} {w:World} (h:GrAt w gv G tv ov sv pv tf rv) (p:PD) (rp:Value) (hp:IntsAt w rp p.rs) :
  Calls Tryz.prog 96 #[gv,.agg #[.string p.lab,.int .i64 p.sort,rp,.int .i64 p.cls]] w fun e w'=>e=.returned (.bool (prodB G.terms.length G.sorts.length p))/\Below w.heap.size w w':=by
 obtain ⟨W1,B,hW1,hB,c0,c1,c2,c3,c4,hG,hb,hsz⟩:=gr_box h
 obtain ⟨W2,B2,hW2,hB2,d0,d1,d2,d3,hb2⟩:=pr_box W1 p.lab p.sort rp (.int .i64 p.cls)
 have ht:=hG.terms
 have hs:=hG.sorts
 have hgv:=hG.eq
 replace hp:=(hp.mono hb).mono hb2
 obtain ⟨⟨ra,rc,rfl,hrn,hrc⟩,hri⟩:=hp
 replace c0:=cell_below hb2 c0
 replace c2:=cell_below hb2 c2
 replace hb:=hb.trans (hb2.mono hsz)
 have hsz2:W1.heap.size=w.heap.size + 1:=by rw [hW1]; simp
 rw [hsz2,<-hB] at hB2
 clear hG h c1 c3 c4 hb2 hsz d0 d3 hsz2
 subst hgv
 obtain ⟨ta,tc,rfl,htn,_⟩:=ht
 obtain ⟨sa,sc,rfl,hsn,_⟩:=hs
 have PS:=hid (prodB_sort (p:=p) (nt:=G.terms.length) (ns:=G.sorts.length))
 have PL:=hid (prodB_long (p:=p) (nt:=G.terms.length) (ns:=G.sorts.length))
 have PN:=hid (fun j=>prodB_sym (p:=p) (nt:=G.terms.length) (ns:=G.sorts.length) (j:=j))
 have PU:=hid (prodB_up (p:=p) (nt:=G.terms.length) (ns:=G.sorts.length))
 generalize prodB G.terms.length G.sorts.length p=PB at *
 generalize G.terms.length=nt at *
 generalize G.sorts.length=ns at *
 have kS:=hid fun w=>among_is p.sort (ns:Int) w
 have kT:=hid fun (s:Int) w=>among_is s (nt:Int) w
 have kN:=hid fun (s:Int) w=>among_is (-1 - s) (ns:Int) w
 by_cases hso:0<=p.sort/\p.sort < ns
 case neg =>
  rw [decide_eq_false hso] at kS
  have PS':=hid (PS.out hso)
  clear hso PL PN PU kT kN hrc hri
  go_enter Tryz.func96,Tryz.ntmps96
  go_wp2_with fail
  rw [<-hW1,<-hW2,<-hB,<-hB2]
  clear hW1 hW2 hB hB2
  refine (kS.out _).mono ?_
  rintro e w' ⟨rfl,rfl⟩
  go_wp2
  go_ret
  exact ⟨by rw [PS'.out] <;> rfl,hb⟩
 rw [decide_eq_true hso] at kS
 replace PU:=hid (PU.out hso)
 clear PS hso
 generalize p.sort=so at *
 generalize hrs:p.rs=rs at *
 clear hrs
 generalize hrl:rs.length=rl at *
 by_cases h12:rl<=12
 case neg =>
  have PL':=hid (PL.out h12)
  have h12':(12:Int) < (rl:Int):=by omega
  clear PN PU kT kN hrc hri
  go_enter Tryz.func96,Tryz.ntmps96
  go_wp2_with fail
  rw [<-hW1,<-hW2,<-hB,<-hB2]
  clear hW1 hW2 hB hB2
  refine (kS.out _).mono ?_
  rintro e w' ⟨rfl,rfl⟩
  go_wp2
  go_ret
  exact ⟨by rw [PL'.out] <;> rfl,hb⟩
 have h12':(rl:Int)<=12:=by omega
 replace PU:=hid (PU.out h12)
 clear PL
 have HI:Hid (∀ j,j < rl->-9223372036854775808<=rs.getD j 0/\rs.getD j 0<=9223372036854775807):=fun j hj=>hri _ (by
  rw [gdQ,geQ (by omega)]; exact List.getElem_mem _)
 clear hri
 go_enter Tryz.func96,Tryz.ntmps96
 go_wp2_with fail
 rw [<-hW1,<-hW2,<-hB,<-hB2]
 clear hW1 hW2 hB hB2
 refine (kS.out _).mono ?_
 rintro e w' ⟨rfl,rfl⟩
 go_wp2
 go_loop [23] (fun i=>∃ k:Nat,k<=rl/\i=.int .i64 (k:Int)/\∀ j,j < k->symB nt ns (rs.getD j 0)=true) (fun i=>rl - (RowKit.intOf i).toNat)
 case atStart=>exact ⟨0,by omega,rfl,fun j hj=>by omega⟩
 case round =>
  obtain ⟨k,hk,rfl,hj⟩:=hrel
  have HJ:=hid hj
  clear hj
  by_cases hlt:k < rl
  ·obtain ⟨b,off,rfl,hc⟩:=hrc (by omega)
   have e0:=hc k hlt
   obtain ⟨m1,m2⟩:=HI.out k hlt
   have HS:Hid (symB nt ns (rs.getD k 0)=true->∀ j,j < k + 1->symB nt ns (rs.getD j 0)=true):=fun h j hj=>by
    rcases Nat.lt_or_ge j k with h1 | h1
    ·exact HJ.out j h1
    ·obtain rfl:j=k:=by omega
     exact h
   have HN:=hid (PN.out k hlt)
   have i1:(k:Int) < (rl:Int):=by omega
   have i0:(0:Int)<=(k:Int):=by omega
   clear hc HJ PN PU hrc
   generalize rs.getD k 0=s at *
   have hsy:symB nt ns s=decide (0<=s/\s < nt\/s < 0/\-1 - s < ns):=rfl
   generalize symB nt ns s=sb at *
   by_cases hs0:0<=s
   ·replace kT:=hid (kT.out s)
    by_cases hst:s < nt
    ·rw [decide_eq_true ⟨hs0,hst⟩] at kT
     rw [decide_eq_true (by omega)] at hsy
     subst hsy
     have HS2:=hid (HS.out rfl)
     clear HS HN hst kN
     go_wp2_with fail
     refine (kT.out _).mono ?_
     rintro e w' ⟨rfl,rfl⟩
     go_wp2
     exact ⟨⟨k + 1,by omega,by go_num,HS2.out⟩,by simp [RowKit.intOf]; omega⟩
    ·rw [decide_eq_false (fun h=>hst h.2)] at kT
     rw [decide_eq_false (by omega)] at hsy
     subst hsy
     have HN2:=hid (HN.out rfl)
     clear HS HN hst kN
     go_wp2_with fail
     refine (kT.out _).mono ?_
     rintro e w' ⟨rfl,rfl⟩
     go_wp2
     go_ret
     exact ⟨by rw [HN2.out] <;> rfl,hb⟩
   ·replace kN:=hid (kN.out s)
    have hs1:s < 0:=by omega
    have i5:IntKind.i64.wrap (-1 - s)=-1 - s:=by rw [IntKind.wrap_i64]; omega
    by_cases hst:-1 - s < ns
    ·rw [decide_eq_true ⟨by omega,hst⟩] at kN
     rw [decide_eq_true (by omega)] at hsy
     subst hsy
     have HS2:=hid (HS.out rfl)
     clear HS HN hst kT hs0
     go_wp2_with fail
     refine (kN.out _).mono ?_
     rintro e w' ⟨rfl,rfl⟩
     go_wp2
     exact ⟨⟨k + 1,by omega,by go_num,HS2.out⟩,by simp [RowKit.intOf]; omega⟩
    ·rw [decide_eq_false (fun h=>hst h.2)] at kN
     rw [decide_eq_false (by omega)] at hsy
     subst hsy
     have HN2:=hid (HN.out rfl)
     clear HS HN hst kT hs0
     go_wp2_with fail
     refine (kN.out _).mono ?_
     rintro e w' ⟨rfl,rfl⟩
     go_wp2
     go_ret
     exact ⟨by rw [HN2.out] <;> rfl,hb⟩
  ·have i1:¬ ((k:Int) < (rl:Int)):=by omega
   have HT:Hid (PB=true):=PU.out fun j hj=>HJ.out j (by omega)
   clear PU PN HI
   go_wp2
   go_ret
   exact ⟨by rw [HT.out] <;> rfl,hb⟩
end Go.Proofs.YticmnfmijdgmbaaGreatDoor
