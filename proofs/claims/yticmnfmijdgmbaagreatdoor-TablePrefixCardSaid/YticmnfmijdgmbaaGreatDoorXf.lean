/- comes: what comes behind a dot. -/
import Derived.Test.YticmnfmijdgmbaaGreatDoorGa
import Derived.Test.YticmnfmijdgmbaaGreatDoorXe
import Derived.Test.YticmnfmijdgmbaaGreatDoorXd
set_option linter.unusedVariables false
set_option linter.unusedSimpArgs false
namespace Go.Proofs.YticmnfmijdgmbaaGreatDoor.S13
open Go Go.RowKit Go.Lib
theorem Without_any (a:Nat) (n:Int) (ha:a < 18446744073709551616) (w:World):Calls Tryz.prog 134 #[u64 a,.int .i64 n] w fun e w'=>e=.returned (u64 (lessN a (bitN n)))/\w=w':=by
 have e:=hid (bits_andNot_u64_nat a (bitN n) ha (bitN_lt n))
 go_enter Tryz.func134,Tryz.ntmps134
 go_wp2_with (go_at_call 72; refine (bit_any _ _).mono ?_; rintro e w' ⟨rfl,rfl⟩)
 go_ret
 exact ⟨by rw [e.out]; rfl,rfl⟩
end Go.Proofs.YticmnfmijdgmbaaGreatDoor.S13
namespace Go.Proofs.YticmnfmijdgmbaaGreatDoor
open Go Go.RowKit Go.Lib
open X14 (It)
open Go.Maps (Keyed)
open S13 (u64 comX Com bitN inN top E0 F0)
open S13.X15 (Pl)
theorem zero193 (w:World):(zeroValue 193).run Tryz.prog w=.ok (comV ⟨false,0,0,false⟩) w:=by kernel_rfl
def ItOk (x:It):Prop:=-9223372036854775808<=x.1/\x.1<=9223372036854775807/\-9223372036854775808<=x.2/\x.2<=9223372036854775807
theorem itKey {x:It} (h:ItOk x):∃ l,keyOf Tryz.prog 60 (itV x)=some l:=key60 _ _ (wf_i64 h.1 h.2.1) (wf_i64 h.2.2.1 h.2.2.2)
theorem cmap_look (bC:Nat) (G:GD) (LC:List It) {x:It} (hx:ItOk x) :
  ∃ (cv:Com) (ok:Bool),((ok=true/\cv=comX G x)\/(ok=false/\cv=⟨false,0,0,false⟩/\x ∉ LC))/\∀ w:World,MapIs Tryz.prog 60 w bC (cmap G LC)->(Instr.lookup 153 (.map (some bC)) (itV x) true).run Tryz.prog w=.ok (.tuple #[comV cv,.bool ok]) w:=by
 obtain ⟨l,hl⟩:=itKey hx
 by_cases hin:x ∈ LC
 ·exact ⟨_,true,.inl ⟨rfl,rfl⟩,fun w h=>h.look_some keyed60 Tryz.underlying153 hl (List.mem_map.2 ⟨x,hin,rfl⟩)⟩
 ·exact ⟨_,false,.inr ⟨rfl,rfl,hin⟩,fun w h=>h.look_none keyed60 Tryz.underlying153 hl (zero193 w) (fun e he e2=>by
   obtain ⟨y,hy,rfl⟩:=List.mem_map.1 he
   exact hin (by rw [<-itV_inj e2]; exact hy))⟩
theorem cmap_put {w:World} {bC:Nat} {G:GD} {LC:List It} (h:MapIs Tryz.prog 60 w bC (cmap G LC)) {x:It} (hx:ItOk x) (hn:x ∉ LC) :
  ∃ w',(Instr.mapUpdate 153 (.map (some bC)) (itV x) (comV (comX G x))).run Tryz.prog w=.ok () w'/\MapIs Tryz.prog 60 w' bC (cmap G (LC ++ [x]))/\w.grownBy w' (some bC):=by
 obtain ⟨l,hl⟩:=itKey hx
 obtain ⟨w',h1,h2,h3⟩:=h.put (v:=comV (comX G x)) keyed60 Tryz.underlying153 hl (fun e he e2=>by
   obtain ⟨y,hy,rfl⟩:=List.mem_map.1 he
   exact hn (by rw [<-itV_inj e2]; exact hy))
 have e1:cmap G LC ++ [(itV x,comV (comX G x))]=cmap G (LC ++ [x]):=by unfold cmap; rw [List.map_append]; rfl
 rw [e1] at h2
 exact ⟨w',h1,h2,h3⟩
section
variable {B bS bA bC:Nat} {W w w':World} {G:GD} {gc:List Value} {LA:List (Pl × Nat)} {LC LC':List It} {qv:Value} {Q:List Pl} {rest:List Item}
theorem sp_cput (h:Foot B W w (spItems B bS bA bC G gc LA LC qv Q rest)) (hm:MapIs Tryz.prog 60 w' bC (cmap G LC')) (hg:w.grownBy w' (some bC)):Foot B W w' (spItems B bS bA bC G gc LA LC' qv Q rest):=
 h.upd 2 rfl (mapI 60 bC (cmap G LC')) (Touch.grown hg) hm fun b hb=>by
  have hb':b=bC:=by
   have:b ∈ [bC]:=hb
   simpa using this
  subst hb'
  exact ⟨.inl hb,hm.lt⟩
theorem sp_rest {m:List Item} : spItems B bS bA bC G gc LA LC qv Q (rest ++ m)=spItems B bS bA bC G gc LA LC qv Q rest ++ m:=rfl
theorem foot_add1 {l:List Item} (h:Foot B W w l) {o:Obj} {w':World} (e:w.alloc o=w') (ho:w'.heap[w.heap.size]?=some o):Foot B W w' (l ++ [blkI w.heap.size o]):=
 h.add (blkI w.heap.size o) (by exact baQ e) ho (fun b hb=>by
  have:b ∈ [w.heap.size]:=hb
  obtain rfl:b=w.heap.size:=by simpa using this
  exact ⟨Nat.le_refl _,(ltQ ho)⟩)
theorem foot_drops {l m:List Item} (h:Foot B W w (l ++ m)):Foot B W w l:=
 h.pick l id (fun i x hx=>by rw [id,List.getElem?_append_left (List.getElem?_eq_some_iff.1 hx).1]; exact hx) (fun i j _ _ e=>e)
theorem foot_at {l m:List Item} (h:Foot B W w (l ++ m)) {k:Nat} {y:Item} (hk:m[k]?=some y):y.ok w:=h.ok (l.length + k) y (by rw [List.getElem?_append_right (Nat.le_add_right _ _),Nat.add_sub_cancel_left]; exact hk)
theorem foot_set {l m:List Item} (h:Foot B W w (l ++ m)) {k i:Nat} {b:Nat} {cs:Array Value} {e:TypeId} {v:Value} (hk:m[k]?=some (blkI b (.cells cs e (0,0)))) :
  Foot B W (w.setCell ⟨b,i,none⟩ v) (l ++ m.set k (blkI b (.cells (cs.setIfInBounds i v) e (0,0)))):=by
 have:=foot_cell (k:=i) (v:=v) h (l.length + k) (by rw [List.getElem?_append_right (Nat.le_add_right _ _),Nat.add_sub_cancel_left]; exact hk)
 rw [List.set_append_right _ _ (Nat.le_add_right _ _),Nat.add_sub_cancel_left] at this
 exact this
end
theorem foot_four {B:Nat} {W w:World} {l m:List Item} (h:Foot B W w (l ++ m)) {k b:Nat} {a0 a1 a2 a3:Value} {e:TypeId} (hk:m[k]?=some (blkI b (.cells #[a0,a1,a2,a3] e (0,0)))) (x0 x1 x2 x3:Value) :
  Foot B W ((((w.setCell ⟨b,0,none⟩ x0).setCell ⟨b,1,none⟩ x1).setCell ⟨b,2,none⟩ x2).setCell ⟨b,3,none⟩ x3) (l ++ m.set k (blkI b (.cells #[x0,x1,x2,x3] e (0,0)))):=by
 have hl:=(List.getElem?_eq_some_iff.1 hk).1
 have h1:=foot_set (i:=0) (v:=x0) h hk
 have h2:=foot_set (k:=k) (b:=b) (cs:=#[x0,a1,a2,a3]) (e:=e) (i:=1) (v:=x1) h1 (by rw [List.getElem?_set_self hl]; rfl)
 rw [List.set_set] at h2
 have h3:=foot_set (k:=k) (b:=b) (cs:=#[x0,x1,a2,a3]) (e:=e) (i:=2) (v:=x2) h2 (by rw [List.getElem?_set_self hl]; rfl)
 rw [List.set_set] at h3
 have h4:=foot_set (k:=k) (b:=b) (cs:=#[x0,x1,x2,a3]) (e:=e) (i:=3) (v:=x3) h3 (by rw [List.getElem?_set_self hl]; rfl)
 rw [List.set_set] at h4
 exact h4
def comC (c:Com):Array Value:=#[.bool c.is,.int .i64 c.sym,u64 c.fst,.bool c.emp]
def ComesP (B bS bA bC:Nat) (W:World) (G:GD) (gc:List Value) (LA:List (Pl × Nat)) (qv:Value) (Q:List Pl) (rest:List Item) (x:It) (e:Ending) (w':World):Prop:=
 e=.returned (comV (comX G x))/\∃ LC',Foot B W w' (spItems B bS bA bC G gc LA LC' qv Q rest)
theorem size193:(Tryz.prog.info? 193).map (·.size)=some 4:=by kernel_rfl
theorem results193 (tmps:Array Value) (w:World) (g:Nat) (c:Com) (hp:tmps.getD 4 undef=.pointer (some ⟨g,0,none⟩)) (hg:w.heap[g]?=some (.cells (comC c) 193 (0,0))) :
  (results Tryz.f120 tmps).run Tryz.prog w=.ok (comV c) w:=
 results_cell_row (p:=4) (ty:=193) rfl tmps w g 193 (comC c) (0,0) _ hp hg Tryz.underlying193 rfl (by rw [size193]; rfl)
theorem look_exec {P:Program} {w:World} {a:Act} {o:Oper} {m x:Operand} {t:TypeId} {ok:Bool} {b:Nat} {xv v:Value} (hop:o.op=Op.lookup t m x ok) (hm:a.eval m=.map (some b)) (hx:a.eval x=xv) (hrun:(Instr.lookup t (.map (some b)) xv ok).run P w=.ok v w):(execOp a.eval o).run P w=.ok (.value v) w:=by
 simp [execOp,hop,hm,hx,hrun,Result.andThen]
theorem slice_exec {P:Program} {w:World} {a:Act} {o:Oper} {s lo:Operand} {t:TypeId} {sv lv v:Value} (hop:o.op=Op.slice t s (some lo) none none) (hs:a.eval s=sv) (hl:a.eval lo=lv) (ht:P.underlying t=some (.slice (P.elem t))) (hrun:(Instr.slice t sv (some lv) none none).run P w=.ok v w):(execOp a.eval o).run P w=.ok (.value v) w:=by
 simp [execOp,hop,hs,hl,run_sliceAt_slice w t sv (some lv) none none ht,hrun,Result.andThen]
set_option maxRecDepth 100000 in
set_option maxHeartbeats 16000000 in
theorem comes_any {B bS bA bC:Nat} {W w:World} {G:GD} {gv:Value} {tv ov sv pv kv nv:Value} {LA:List (Pl × Nat)} {LC:List It} {qv:Value} {Q:List Pl} {rest:List Item} (h:Foot B W w (spItems B bS bA bC G [tv,ov,sv,pv,.int .i64 G.start,kv,nv] LA LC qv Q rest)) (hG:Gram W (.agg #[tv,ov,sv,pv,.int .i64 G.start]) G) (hB:B=W.heap.size) (hV:validB G=true) (x:It) (hx:ItOk x) :
  Calls Tryz.prog 120 #[.pointer (some ⟨bS,0,none⟩),itV x] w (ComesP B bS bA bC W G [tv,ov,sv,pv,.int .i64 G.start,kv,nv] LA qv Q rest x):=by
 subst hB
 obtain ⟨pa,np,pc,rfl⟩:∃ pa np pc,pv=.slice pa np pc:=by
  obtain ⟨_,_,_,_,_,_,hg⟩:=hG
  have hge:=hg.eq
  cases hge
  obtain ⟨pa,pc,rfl,_⟩:=hg.prods
  exact ⟨_,_,_,rfl⟩
 have HG:=hid hG
 have HV:=hid hV
 have HX:=hid hx
 have hgl:[tv,ov,sv,Value.slice pa np pc,Value.int .i64 G.start,kv,nv].length=7:=rfl
 obtain ⟨gc,hgc⟩:=nmQ ([tv,ov,sv,Value.slice pa np pc,Value.int .i64 G.start,kv,nv])
 have HGC:=hid hgc
 rw [hgc] at h hgl ⊢
 clear hgc hG hV hx
 obtain ⟨W1,e1⟩:=nmQ (w.alloc (.cells #[.int .i64 x.1,.int .i64 x.2] 60))
 have n1:W1.heap[w.heap.size]?=some (.cells #[.int .i64 x.1,.int .i64 x.2] 60 (0,0)):=nbQ e1
 have h1:=foot_add1 h e1 n1
 obtain ⟨W2,e2⟩:=nmQ (W1.alloc (.cells #[.bool false,.int .i64 0,.int .u64 0,.bool false] 193))
 have n2:W2.heap[W1.heap.size]?=some (.cells #[.bool false,.int .i64 0,.int .u64 0,.bool false] 193 (0,0)):=nbQ e2
 have h2:=foot_add1 h1 e2 n2
 rw [List.append_assoc] at h2
 have HF2:=hid (show Foot W.heap.size W W2 (spItems W.heap.size bS bA bC G gc LA LC qv Q rest ++ [blkI w.heap.size (.cells #[.int .i64 x.1,.int .i64 x.2] 60 (0,0)),blkI W1.heap.size (.cells #[.bool false,.int .i64 0,.int .u64 0,.bool false] 193 (0,0))]) from h2)
 clear h h1 h2 n1 n2
 obtain ⟨we,ewe⟩:=nmQ (W2.drew)
 have HFe:=hid (HF2.out.below (show Below W2.heap.size W2 we by exact bdQ ewe))
 obtain ⟨cv,ok,hcv,hlook⟩:=cmap_look bC G LC HX.out
 have HCV:=hid hcv
 have HLK:Hid (∀ w':World,MapIs Tryz.prog 60 w' bC (cmap G LC)->(Instr.lookup 153 (.map (some bC)) (.agg #[.int .i64 x.1,.int .i64 x.2]) true).run Tryz.prog w'=.ok (.tuple #[.agg #[.bool cv.is,.int .i64 cv.sym,u64 cv.fst,.bool cv.emp],.bool ok]) w'):=hlook
 have HH0:we.cell? ⟨bS,8,none⟩=some (.map (some bC))/\we.cell? ⟨w.heap.size,0,none⟩=some (.int .i64 x.1)/\we.cell? ⟨w.heap.size,1,none⟩=some (.int .i64 x.2)/\(Instr.lookup 153 (.map (some bC)) (.agg #[.int .i64 x.1,.int .i64 x.2]) true).run Tryz.prog we=.ok (.tuple #[.agg #[.bool cv.is,.int .i64 cv.sym,u64 cv.fst,.bool cv.emp],.bool ok]) we:=⟨sp_c8 (rest:=rest ++ _) HFe.out hgl,coQ (foot_at HFe.out (k:=0) rfl) 0,coQ (foot_at HFe.out (k:=0) rfl) 1,HLK.out _ (sp_mapC (rest:=rest ++ _) HFe.out)⟩
 obtain ⟨W3,e3⟩:=nmQ (we.alloc (.cells #[.bool false,.int .i64 0,.int .u64 0,.bool false] 193))
 have n3:W3.heap[we.heap.size]?=some (.cells #[.bool false,.int .i64 0,.int .u64 0,.bool false] 193 (0,0)):=nbQ e3
 have h3:=foot_add1 HFe.out e3 n3
 rw [List.append_assoc] at h3
 have HF3:=hid (show Foot W.heap.size W W3 (spItems W.heap.size bS bA bC G gc LA LC qv Q rest ++ [blkI w.heap.size (.cells #[.int .i64 x.1,.int .i64 x.2] 60 (0,0)),blkI W1.heap.size (.cells #[.bool false,.int .i64 0,.int .u64 0,.bool false] 193 (0,0)),blkI we.heap.size (.cells #[.bool false,.int .i64 0,.int .u64 0,.bool false] 193 (0,0))]) from h3)
 have HH1:W3.cell? ⟨bS,8,none⟩=some (.map (some bC))/\W3.cell? ⟨w.heap.size,0,none⟩=some (.int .i64 x.1)/\W3.cell? ⟨w.heap.size,1,none⟩=some (.int .i64 x.2)/\(Instr.lookup 153 (.map (some bC)) (.agg #[.int .i64 x.1,.int .i64 x.2]) true).run Tryz.prog W3=.ok (.tuple #[.agg #[.bool cv.is,.int .i64 cv.sym,u64 cv.fst,.bool cv.emp],.bool ok]) W3:=⟨sp_c8 (rest:=rest ++ _) HF3.out hgl,coQ (foot_at HF3.out (k:=0) rfl) 0,coQ (foot_at HF3.out (k:=0) rfl) 1,HLK.out _ (sp_mapC (rest:=rest ++ _) HF3.out)⟩
 have yn0:W3.heap[we.heap.size]?=some (.cells #[.bool false,.int .i64 0,.int .u64 0,.bool false] 193 (0,0)):=n3
 have yc0:W3.cell? ⟨we.heap.size,0,none⟩=some (.bool false):=coQ yn0 0
 have yf0:=foQ yn0 0
 obtain ⟨x1,ye0⟩:=nmQ (W3.setCell ⟨we.heap.size,0,none⟩ (.bool cv.is))
 have yn1:x1.heap[we.heap.size]?=some (.cells #[.bool cv.is,.int .i64 0,.int .u64 0,.bool false] 193 (0,0)):=hsQ ye0 yn0
 have yc1:x1.cell? ⟨we.heap.size,1,none⟩=some (.int .i64 0):=coQ yn1 1
 have yf1:=foQ yn1 1
 obtain ⟨x2,ye1⟩:=nmQ (x1.setCell ⟨we.heap.size,1,none⟩ (.int .i64 cv.sym))
 have yn2:x2.heap[we.heap.size]?=some (.cells #[.bool cv.is,.int .i64 cv.sym,.int .u64 0,.bool false] 193 (0,0)):=hsQ ye1 yn1
 have yc2:x2.cell? ⟨we.heap.size,2,none⟩=some (.int .u64 0):=coQ yn2 2
 have yf2:=foQ yn2 2
 obtain ⟨x3,ye2⟩:=nmQ (x2.setCell ⟨we.heap.size,2,none⟩ (u64 cv.fst))
 have yn3:x3.heap[we.heap.size]?=some (.cells #[.bool cv.is,.int .i64 cv.sym,u64 cv.fst,.bool false] 193 (0,0)):=hsQ ye2 yn2
 have yc3:x3.cell? ⟨we.heap.size,3,none⟩=some (.bool false):=coQ yn3 3
 have yf3:=foQ yn3 3
 obtain ⟨x4,ye3⟩:=nmQ (x3.setCell ⟨we.heap.size,3,none⟩ (.bool cv.emp))
 have yn4:x4.heap[we.heap.size]?=some (.cells #[.bool cv.is,.int .i64 cv.sym,u64 cv.fst,.bool cv.emp] 193 (0,0)):=hsQ ye3 yn3
 have HF4:=hid (show Foot W.heap.size W x4 (spItems W.heap.size bS bA bC G gc LA LC qv Q rest ++ [blkI w.heap.size (.cells #[.int .i64 x.1,.int .i64 x.2] 60 (0,0)),blkI W1.heap.size (.cells #[.bool false,.int .i64 0,.int .u64 0,.bool false] 193 (0,0)),blkI we.heap.size (.cells (comC cv) 193 (0,0))]) from by
  have:=foot_four HF3.out (k:=2) rfl (.bool cv.is) (.int .i64 cv.sym) (u64 cv.fst) (.bool cv.emp)
  rw [ye0,ye1,ye2,ye3] at this
  exact this)
 clear yn0 yn1 yn2 yn3 yn4
 have HH2:x4.cell? ⟨bS,8,none⟩=some (.map (some bC))/\x4.cell? ⟨w.heap.size,0,none⟩=some (.int .i64 x.1)/\x4.cell? ⟨w.heap.size,1,none⟩=some (.int .i64 x.2)/\(Instr.lookup 153 (.map (some bC)) (.agg #[.int .i64 x.1,.int .i64 x.2]) true).run Tryz.prog x4=.ok (.tuple #[.agg #[.bool cv.is,.int .i64 cv.sym,u64 cv.fst,.bool cv.emp],.bool ok]) x4:=⟨sp_c8 (rest:=rest ++ _) HF4.out hgl,coQ (foot_at HF4.out (k:=0) rfl) 0,coQ (foot_at HF4.out (k:=0) rfl) 1,HLK.out _ (sp_mapC (rest:=rest ++ _) HF4.out)⟩
 clear h3 n3 hlook hcv
 unfold itV
 go_enter Tryz.func120,Tryz.ntmps120
 go_wp2_with fail
 refine region_T 11 (fun w'=>w'.cell? ⟨bS,8,none⟩=some (.map (some bC))/\w'.cell? ⟨w.heap.size,0,none⟩=some (.int .i64 x.1)/\w'.cell? ⟨w.heap.size,1,none⟩=some (.int .i64 x.2)/\(Instr.lookup 153 (.map (some bC)) (.agg #[.int .i64 x.1,.int .i64 x.2]) true).run Tryz.prog w'=.ok (.tuple #[.agg #[.bool cv.is,.int .i64 cv.sym,u64 cv.fst,.bool cv.emp],.bool ok]) w') (by kernel_rfl) (by rw [ewe]; exact HH0) (fun inv hHeld=>?_)
 rw [ewe]
 clear hHeld
 iterate 5
  refine anyT_auto (v:=?_) rfl (by kernel_rfl) (fun _ _ _ h=>h) (Or.inl ⟨by rfl,?_⟩) HH0 inv (fun inv=>?_)
  rotate_left
  ·intro w hSw
   try dsimp only at hSw
   go_simp
   try with_reducible rfl
  simp only [Act.put,sjA,sj0,sjS]
 refine anyT_take (i:=5) (oi:={dst:=some 15,op:=.lookup 153 (.tmp 13) (.tmp 14) true,type:=203,pos := "look.go:120",after:=#[{on:=3,ground:=.data},{on:=4,ground:=.data}],guard:=none}) (v:=.tuple #[.agg #[.bool cv.is,.int .i64 cv.sym,u64 cv.fst,.bool cv.emp],.bool ok]) rfl (by kernel_rfl) (by kernel_rfl) (by kernel_rfl) (by decide) (by decide) (by kernel_rfl) (by kernel_rfl) (fun _ _ _ h=>h) (Or.inl ⟨by rfl,?_⟩) HH0 inv (fun inv=>?_)
 ·intro w hSw
  try dsimp only at hSw
  exact look_exec rfl rfl rfl hSw.2.2.2
 simp only [Act.put,sjA,sj0,sjS]
 iterate 3
  refine anyT_auto (v:=?_) rfl (by kernel_rfl) (fun _ _ _ h=>h) (Or.inl ⟨by rfl,?_⟩) HH0 inv (fun inv=>?_)
  rotate_left
  ·intro w hSw
   try dsimp only at hSw
   go_simp
   try with_reducible rfl
  simp only [Act.put,sjA,sj0,sjS]
 refine anyT_next (i:=9) (o:={dst:=some 5,op:=.alloc 193,type:=0,pos := "look.go:120",after:=#[],guard:=none}) (by kernel_rfl) rfl (by decide) inv (fun inv K' hK=>?_)
 go_simp
 refine hK.out _ _ HH1 ?_
 clear hK K'
 try simp only [Act.put,sjA,sj0,sjS]
 refine anyT_next (i:=10) (o:={dst:=none,op:=.store 193 (.tmp 5) (.tmp 16),type:=0,pos := "look.go:120",after:=#[{on:=9,ground:=.data},{on:=7,ground:=.data},{on:=0,ground:=.phase},{on:=1,ground:=.phase},{on:=2,ground:=.phase},{on:=3,ground:=.phase},{on:=4,ground:=.phase},{on:=5,ground:=.phase},{on:=6,ground:=.phase},{on:=7,ground:=.phase},{on:=8,ground:=.textOnly Go.Departure.lateStores},{on:=9,ground:=.phase}],guard:=none}) (by kernel_rfl) rfl (by decide) inv (fun inv K' hK=>?_)
 go_simp
 refine hK.out _ _ HH2 ?_
 clear hK K'
 try simp only [Act.put,sjA,sj0,sjS]
 refine anyT_one (i:=11) (o:={dst:=some 6,op:=.assign (.tmp 17),type:=4,pos := "look.go:120",after:=#[{on:=8,ground:=.data},{on:=10,ground:=.chain},{on:=0,ground:=.phase},{on:=1,ground:=.phase},{on:=2,ground:=.phase},{on:=3,ground:=.phase},{on:=4,ground:=.phase},{on:=5,ground:=.phase},{on:=6,ground:=.phase},{on:=7,ground:=.phase},{on:=8,ground:=.phase},{on:=9,ground:=.phase},{on:=10,ground:=.phase}],guard:=none}) (by kernel_rfl) rfl (fun K' hK=>?_)
 go_simp
 refine hK.out _ _ (fun h=>absurd h (by decide)) ?_
 clear hK K'
 try simp only [Act.put,sjA,sj0,sjS]
 refine anyT_done (by kernel_rfl) ?_ _
 clear HH0 HH1 HH2 yc0 yf0 yc1 yf1 yc2 yf2 yc3 yf3 ye0 ye1 ye2 ye3 e1 e2 e3 HF2 HFe HF3
 generalize we.heap.size=bc at *
 generalize W1.heap.size=b1 at *
 rcases HCV.out with ⟨rfl,rfl⟩ | ⟨rfl,rfl,hnin⟩
 ·obtain ⟨m,hm⟩:=nmQ (comX G x)
  rw [hm] at HF4 ⊢
  have HM:=hid hm
  clear hm
  have k0:x4.cell? ⟨bc,0,none⟩=some (.bool m.is):=coQ (foot_at HF4.out (k:=2) rfl) 0
  have k1:x4.cell? ⟨bc,1,none⟩=some (.int .i64 m.sym):=coQ (foot_at HF4.out (k:=2) rfl) 1
  have k2:x4.cell? ⟨bc,2,none⟩=some (u64 m.fst):=coQ (foot_at HF4.out (k:=2) rfl) 2
  have k3:x4.cell? ⟨bc,3,none⟩=some (.bool m.emp):=coQ (foot_at HF4.out (k:=2) rfl) 3
  have sn0:x4.heap[b1]?=some (.cells #[.bool false,.int .i64 0,.int .u64 0,.bool false] 193 (0,0)):=foot_at HF4.out (k:=1) rfl
  have sc0:x4.cell? ⟨b1,0,none⟩=some (.bool false):=coQ sn0 0
  have sf0:=foQ sn0 0
  obtain ⟨r1,se0⟩:=nmQ (x4.setCell ⟨b1,0,none⟩ (.bool m.is))
  have sn1:r1.heap[b1]?=some (.cells #[.bool m.is,.int .i64 0,.int .u64 0,.bool false] 193 (0,0)):=hsQ se0 sn0
  have sc1:r1.cell? ⟨b1,1,none⟩=some (.int .i64 0):=coQ sn1 1
  have sf1:=foQ sn1 1
  obtain ⟨r2,se1⟩:=nmQ (r1.setCell ⟨b1,1,none⟩ (.int .i64 m.sym))
  have sn2:r2.heap[b1]?=some (.cells #[.bool m.is,.int .i64 m.sym,.int .u64 0,.bool false] 193 (0,0)):=hsQ se1 sn1
  have sc2:r2.cell? ⟨b1,2,none⟩=some (.int .u64 0):=coQ sn2 2
  have sf2:=foQ sn2 2
  obtain ⟨r3,se2⟩:=nmQ (r2.setCell ⟨b1,2,none⟩ (u64 m.fst))
  have sn3:r3.heap[b1]?=some (.cells #[.bool m.is,.int .i64 m.sym,u64 m.fst,.bool false] 193 (0,0)):=hsQ se2 sn2
  have sc3:r3.cell? ⟨b1,3,none⟩=some (.bool false):=coQ sn3 3
  have sf3:=foQ sn3 3
  obtain ⟨r4,se3⟩:=nmQ (r3.setCell ⟨b1,3,none⟩ (.bool m.emp))
  have sn4:r4.heap[b1]?=some (.cells #[.bool m.is,.int .i64 m.sym,u64 m.fst,.bool m.emp] 193 (0,0)):=hsQ se3 sn3
  have HFR:=hid (show Foot W.heap.size W r4 (spItems W.heap.size bS bA bC G gc LA LC qv Q rest ++ [blkI w.heap.size (.cells #[.int .i64 x.1,.int .i64 x.2] 60 (0,0)),blkI b1 (.cells (comC m) 193 (0,0)),blkI bc (.cells (comC m) 193 (0,0))]) from by
   have:=foot_four HF4.out (k:=1) rfl (.bool m.is) (.int .i64 m.sym) (u64 m.fst) (.bool m.emp)
   rw [se0,se1,se2,se3] at this
   exact this)
  clear sn0 sn1 sn2 sn3 sn4
  go_wp2_with fail
  refine bodyPost_ret (results193 _ _ b1 m rfl (foot_at HFR.out (k:=1) rfl)) rfl ?_
  exact ⟨by rw [HM.out],LC,foot_drops HFR.out⟩
 have HNIN:=hid hnin
 clear hnin HCV HLK
 obtain ⟨wd,ewd⟩:=nmQ (x4.drew)
 have HFd:=hid (HF4.out.below (show Below x4.heap.size x4 wd by exact bdQ ewd))
 have hbeq:S13.E0 G=S13.E0 G:=rfl
 have hbv:behV G x=X14.behX G x:=by unfold behV; rw [if_pos HV.out]
 obtain ⟨sy,hsy⟩:=nmQ ((X14.behX G x).getD 0)
 obtain ⟨isb,hisb⟩:=nmQ ((X14.behX G x).isSome)
 have KB:=hid (show Calls Tryz.prog 25 #[.agg #[tv,ov,sv,.slice pa np pc,.int .i64 G.start],.agg #[.int .i64 x.1,.int .i64 x.2]] wd (fun e w'=>e=.returned (.tuple #[.int .i64 sy,.bool isb])/\Below wd.heap.size wd w') from by
  have h0:=Behind_any (HG.out.below HFd.out.bel) x
  unfold BehVP at h0
  rw [hbv,hsy,hisb] at h0
  exact h0)
 have HSY:=hid (And.intro hsy hisb)
 have HH0:wd.cell? ⟨bS,0,none⟩=some tv/\wd.cell? ⟨bS,1,none⟩=some ov/\wd.cell? ⟨bS,2,none⟩=some sv/\wd.cell? ⟨bS,3,none⟩=some (.slice pa np pc)/\wd.cell? ⟨bS,4,none⟩=some (.int .i64 G.start)/\wd.cell? ⟨w.heap.size,0,none⟩=some (.int .i64 x.1)/\wd.cell? ⟨w.heap.size,1,none⟩=some (.int .i64 x.2):=⟨sp_cg (rest:=rest ++ _) HFd.out (k:=0) (by rw [<-HGC.out]; rfl),sp_cg (rest:=rest ++ _) HFd.out (k:=1) (by rw [<-HGC.out]; rfl),sp_cg (rest:=rest ++ _) HFd.out (k:=2) (by rw [<-HGC.out]; rfl),sp_cg (rest:=rest ++ _) HFd.out (k:=3) (by rw [<-HGC.out]; rfl),sp_cg (rest:=rest ++ _) HFd.out (k:=4) (by rw [<-HGC.out]; rfl),coQ (foot_at HFd.out (k:=0) rfl) 0,coQ (foot_at HFd.out (k:=0) rfl) 1⟩
 clear hbv hsy hisb hbeq
 go_wp2_with fail
 refine region_T 12 (fun w'=>w'.cell? ⟨bS,0,none⟩=some tv/\w'.cell? ⟨bS,1,none⟩=some ov/\w'.cell? ⟨bS,2,none⟩=some sv/\w'.cell? ⟨bS,3,none⟩=some (.slice pa np pc)/\w'.cell? ⟨bS,4,none⟩=some (.int .i64 G.start)/\w'.cell? ⟨w.heap.size,0,none⟩=some (.int .i64 x.1)/\w'.cell? ⟨w.heap.size,1,none⟩=some (.int .i64 x.2)) (by kernel_rfl) (by rw [ewd]; exact HH0) (fun inv hHeld=>?_)
 rw [ewd]
 clear hHeld ewd
 iterate 5
  refine anyT_auto (v:=?_) rfl (by kernel_rfl) (fun _ _ _ h=>h) (Or.inl ⟨by rfl,?_⟩) HH0 inv (fun inv=>?_)
  rotate_left
  ·intro w hSw
   try dsimp only at hSw
   go_simp
   try with_reducible rfl
  simp only [Act.put,sjA,sj0,sjS]
 refine anyT_next (i:=5) (o:={dst:=some 26,op:=.call {callee:=.value (.func 25),args:=#[.tmp 24,.tmp 25],argTypes:=#[27,60]},type:=62,pos := "look.go:124",after:=#[{on:=3,ground:=.data},{on:=4,ground:=.data}],guard:=none}) (by kernel_rfl) rfl (by decide) inv (fun inv K' hK=>?_)
 go_simp
 refine KB.out.mono ?_
 rintro e w5 ⟨rfl,hb5⟩
 have HF5:=hid (HFd.out.below hb5)
 have HH1:w5.cell? ⟨bS,0,none⟩=some tv/\w5.cell? ⟨bS,1,none⟩=some ov/\w5.cell? ⟨bS,2,none⟩=some sv/\w5.cell? ⟨bS,3,none⟩=some (.slice pa np pc)/\w5.cell? ⟨bS,4,none⟩=some (.int .i64 G.start)/\w5.cell? ⟨w.heap.size,0,none⟩=some (.int .i64 x.1)/\w5.cell? ⟨w.heap.size,1,none⟩=some (.int .i64 x.2):=⟨sp_cg (rest:=rest ++ _) HF5.out (k:=0) (by rw [<-HGC.out]; rfl),sp_cg (rest:=rest ++ _) HF5.out (k:=1) (by rw [<-HGC.out]; rfl),sp_cg (rest:=rest ++ _) HF5.out (k:=2) (by rw [<-HGC.out]; rfl),sp_cg (rest:=rest ++ _) HF5.out (k:=3) (by rw [<-HGC.out]; rfl),sp_cg (rest:=rest ++ _) HF5.out (k:=4) (by rw [<-HGC.out]; rfl),coQ (foot_at HF5.out (k:=0) rfl) 0,coQ (foot_at HF5.out (k:=0) rfl) 1⟩
 have n5:=foot_at HF5.out (k:=2) rfl
 have c51:w5.cell? ⟨bc,1,none⟩=some (.int .i64 0):=coQ n5 1
 have f51:=foQ n5 1
 obtain ⟨z1,ez1⟩:=nmQ (w5.setCell ⟨bc,1,none⟩ (.int .i64 sy))
 have HF6:=hid (show Foot W.heap.size W z1 (spItems W.heap.size bS bA bC G gc LA LC qv Q rest ++ [blkI w.heap.size (.cells #[.int .i64 x.1,.int .i64 x.2] 60 (0,0)),blkI b1 (.cells (#[.bool false,.int .i64 0,.int .u64 0,.bool false]) 193 (0,0)),blkI bc (.cells (#[.bool false,.int .i64 sy,.int .u64 0,.bool false]) 193 (0,0))]) from by rw [<-ez1]; exact foot_set HF5.out (k:=2) rfl)
 have HH2:z1.cell? ⟨bS,0,none⟩=some tv/\z1.cell? ⟨bS,1,none⟩=some ov/\z1.cell? ⟨bS,2,none⟩=some sv/\z1.cell? ⟨bS,3,none⟩=some (.slice pa np pc)/\z1.cell? ⟨bS,4,none⟩=some (.int .i64 G.start)/\z1.cell? ⟨w.heap.size,0,none⟩=some (.int .i64 x.1)/\z1.cell? ⟨w.heap.size,1,none⟩=some (.int .i64 x.2):=⟨sp_cg (rest:=rest ++ _) HF6.out (k:=0) (by rw [<-HGC.out]; rfl),sp_cg (rest:=rest ++ _) HF6.out (k:=1) (by rw [<-HGC.out]; rfl),sp_cg (rest:=rest ++ _) HF6.out (k:=2) (by rw [<-HGC.out]; rfl),sp_cg (rest:=rest ++ _) HF6.out (k:=3) (by rw [<-HGC.out]; rfl),sp_cg (rest:=rest ++ _) HF6.out (k:=4) (by rw [<-HGC.out]; rfl),coQ (foot_at HF6.out (k:=0) rfl) 0,coQ (foot_at HF6.out (k:=0) rfl) 1⟩
 have n6:=foot_at HF6.out (k:=2) rfl
 have c60:z1.cell? ⟨bc,0,none⟩=some (.bool false):=coQ n6 0
 have f60:=foQ n6 0
 obtain ⟨z2,ez2⟩:=nmQ (z1.setCell ⟨bc,0,none⟩ (.bool isb))
 have HF7:=hid (show Foot W.heap.size W z2 (spItems W.heap.size bS bA bC G gc LA LC qv Q rest ++ [blkI w.heap.size (.cells #[.int .i64 x.1,.int .i64 x.2] 60 (0,0)),blkI b1 (.cells (#[.bool false,.int .i64 0,.int .u64 0,.bool false]) 193 (0,0)),blkI bc (.cells (#[.bool isb,.int .i64 sy,.int .u64 0,.bool false]) 193 (0,0))]) from by rw [<-ez2]; exact foot_set HF6.out (k:=2) rfl)
 clear n5 n6 hb5
 refine hK.out _ _ HH1 ?_
 clear hK K' HH0
 try simp only [Act.put,sjA,sj0,sjS]
 iterate 4
  refine anyT_auto (v:=?_) rfl (by kernel_rfl) (fun _ _ _ h=>h) (Or.inl ⟨by rfl,?_⟩) HH1 inv (fun inv=>?_)
  rotate_left
  ·intro w hSw
   try dsimp only at hSw
   go_simp
   try with_reducible rfl
  simp only [Act.put,sjA,sj0,sjS]
 refine anyT_next (i:=10) (o:={dst:=none,op:=.store 61 (.tmp 29) (.tmp 27),type:=0,pos := "look.go:124",after:=#[{on:=9,ground:=.data},{on:=7,ground:=.data},{on:=5,ground:=.chain},{on:=0,ground:=.phase},{on:=1,ground:=.phase},{on:=2,ground:=.phase},{on:=3,ground:=.phase},{on:=4,ground:=.phase},{on:=5,ground:=.phase},{on:=6,ground:=.phase},{on:=7,ground:=.phase},{on:=8,ground:=.textOnly Go.Departure.lateStores}],guard:=none}) (by kernel_rfl) rfl (by decide) inv (fun inv K' hK=>?_)
 go_simp
 refine hK.out _ _ HH2 ?_
 clear hK K'
 try simp only [Act.put,sjA,sj0,sjS]
 iterate 1
  refine anyT_auto (v:=?_) rfl (by kernel_rfl) (fun _ _ _ h=>h) (Or.inl ⟨by rfl,?_⟩) HH2 inv (fun inv=>?_)
  rotate_left
  ·intro w hSw
   try dsimp only at hSw
   go_simp
   try with_reducible rfl
  simp only [Act.put,sjA,sj0,sjS]
 refine anyT_one (i:=12) (o:={dst:=none,op:=.store 4 (.tmp 30) (.tmp 28),type:=0,pos := "look.go:124",after:=#[{on:=11,ground:=.data},{on:=8,ground:=.data},{on:=10,ground:=.chain},{on:=0,ground:=.phase},{on:=1,ground:=.phase},{on:=2,ground:=.phase},{on:=3,ground:=.phase},{on:=4,ground:=.phase},{on:=5,ground:=.phase},{on:=6,ground:=.phase},{on:=7,ground:=.phase},{on:=8,ground:=.phase},{on:=9,ground:=.phase},{on:=10,ground:=.phase}],guard:=none}) (by kernel_rfl) rfl (fun K' hK=>?_)
 go_simp
 refine hK.out _ _ (fun h=>absurd h (by decide)) ?_
 clear hK K'
 try simp only [Act.put,sjA,sj0,sjS]
 refine anyT_done (by kernel_rfl) ?_ _
 clear HH1 HH2 c51 f51 c60 f60 ez1 ez2 HF6 HF5 HFd HF4 KB
 have c70:z2.cell? ⟨bc,0,none⟩=some (.bool isb):=coQ (foot_at HF7.out (k:=2) rfl) 0
 have c71:z2.cell? ⟨bc,1,none⟩=some (.int .i64 sy):=coQ (foot_at HF7.out (k:=2) rfl) 1
 cases hbx:X14.behX G x with
 | none =>
  obtain ⟨h1,h2⟩:=HSY.out
  rw [hbx] at h1 h2
  obtain rfl:0=sy:=h1
  obtain rfl:false=isb:=h2
  have HF8:=hid (show Foot W.heap.size W z2 (spItems W.heap.size bS bA bC G gc LA LC qv Q rest ++ [blkI w.heap.size (.cells #[.int .i64 x.1,.int .i64 x.2] 60 (0,0)),blkI b1 (.cells (#[.bool false,.int .i64 0,.int .u64 0,.bool false]) 193 (0,0)),blkI bc (.cells (comC (comX G x)) 193 (0,0))]) from by rw [S13.comX_none hbx]; exact HF7.out)
  (try clear h1)
  (try clear h2)
  clear hbx HF7
  go_wp2_with fail
  clear c70 c71
  obtain ⟨wd,ewd⟩:=nmQ (z2.drew)
  have HFd:=hid (HF8.out.below (show Below z2.heap.size z2 wd by exact bdQ ewd))
  obtain ⟨wm,hrm,hmm,hgm⟩:=cmap_put (sp_mapC (rest:=rest ++ _) HFd.out) HX.out HNIN.out
  have HFM:=hid (sp_cput (rest:=rest ++ _) HFd.out hmm hgm)
  obtain ⟨m,hm⟩:=nmQ (comX G x)
  rw [hm] at hrm HFd HFM
  unfold itV comV at hrm
  have HM:=hid hm
  have HRM:=hid hrm
  have HFm:=hid (show Foot W.heap.size W wm (spItems W.heap.size bS bA bC G gc LA (LC ++ [x]) qv Q rest ++ [blkI w.heap.size (.cells #[.int .i64 x.1,.int .i64 x.2] 60 (0,0)),blkI b1 (.cells (#[.bool false,.int .i64 0,.int .u64 0,.bool false]) 193 (0,0)),blkI bc (.cells (comC m) 193 (0,0))]) from HFM.out)
  have HH0:wd.cell? ⟨bS,8,none⟩=some (.map (some bC))/\wd.cell? ⟨w.heap.size,0,none⟩=some (.int .i64 x.1)/\wd.cell? ⟨w.heap.size,1,none⟩=some (.int .i64 x.2)/\wd.cell? ⟨bc,0,none⟩=some (.bool m.is)/\wd.cell? ⟨bc,1,none⟩=some (.int .i64 m.sym)/\wd.cell? ⟨bc,2,none⟩=some (u64 m.fst)/\wd.cell? ⟨bc,3,none⟩=some (.bool m.emp):=⟨sp_c8 (rest:=rest ++ _) HFd.out hgl,coQ (foot_at HFd.out (k:=0) rfl) 0,coQ (foot_at HFd.out (k:=0) rfl) 1,coQ (foot_at HFd.out (k:=2) rfl) 0,coQ (foot_at HFd.out (k:=2) rfl) 1,coQ (foot_at HFd.out (k:=2) rfl) 2,coQ (foot_at HFd.out (k:=2) rfl) 3⟩
  clear hrm hmm hgm hm HFM
  refine region_T 6 (fun w'=>w'.cell? ⟨bS,8,none⟩=some (.map (some bC))/\w'.cell? ⟨w.heap.size,0,none⟩=some (.int .i64 x.1)/\w'.cell? ⟨w.heap.size,1,none⟩=some (.int .i64 x.2)/\w'.cell? ⟨bc,0,none⟩=some (.bool m.is)/\w'.cell? ⟨bc,1,none⟩=some (.int .i64 m.sym)/\w'.cell? ⟨bc,2,none⟩=some (u64 m.fst)/\w'.cell? ⟨bc,3,none⟩=some (.bool m.emp)) (by kernel_rfl) (by rw [ewd]; exact HH0) (fun inv hHeld=>?_)
  rw [ewd]
  clear hHeld ewd
  iterate 6
   refine anyT_auto (v:=?_) rfl (by kernel_rfl) (fun _ _ _ h=>h) (Or.inl ⟨by rfl,?_⟩) HH0 inv (fun inv=>?_)
   rotate_left
   ·intro w hSw
    try dsimp only at hSw
    go_simp
    try with_reducible rfl
   simp only [Act.put,sjA,sj0,sjS]
  refine anyT_one (i:=6) (o:={dst:=none,op:=.mapUpdate 153 (.tmp 72) (.tmp 73) (.tmp 74),type:=0,pos := "look.go:135",after:=#[{on:=3,ground:=.data},{on:=4,ground:=.data},{on:=5,ground:=.data},{on:=0,ground:=.phase},{on:=1,ground:=.phase},{on:=2,ground:=.phase},{on:=3,ground:=.phase},{on:=4,ground:=.phase},{on:=5,ground:=.phase}],guard:=none}) (by kernel_rfl) rfl (fun K' hK=>?_)
  simp only [Region.wanted]
  rw [if_pos trivial]
  refine wp_mput (.tmp 72) (.tmp 73) (.tmp 74) 153 rfl rfl (.agg #[.int .i64 x.1,.int .i64 x.2]) (.agg #[.bool m.is,.int .i64 m.sym,u64 m.fst,.bool m.emp]) rfl rfl HRM.out ?_
  refine hK.out _ _ (fun h=>absurd h (by decide)) ?_
  clear hK K'
  try simp only [Act.put,sjA,sj0,sjS]
  refine anyT_done (by kernel_rfl) ?_ _
  clear HH0 HFd
  have k0:wm.cell? ⟨bc,0,none⟩=some (.bool m.is):=coQ (foot_at HFm.out (k:=2) rfl) 0
  have k1:wm.cell? ⟨bc,1,none⟩=some (.int .i64 m.sym):=coQ (foot_at HFm.out (k:=2) rfl) 1
  have k2:wm.cell? ⟨bc,2,none⟩=some (u64 m.fst):=coQ (foot_at HFm.out (k:=2) rfl) 2
  have k3:wm.cell? ⟨bc,3,none⟩=some (.bool m.emp):=coQ (foot_at HFm.out (k:=2) rfl) 3
  have sn0:wm.heap[b1]?=some (.cells #[.bool false,.int .i64 0,.int .u64 0,.bool false] 193 (0,0)):=foot_at HFm.out (k:=1) rfl
  have sc0:wm.cell? ⟨b1,0,none⟩=some (.bool false):=coQ sn0 0
  have sf0:=foQ sn0 0
  obtain ⟨r1,se0⟩:=nmQ (wm.setCell ⟨b1,0,none⟩ (.bool m.is))
  have sn1:r1.heap[b1]?=some (.cells #[.bool m.is,.int .i64 0,.int .u64 0,.bool false] 193 (0,0)):=hsQ se0 sn0
  have sc1:r1.cell? ⟨b1,1,none⟩=some (.int .i64 0):=coQ sn1 1
  have sf1:=foQ sn1 1
  obtain ⟨r2,se1⟩:=nmQ (r1.setCell ⟨b1,1,none⟩ (.int .i64 m.sym))
  have sn2:r2.heap[b1]?=some (.cells #[.bool m.is,.int .i64 m.sym,.int .u64 0,.bool false] 193 (0,0)):=hsQ se1 sn1
  have sc2:r2.cell? ⟨b1,2,none⟩=some (.int .u64 0):=coQ sn2 2
  have sf2:=foQ sn2 2
  obtain ⟨r3,se2⟩:=nmQ (r2.setCell ⟨b1,2,none⟩ (u64 m.fst))
  have sn3:r3.heap[b1]?=some (.cells #[.bool m.is,.int .i64 m.sym,u64 m.fst,.bool false] 193 (0,0)):=hsQ se2 sn2
  have sc3:r3.cell? ⟨b1,3,none⟩=some (.bool false):=coQ sn3 3
  have sf3:=foQ sn3 3
  obtain ⟨r4,se3⟩:=nmQ (r3.setCell ⟨b1,3,none⟩ (.bool m.emp))
  have sn4:r4.heap[b1]?=some (.cells #[.bool m.is,.int .i64 m.sym,u64 m.fst,.bool m.emp] 193 (0,0)):=hsQ se3 sn3
  have HFR:=hid (show Foot W.heap.size W r4 (spItems W.heap.size bS bA bC G gc LA (LC ++ [x]) qv Q rest ++ [blkI w.heap.size (.cells #[.int .i64 x.1,.int .i64 x.2] 60 (0,0)),blkI b1 (.cells (comC m) 193 (0,0)),blkI bc (.cells (comC m) 193 (0,0))]) from by
   have:=foot_four HFm.out (k:=1) rfl (.bool m.is) (.int .i64 m.sym) (u64 m.fst) (.bool m.emp)
   rw [se0,se1,se2,se3] at this
   exact this)
  clear sn0 sn1 sn2 sn3 sn4
  go_wp2_with fail
  refine bodyPost_ret (results193 _ _ b1 m rfl (foot_at HFR.out (k:=1) rfl)) rfl ?_
  exact ⟨by rw [HM.out],(LC ++ [x]),foot_drops HFR.out⟩
 | some s =>
  obtain ⟨h1,h2⟩:=HSY.out
  rw [hbx] at h1 h2
  obtain rfl:s=sy:=h1
  obtain rfl:true=isb:=h2
  have HBX:=hid hbx
  (try clear h1)
  (try clear h2)
  clear hbx
  by_cases hs:s < 0
  ·have hs1:decide (s < 0)=true:=decide_eq_true hs
   have cb0:z2.cell? ⟨w.heap.size,0,none⟩=some (.int .i64 x.1):=coQ (foot_at HF7.out (k:=0) rfl) 0
   have ht:=X14.there_iff.1 (X14.beh_there HBX.out)
   by_cases hx0:0<=x.1
   ·have hx1:decide (0<=x.1)=true:=decide_eq_true hx0
    obtain ⟨tv1,ov1,sv1,pv1,tf,rv,hg⟩:=HG.out
    have hge:=hg.eq
    cases hge
    have hpl:x.1.toNat < G.prods.length:=by omega
    obtain ⟨pa1,pc1,hpe,hpn,hpx⟩:=hg.prods
    injection hpe with hpe1 hpe2 hpe3
    obtain ⟨pb,po,hpb,hpq⟩:=hpx (by omega)
    obtain ⟨_,_,hq3,_⟩:=hpq x.1.toNat hpl
    have hri:=hg.rights x.1.toNat hpl
    have hcap:=hg.caps x.1.toNat hpl
    have hrx:X14.rightX G x.1=(G.prods.getD x.1.toNat default).rs:=by unfold X14.rightX; rw [if_neg (by omega)]
    have hbx2:=HBX.out
    unfold X14.behX at hbx2
    rw [if_pos (X14.beh_there HBX.out),hrx] at hbx2
    have hqlt:=(List.getElem?_eq_some_iff.1 hbx2).1
    obtain ⟨⟨ra,rc,hre,hrn,hrq⟩,hrr⟩:=hri
    obtain ⟨rb,ro,hra,hrc⟩:=hrq (by omega)
    subst hra
    have hcap2:=hcap _ _ _ hre
    have hcut:=S13.cut_at hrc rfl hrr hrn hcap2 (x.2.toNat + 1)
    have hrest:S13.X15.restX G x=(G.prods.getD x.1.toNat default).rs.drop (x.2.toNat + 1):=by unfold S13.X15.restX; rw [hrx]
    obtain ⟨rl,hrl⟩:=nmQ ((G.prods.getD x.1.toNat default).rs.length)
    rw [hre] at hq3
    rw [hrl] at hq3 hcut hqlt hrn
    rw [<-hrest] at hcut
    obtain ⟨lo,ln,lc,hlv⟩:∃ lo ln lc,S13.cutV rb ro rl rc (x.2.toNat + 1)=.slice lo ln lc:=⟨_,_,_,rfl⟩
    rw [hlv] at hcut
    have hx2:x.2=(x.2.toNat:Int):=by omega
    have hwx:IntKind.i64.wrap (x.2 + 1)=x.2 + 1:=wrap_small (by omega) (by omega)
    have hrun:∀ w':World,(Instr.slice 64 (.slice (some ⟨rb,ro,none⟩) rl rc) (some (.int .i64 (x.2 + 1))) none none).run Tryz.prog w'=.ok (.slice lo ln lc) w':=fun w'=>by
     have h9:=S13.run_cut rb ro rl rc x.2.toNat (by omega) w'
     rw [<-hx2,hlv] at h9
     exact h9
    have HRUN:=hid hrun
    have hxn:x.1 < (np:Int):=by omega
    obtain ⟨wx,ewx⟩:=nmQ (z2.drew)
    have HFx:=hid (HF7.out.below (show Below z2.heap.size z2 wx by exact bdQ ewx))
    have hpb2:pa=some ⟨pb,po,none⟩:=hpe1.trans hpb
    clear hpe1 hpb
    subst hpb2
    have HLV:=hid (hcut.mono HFx.out.bel)
    have HH0:wx.cell? ⟨bS,3,none⟩=some (.slice (some ⟨pb,po,none⟩) np pc)/\wx.cell? ⟨w.heap.size,0,none⟩=some (.int .i64 x.1)/\wx.cell? ⟨w.heap.size,1,none⟩=some (.int .i64 x.2)/\wx.cell? ⟨pb,po + x.1.toNat * 4 + 2,none⟩=some (.slice (some ⟨rb,ro,none⟩) rl rc):=⟨sp_cg (rest:=rest ++ _) HFx.out (k:=3) (by rw [<-HGC.out]; rfl),coQ (foot_at HFx.out (k:=0) rfl) 0,coQ (foot_at HFx.out (k:=0) rfl) 1,cell_below HFx.out.bel hq3⟩
    clear hx2 hpe2 hpe3 hpx hpq hq3 hcap hrx hbx2 hrq hrc hrr hcap2 hcut hrest hlv hrun hre hg
    go_wp2_with fail
    refine region_T 14 (fun w'=>w'.cell? ⟨bS,3,none⟩=some (.slice (some ⟨pb,po,none⟩) np pc)/\w'.cell? ⟨w.heap.size,0,none⟩=some (.int .i64 x.1)/\w'.cell? ⟨w.heap.size,1,none⟩=some (.int .i64 x.2)/\w'.cell? ⟨pb,po + x.1.toNat * 4 + 2,none⟩=some (.slice (some ⟨rb,ro,none⟩) rl rc)) (by kernel_rfl) (by rw [ewx]; exact HH0) (fun inv hHeld=>?_)
    rw [ewx]
    clear hHeld ewx
    iterate 13
     refine anyT_auto (v:=?_) rfl (by kernel_rfl) (fun _ _ _ h=>h) (Or.inl ⟨by rfl,?_⟩) HH0 inv (fun inv=>?_)
     rotate_left
     ·intro w hSw
      try dsimp only at hSw
      go_simp
      try with_reducible rfl
     simp only [Act.put,sjA,sj0,sjS]
    refine anyT_take (i:=13) (oi:={dst:=some 54,op:=.slice 64 (.tmp 50) (some (.tmp 53)) none none,type:=64,pos := "look.go:128",after:=#[{on:=9,ground:=.data},{on:=12,ground:=.data}],guard:=none}) (v:=.slice lo ln lc) rfl (by kernel_rfl) (by kernel_rfl) (by kernel_rfl) (by decide) (by decide) (by kernel_rfl) (by kernel_rfl) (fun _ _ _ h=>h) (Or.inl ⟨by rfl,?_⟩) HH0 inv (fun inv=>?_)
    ·intro w hSw
     try dsimp only at hSw
     exact slice_exec rfl rfl rfl (by kernel_rfl) (HRUN.out w)
    simp only [Act.put,sjA,sj0,sjS]
    refine anyT_one (i:=14) (o:={dst:=some 7,op:=.assign (.tmp 54),type:=64,pos := "look.go:128",after:=#[{on:=13,ground:=.data},{on:=0,ground:=.phase},{on:=1,ground:=.phase},{on:=2,ground:=.phase},{on:=3,ground:=.phase},{on:=4,ground:=.phase},{on:=5,ground:=.phase},{on:=6,ground:=.phase},{on:=7,ground:=.phase},{on:=8,ground:=.phase},{on:=9,ground:=.phase},{on:=10,ground:=.phase},{on:=11,ground:=.phase},{on:=12,ground:=.phase},{on:=13,ground:=.phase}],guard:=none}) (by kernel_rfl) rfl (fun K' hK=>?_)
    go_simp
    refine hK.out _ _ (fun h=>absurd h (by decide)) ?_
    clear hK K'
    try simp only [Act.put,sjA,sj0,sjS]
    refine anyT_done (by kernel_rfl) ?_ _
    clear HH0
    go_wp2_with fail
    obtain ⟨wd,ewd⟩:=nmQ (wx.drew)
    have hbd:Below wx.heap.size wx wd:=bdQ ewd
    have HFd:=hid (HFx.out.below hbd)
    have HH0:wd.cell? ⟨bS,0,none⟩=some tv/\wd.cell? ⟨bS,1,none⟩=some ov/\wd.cell? ⟨bS,2,none⟩=some sv/\wd.cell? ⟨bS,3,none⟩=some (.slice (some ⟨pb,po,none⟩) np pc)/\wd.cell? ⟨bS,4,none⟩=some (.int .i64 G.start):=⟨sp_cg (rest:=rest ++ _) HFd.out (k:=0) (by rw [<-HGC.out]; rfl),sp_cg (rest:=rest ++ _) HFd.out (k:=1) (by rw [<-HGC.out]; rfl),sp_cg (rest:=rest ++ _) HFd.out (k:=2) (by rw [<-HGC.out]; rfl),sp_cg (rest:=rest ++ _) HFd.out (k:=3) (by rw [<-HGC.out]; rfl),sp_cg (rest:=rest ++ _) HFd.out (k:=4) (by rw [<-HGC.out]; rfl)⟩
    obtain ⟨wl,ewl⟩:=nmQ (wd.alloc (.cells #[.int .i64 63] 3))
    have hbl:Below wd.heap.size wd wl:=baQ ewl
    have hcl:wl.cell? ⟨wd.heap.size,0,none⟩=some (.int .i64 63):=coQ (show wl.heap[wd.heap.size]?=some (.cells #[.int .i64 63] 3 (0,0)) by rw [<-ewl]; exact new_block _ _) 0
    have HFl:=hid (HFd.out.below hbl)
    have HH1:wl.cell? ⟨bS,0,none⟩=some tv/\wl.cell? ⟨bS,1,none⟩=some ov/\wl.cell? ⟨bS,2,none⟩=some sv/\wl.cell? ⟨bS,3,none⟩=some (.slice (some ⟨pb,po,none⟩) np pc)/\wl.cell? ⟨bS,4,none⟩=some (.int .i64 G.start):=⟨sp_cg (rest:=rest ++ _) HFl.out (k:=0) (by rw [<-HGC.out]; rfl),sp_cg (rest:=rest ++ _) HFl.out (k:=1) (by rw [<-HGC.out]; rfl),sp_cg (rest:=rest ++ _) HFl.out (k:=2) (by rw [<-HGC.out]; rfl),sp_cg (rest:=rest ++ _) HFl.out (k:=3) (by rw [<-HGC.out]; rfl),sp_cg (rest:=rest ++ _) HFl.out (k:=4) (by rw [<-HGC.out]; rfl)⟩
    have HLV2:=hid ((HLV.out.mono hbd).mono hbl)
    have KO:=hid (S13.of63 wl wd.heap.size hcl)
    obtain ⟨tv0,ov0,sv0,pv0,tf0,rv0,hg0⟩:=HG.out.below HFl.out.bel
    have KF:=hid (S13.Of_any hg0 HV.out HLV2.out (b:=bitN 63) (by decide))
    clear hbd hbl hcl
    refine region_T 8 (fun w'=>w'.cell? ⟨bS,0,none⟩=some tv/\w'.cell? ⟨bS,1,none⟩=some ov/\w'.cell? ⟨bS,2,none⟩=some sv/\w'.cell? ⟨bS,3,none⟩=some (.slice (some ⟨pb,po,none⟩) np pc)/\w'.cell? ⟨bS,4,none⟩=some (.int .i64 G.start)) (by kernel_rfl) (by rw [ewd]; exact HH0) (fun inv hHeld=>?_)
    rw [ewd]
    clear hHeld ewd
    iterate 5
     refine anyT_auto (v:=?_) rfl (by kernel_rfl) (fun _ _ _ h=>h) (Or.inl ⟨by rfl,?_⟩) HH0 inv (fun inv=>?_)
     rotate_left
     ·intro w hSw
      try dsimp only at hSw
      go_simp
      try with_reducible rfl
     simp only [Act.put,sjA,sj0,sjS]
    refine anyT_next (i:=5) (o:={dst:=some 60,op:=.buildSlice 43 1 #[(0,.const (.int .i64 63))],type:=43,pos := "look.go:131",after:=#[],guard:=none}) (by kernel_rfl) rfl (by decide) inv (fun inv K' hK=>?_)
    go_simp
    refine hK.out _ _ HH1 ?_
    clear hK K' HH0
    try simp only [Act.put,sjA,sj0,sjS]
    refine anyT_next (i:=6) (o:={dst:=some 61,op:=.call {callee:=.value (.func 31),args:=#[.tmp 60],argTypes:=#[43]},type:=69,pos := "look.go:131",after:=#[{on:=5,ground:=.data}],guard:=none}) (by kernel_rfl) rfl (by decide) inv (fun inv K' hK=>?_)
    go_simp
    refine KO.out.mono ?_
    rintro e w2 ⟨rfl,rfl⟩
    refine hK.out _ _ HH1 ?_
    clear hK K'
    try simp only [Act.put,sjA,sj0,sjS]
    refine anyT_next (i:=7) (o:={dst:=some 62,op:=.call {callee:=.value (.func 29),args:=#[.tmp 58,.tmp 59,.tmp 61],argTypes:=#[27,64,69]},type:=69,pos := "look.go:131",after:=#[{on:=3,ground:=.data},{on:=4,ground:=.data},{on:=6,ground:=.data},{on:=6,ground:=.chain}],guard:=none}) (by kernel_rfl) rfl (by decide) inv (fun inv K' hK=>?_)
    go_simp
    refine KF.out.mono ?_
    rintro e w8 ⟨E,F,rfl,hE,hF,hb8⟩
    obtain rfl:E=S13.E0 G:=hE.same (S13.e0_least HV.out)
    obtain rfl:F=S13.F0 G:=hF.sameN (S13.f0_least HV.out) (S13.evF_mono _ _ _ _)
    have HF9:=hid (HFl.out.below hb8)
    have HH2:w8.cell? ⟨bS,0,none⟩=some tv/\w8.cell? ⟨bS,1,none⟩=some ov/\w8.cell? ⟨bS,2,none⟩=some sv/\w8.cell? ⟨bS,3,none⟩=some (.slice (some ⟨pb,po,none⟩) np pc)/\w8.cell? ⟨bS,4,none⟩=some (.int .i64 G.start):=⟨sp_cg (rest:=rest ++ _) HF9.out (k:=0) (by rw [<-HGC.out]; rfl),sp_cg (rest:=rest ++ _) HF9.out (k:=1) (by rw [<-HGC.out]; rfl),sp_cg (rest:=rest ++ _) HF9.out (k:=2) (by rw [<-HGC.out]; rfl),sp_cg (rest:=rest ++ _) HF9.out (k:=3) (by rw [<-HGC.out]; rfl),sp_cg (rest:=rest ++ _) HF9.out (k:=4) (by rw [<-HGC.out]; rfl)⟩
    have hlt:=S13.ofRow_lt G.terms.length (S13.E0 G) (S13.f0_least HV.out).2.2 (S13.X15.restX G x) (b:=bitN 63) (by decide)
    have hnul:=S13.X15.rest_has (E:=S13.E0 G) (S13.f0_noEnd HV.out) (valid_parts HV.out).1 (S13.X15.restX G x)
    have hfst:=S13.X15.rest_first (E:=S13.E0 G) (S13.f0_noEnd HV.out) (valid_parts HV.out).1 (S13.X15.restX G x)
    have HCX:=hid (S13.comX_sort HBX.out hs)
    generalize S13.ofRow G.terms.length (S13.E0 G) (S13.F0 G) (S13.X15.restX G x) (bitN 63)=val at *
    generalize S13.ofRow G.terms.length (S13.E0 G) (S13.F0 G) (S13.X15.restX G x) 0=fs at *
    generalize S13.X15.nulB (S13.E0 G) (S13.F0 G).length (S13.X15.restX G x)=nb at *
    refine hK.out _ _ HH2 ?_
    clear hK K' HH1 hE hF hb8
    try simp only [Act.put,sjA,sj0,sjS]
    refine anyT_one (i:=8) (o:={dst:=some 8,op:=.assign (.tmp 62),type:=69,pos := "look.go:131",after:=#[{on:=7,ground:=.data},{on:=7,ground:=.chain},{on:=0,ground:=.phase},{on:=1,ground:=.phase},{on:=2,ground:=.phase},{on:=3,ground:=.phase},{on:=4,ground:=.phase},{on:=5,ground:=.phase},{on:=6,ground:=.phase},{on:=7,ground:=.phase}],guard:=none}) (by kernel_rfl) rfl (fun K' hK=>?_)
    go_simp
    refine hK.out _ _ (fun h=>absurd h (by decide)) ?_
    clear hK K'
    try simp only [Act.put,sjA,sj0,sjS]
    refine anyT_done (by kernel_rfl) ?_ _
    clear HH2 KF KO HLV2 hg0 HLV
    have hhas:S13.hasN val 63=nb:=by
     rw [<-hnul]
     unfold S13.hasN
     cases hb:val.testBit 63
     ·refine decide_eq_false fun h=>?_
      have:=((S13.and_bitN_ne val 63).1 h).2.2
      rw [show (63:Int).toNat=63 by decide,hb] at this
      cases this
     ·exact decide_eq_true ((S13.and_bitN_ne val 63).2 ⟨by decide,by decide,hb⟩)
    have n9:=foot_at HF9.out (k:=2) rfl
    have c93:w8.cell? ⟨bc,3,none⟩=some (.bool false):=coQ n9 3
    have f93:=foQ n9 3
    obtain ⟨y1,ey1⟩:=nmQ (w8.setCell ⟨bc,3,none⟩ (.bool nb))
    have HFy:=hid (show Foot W.heap.size W y1 (spItems W.heap.size bS bA bC G gc LA LC qv Q rest ++ [blkI w.heap.size (.cells #[.int .i64 x.1,.int .i64 x.2] 60 (0,0)),blkI b1 (.cells (#[.bool false,.int .i64 0,.int .u64 0,.bool false]) 193 (0,0)),blkI bc (.cells (#[.bool true,.int .i64 s,.int .u64 0,.bool nb]) 193 (0,0))]) from by rw [<-ey1]; exact foot_set HF9.out (k:=2) rfl)
    have ny:=foot_at HFy.out (k:=2) rfl
    have cy2:y1.cell? ⟨bc,2,none⟩=some (.int .u64 0):=coQ ny 2
    have fy2:=foQ ny 2
    obtain ⟨y2,ey2⟩:=nmQ (y1.setCell ⟨bc,2,none⟩ (u64 fs))
    have HF8:=hid (show Foot W.heap.size W y2 (spItems W.heap.size bS bA bC G gc LA LC qv Q rest ++ [blkI w.heap.size (.cells #[.int .i64 x.1,.int .i64 x.2] 60 (0,0)),blkI b1 (.cells (#[.bool false,.int .i64 0,.int .u64 0,.bool false]) 193 (0,0)),blkI bc (.cells (comC (comX G x)) 193 (0,0))]) from by rw [HCX.out,<-ey2]; exact foot_set HFy.out (k:=2) rfl)
    clear n9 ny hnul
    go_wp2_with fail
    refine (S13.Has_any val 63 hlt w8).mono ?_
    rintro e w2 ⟨rfl,rfl⟩
    rw [hhas]
    go_wp2_with fail
    refine (S13.Without_any val 63 hlt y1).mono ?_
    rintro e w2 ⟨rfl,rfl⟩
    rw [hfst]
    go_wp2_with fail
    clear c93 f93 cy2 fy2 ey1 ey2 HFy HF9 hhas hfst hlt ewl
    obtain ⟨wd,ewd⟩:=nmQ (y2.drew)
    have HFd:=hid (HF8.out.below (show Below y2.heap.size y2 wd by exact bdQ ewd))
    obtain ⟨wm,hrm,hmm,hgm⟩:=cmap_put (sp_mapC (rest:=rest ++ _) HFd.out) HX.out HNIN.out
    have HFM:=hid (sp_cput (rest:=rest ++ _) HFd.out hmm hgm)
    obtain ⟨m,hm⟩:=nmQ (comX G x)
    rw [hm] at hrm HFd HFM
    unfold itV comV at hrm
    have HM:=hid hm
    have HRM:=hid hrm
    have HFm:=hid (show Foot W.heap.size W wm (spItems W.heap.size bS bA bC G gc LA (LC ++ [x]) qv Q rest ++ [blkI w.heap.size (.cells #[.int .i64 x.1,.int .i64 x.2] 60 (0,0)),blkI b1 (.cells (#[.bool false,.int .i64 0,.int .u64 0,.bool false]) 193 (0,0)),blkI bc (.cells (comC m) 193 (0,0))]) from HFM.out)
    have HH0:wd.cell? ⟨bS,8,none⟩=some (.map (some bC))/\wd.cell? ⟨w.heap.size,0,none⟩=some (.int .i64 x.1)/\wd.cell? ⟨w.heap.size,1,none⟩=some (.int .i64 x.2)/\wd.cell? ⟨bc,0,none⟩=some (.bool m.is)/\wd.cell? ⟨bc,1,none⟩=some (.int .i64 m.sym)/\wd.cell? ⟨bc,2,none⟩=some (u64 m.fst)/\wd.cell? ⟨bc,3,none⟩=some (.bool m.emp):=⟨sp_c8 (rest:=rest ++ _) HFd.out hgl,coQ (foot_at HFd.out (k:=0) rfl) 0,coQ (foot_at HFd.out (k:=0) rfl) 1,coQ (foot_at HFd.out (k:=2) rfl) 0,coQ (foot_at HFd.out (k:=2) rfl) 1,coQ (foot_at HFd.out (k:=2) rfl) 2,coQ (foot_at HFd.out (k:=2) rfl) 3⟩
    clear hrm hmm hgm hm HFM
    refine region_T 6 (fun w'=>w'.cell? ⟨bS,8,none⟩=some (.map (some bC))/\w'.cell? ⟨w.heap.size,0,none⟩=some (.int .i64 x.1)/\w'.cell? ⟨w.heap.size,1,none⟩=some (.int .i64 x.2)/\w'.cell? ⟨bc,0,none⟩=some (.bool m.is)/\w'.cell? ⟨bc,1,none⟩=some (.int .i64 m.sym)/\w'.cell? ⟨bc,2,none⟩=some (u64 m.fst)/\w'.cell? ⟨bc,3,none⟩=some (.bool m.emp)) (by kernel_rfl) (by rw [ewd]; exact HH0) (fun inv hHeld=>?_)
    rw [ewd]
    clear hHeld ewd
    iterate 6
     refine anyT_auto (v:=?_) rfl (by kernel_rfl) (fun _ _ _ h=>h) (Or.inl ⟨by rfl,?_⟩) HH0 inv (fun inv=>?_)
     rotate_left
     ·intro w hSw
      try dsimp only at hSw
      go_simp
      try with_reducible rfl
     simp only [Act.put,sjA,sj0,sjS]
    refine anyT_one (i:=6) (o:={dst:=none,op:=.mapUpdate 153 (.tmp 72) (.tmp 73) (.tmp 74),type:=0,pos := "look.go:135",after:=#[{on:=3,ground:=.data},{on:=4,ground:=.data},{on:=5,ground:=.data},{on:=0,ground:=.phase},{on:=1,ground:=.phase},{on:=2,ground:=.phase},{on:=3,ground:=.phase},{on:=4,ground:=.phase},{on:=5,ground:=.phase}],guard:=none}) (by kernel_rfl) rfl (fun K' hK=>?_)
    simp only [Region.wanted]
    rw [if_pos trivial]
    refine wp_mput (.tmp 72) (.tmp 73) (.tmp 74) 153 rfl rfl (.agg #[.int .i64 x.1,.int .i64 x.2]) (.agg #[.bool m.is,.int .i64 m.sym,u64 m.fst,.bool m.emp]) rfl rfl HRM.out ?_
    refine hK.out _ _ (fun h=>absurd h (by decide)) ?_
    clear hK K'
    try simp only [Act.put,sjA,sj0,sjS]
    refine anyT_done (by kernel_rfl) ?_ _
    clear HH0 HFd
    have k0:wm.cell? ⟨bc,0,none⟩=some (.bool m.is):=coQ (foot_at HFm.out (k:=2) rfl) 0
    have k1:wm.cell? ⟨bc,1,none⟩=some (.int .i64 m.sym):=coQ (foot_at HFm.out (k:=2) rfl) 1
    have k2:wm.cell? ⟨bc,2,none⟩=some (u64 m.fst):=coQ (foot_at HFm.out (k:=2) rfl) 2
    have k3:wm.cell? ⟨bc,3,none⟩=some (.bool m.emp):=coQ (foot_at HFm.out (k:=2) rfl) 3
    have sn0:wm.heap[b1]?=some (.cells #[.bool false,.int .i64 0,.int .u64 0,.bool false] 193 (0,0)):=foot_at HFm.out (k:=1) rfl
    have sc0:wm.cell? ⟨b1,0,none⟩=some (.bool false):=coQ sn0 0
    have sf0:=foQ sn0 0
    obtain ⟨r1,se0⟩:=nmQ (wm.setCell ⟨b1,0,none⟩ (.bool m.is))
    have sn1:r1.heap[b1]?=some (.cells #[.bool m.is,.int .i64 0,.int .u64 0,.bool false] 193 (0,0)):=hsQ se0 sn0
    have sc1:r1.cell? ⟨b1,1,none⟩=some (.int .i64 0):=coQ sn1 1
    have sf1:=foQ sn1 1
    obtain ⟨r2,se1⟩:=nmQ (r1.setCell ⟨b1,1,none⟩ (.int .i64 m.sym))
    have sn2:r2.heap[b1]?=some (.cells #[.bool m.is,.int .i64 m.sym,.int .u64 0,.bool false] 193 (0,0)):=hsQ se1 sn1
    have sc2:r2.cell? ⟨b1,2,none⟩=some (.int .u64 0):=coQ sn2 2
    have sf2:=foQ sn2 2
    obtain ⟨r3,se2⟩:=nmQ (r2.setCell ⟨b1,2,none⟩ (u64 m.fst))
    have sn3:r3.heap[b1]?=some (.cells #[.bool m.is,.int .i64 m.sym,u64 m.fst,.bool false] 193 (0,0)):=hsQ se2 sn2
    have sc3:r3.cell? ⟨b1,3,none⟩=some (.bool false):=coQ sn3 3
    have sf3:=foQ sn3 3
    obtain ⟨r4,se3⟩:=nmQ (r3.setCell ⟨b1,3,none⟩ (.bool m.emp))
    have sn4:r4.heap[b1]?=some (.cells #[.bool m.is,.int .i64 m.sym,u64 m.fst,.bool m.emp] 193 (0,0)):=hsQ se3 sn3
    have HFR:=hid (show Foot W.heap.size W r4 (spItems W.heap.size bS bA bC G gc LA (LC ++ [x]) qv Q rest ++ [blkI w.heap.size (.cells #[.int .i64 x.1,.int .i64 x.2] 60 (0,0)),blkI b1 (.cells (comC m) 193 (0,0)),blkI bc (.cells (comC m) 193 (0,0))]) from by
     have:=foot_four HFm.out (k:=1) rfl (.bool m.is) (.int .i64 m.sym) (u64 m.fst) (.bool m.emp)
     rw [se0,se1,se2,se3] at this
     exact this)
    clear sn0 sn1 sn2 sn3 sn4
    go_wp2_with fail
    refine bodyPost_ret (results193 _ _ b1 m rfl (foot_at HFR.out (k:=1) rfl)) rfl ?_
    exact ⟨by rw [HM.out],(LC ++ [x]),foot_drops HFR.out⟩
   ·have hx1:decide (0<=x.1)=false:=decide_eq_false hx0
    have hrest:S13.X15.restX G x=[]:=by
     have h1:x.1=-1:=by omega
     have h2:(X14.rightX G x.1).length=1:=by rw [h1]; rfl
     unfold S13.X15.restX
     exact List.drop_eq_nil_of_le (by omega)
    have HLV:=hid (show IntsAt z2 (.slice none 0 0) (S13.X15.restX G x) from by rw [hrest]; exact ⟨⟨none,0,rfl,Nat.zero_le _,fun h=>absurd h (Nat.lt_irrefl _)⟩,fun y hy=>by cases hy⟩)
    clear hrest
    go_wp2_with fail
    obtain ⟨wd,ewd⟩:=nmQ (z2.drew)
    have hbd:Below z2.heap.size z2 wd:=bdQ ewd
    have HFd:=hid (HF7.out.below hbd)
    have HH0:wd.cell? ⟨bS,0,none⟩=some tv/\wd.cell? ⟨bS,1,none⟩=some ov/\wd.cell? ⟨bS,2,none⟩=some sv/\wd.cell? ⟨bS,3,none⟩=some (.slice pa np pc)/\wd.cell? ⟨bS,4,none⟩=some (.int .i64 G.start):=⟨sp_cg (rest:=rest ++ _) HFd.out (k:=0) (by rw [<-HGC.out]; rfl),sp_cg (rest:=rest ++ _) HFd.out (k:=1) (by rw [<-HGC.out]; rfl),sp_cg (rest:=rest ++ _) HFd.out (k:=2) (by rw [<-HGC.out]; rfl),sp_cg (rest:=rest ++ _) HFd.out (k:=3) (by rw [<-HGC.out]; rfl),sp_cg (rest:=rest ++ _) HFd.out (k:=4) (by rw [<-HGC.out]; rfl)⟩
    obtain ⟨wl,ewl⟩:=nmQ (wd.alloc (.cells #[.int .i64 63] 3))
    have hbl:Below wd.heap.size wd wl:=baQ ewl
    have hcl:wl.cell? ⟨wd.heap.size,0,none⟩=some (.int .i64 63):=coQ (show wl.heap[wd.heap.size]?=some (.cells #[.int .i64 63] 3 (0,0)) by rw [<-ewl]; exact new_block _ _) 0
    have HFl:=hid (HFd.out.below hbl)
    have HH1:wl.cell? ⟨bS,0,none⟩=some tv/\wl.cell? ⟨bS,1,none⟩=some ov/\wl.cell? ⟨bS,2,none⟩=some sv/\wl.cell? ⟨bS,3,none⟩=some (.slice pa np pc)/\wl.cell? ⟨bS,4,none⟩=some (.int .i64 G.start):=⟨sp_cg (rest:=rest ++ _) HFl.out (k:=0) (by rw [<-HGC.out]; rfl),sp_cg (rest:=rest ++ _) HFl.out (k:=1) (by rw [<-HGC.out]; rfl),sp_cg (rest:=rest ++ _) HFl.out (k:=2) (by rw [<-HGC.out]; rfl),sp_cg (rest:=rest ++ _) HFl.out (k:=3) (by rw [<-HGC.out]; rfl),sp_cg (rest:=rest ++ _) HFl.out (k:=4) (by rw [<-HGC.out]; rfl)⟩
    have HLV2:=hid ((HLV.out.mono hbd).mono hbl)
    have KO:=hid (S13.of63 wl wd.heap.size hcl)
    obtain ⟨tv0,ov0,sv0,pv0,tf0,rv0,hg0⟩:=HG.out.below HFl.out.bel
    have KF:=hid (S13.Of_any hg0 HV.out HLV2.out (b:=bitN 63) (by decide))
    clear hbd hbl hcl
    refine region_T 8 (fun w'=>w'.cell? ⟨bS,0,none⟩=some tv/\w'.cell? ⟨bS,1,none⟩=some ov/\w'.cell? ⟨bS,2,none⟩=some sv/\w'.cell? ⟨bS,3,none⟩=some (.slice pa np pc)/\w'.cell? ⟨bS,4,none⟩=some (.int .i64 G.start)) (by kernel_rfl) (by rw [ewd]; exact HH0) (fun inv hHeld=>?_)
    rw [ewd]
    clear hHeld ewd
    iterate 5
     refine anyT_auto (v:=?_) rfl (by kernel_rfl) (fun _ _ _ h=>h) (Or.inl ⟨by rfl,?_⟩) HH0 inv (fun inv=>?_)
     rotate_left
     ·intro w hSw
      try dsimp only at hSw
      go_simp
      try with_reducible rfl
     simp only [Act.put,sjA,sj0,sjS]
    refine anyT_next (i:=5) (o:={dst:=some 60,op:=.buildSlice 43 1 #[(0,.const (.int .i64 63))],type:=43,pos := "look.go:131",after:=#[],guard:=none}) (by kernel_rfl) rfl (by decide) inv (fun inv K' hK=>?_)
    go_simp
    refine hK.out _ _ HH1 ?_
    clear hK K' HH0
    try simp only [Act.put,sjA,sj0,sjS]
    refine anyT_next (i:=6) (o:={dst:=some 61,op:=.call {callee:=.value (.func 31),args:=#[.tmp 60],argTypes:=#[43]},type:=69,pos := "look.go:131",after:=#[{on:=5,ground:=.data}],guard:=none}) (by kernel_rfl) rfl (by decide) inv (fun inv K' hK=>?_)
    go_simp
    refine KO.out.mono ?_
    rintro e w2 ⟨rfl,rfl⟩
    refine hK.out _ _ HH1 ?_
    clear hK K'
    try simp only [Act.put,sjA,sj0,sjS]
    refine anyT_next (i:=7) (o:={dst:=some 62,op:=.call {callee:=.value (.func 29),args:=#[.tmp 58,.tmp 59,.tmp 61],argTypes:=#[27,64,69]},type:=69,pos := "look.go:131",after:=#[{on:=3,ground:=.data},{on:=4,ground:=.data},{on:=6,ground:=.data},{on:=6,ground:=.chain}],guard:=none}) (by kernel_rfl) rfl (by decide) inv (fun inv K' hK=>?_)
    go_simp
    refine KF.out.mono ?_
    rintro e w8 ⟨E,F,rfl,hE,hF,hb8⟩
    obtain rfl:E=S13.E0 G:=hE.same (S13.e0_least HV.out)
    obtain rfl:F=S13.F0 G:=hF.sameN (S13.f0_least HV.out) (S13.evF_mono _ _ _ _)
    have HF9:=hid (HFl.out.below hb8)
    have HH2:w8.cell? ⟨bS,0,none⟩=some tv/\w8.cell? ⟨bS,1,none⟩=some ov/\w8.cell? ⟨bS,2,none⟩=some sv/\w8.cell? ⟨bS,3,none⟩=some (.slice pa np pc)/\w8.cell? ⟨bS,4,none⟩=some (.int .i64 G.start):=⟨sp_cg (rest:=rest ++ _) HF9.out (k:=0) (by rw [<-HGC.out]; rfl),sp_cg (rest:=rest ++ _) HF9.out (k:=1) (by rw [<-HGC.out]; rfl),sp_cg (rest:=rest ++ _) HF9.out (k:=2) (by rw [<-HGC.out]; rfl),sp_cg (rest:=rest ++ _) HF9.out (k:=3) (by rw [<-HGC.out]; rfl),sp_cg (rest:=rest ++ _) HF9.out (k:=4) (by rw [<-HGC.out]; rfl)⟩
    have hlt:=S13.ofRow_lt G.terms.length (S13.E0 G) (S13.f0_least HV.out).2.2 (S13.X15.restX G x) (b:=bitN 63) (by decide)
    have hnul:=S13.X15.rest_has (E:=S13.E0 G) (S13.f0_noEnd HV.out) (valid_parts HV.out).1 (S13.X15.restX G x)
    have hfst:=S13.X15.rest_first (E:=S13.E0 G) (S13.f0_noEnd HV.out) (valid_parts HV.out).1 (S13.X15.restX G x)
    have HCX:=hid (S13.comX_sort HBX.out hs)
    generalize S13.ofRow G.terms.length (S13.E0 G) (S13.F0 G) (S13.X15.restX G x) (bitN 63)=val at *
    generalize S13.ofRow G.terms.length (S13.E0 G) (S13.F0 G) (S13.X15.restX G x) 0=fs at *
    generalize S13.X15.nulB (S13.E0 G) (S13.F0 G).length (S13.X15.restX G x)=nb at *
    refine hK.out _ _ HH2 ?_
    clear hK K' HH1 hE hF hb8
    try simp only [Act.put,sjA,sj0,sjS]
    refine anyT_one (i:=8) (o:={dst:=some 8,op:=.assign (.tmp 62),type:=69,pos := "look.go:131",after:=#[{on:=7,ground:=.data},{on:=7,ground:=.chain},{on:=0,ground:=.phase},{on:=1,ground:=.phase},{on:=2,ground:=.phase},{on:=3,ground:=.phase},{on:=4,ground:=.phase},{on:=5,ground:=.phase},{on:=6,ground:=.phase},{on:=7,ground:=.phase}],guard:=none}) (by kernel_rfl) rfl (fun K' hK=>?_)
    go_simp
    refine hK.out _ _ (fun h=>absurd h (by decide)) ?_
    clear hK K'
    try simp only [Act.put,sjA,sj0,sjS]
    refine anyT_done (by kernel_rfl) ?_ _
    clear HH2 KF KO HLV2 hg0 HLV
    have hhas:S13.hasN val 63=nb:=by
     rw [<-hnul]
     unfold S13.hasN
     cases hb:val.testBit 63
     ·refine decide_eq_false fun h=>?_
      have:=((S13.and_bitN_ne val 63).1 h).2.2
      rw [show (63:Int).toNat=63 by decide,hb] at this
      cases this
     ·exact decide_eq_true ((S13.and_bitN_ne val 63).2 ⟨by decide,by decide,hb⟩)
    have n9:=foot_at HF9.out (k:=2) rfl
    have c93:w8.cell? ⟨bc,3,none⟩=some (.bool false):=coQ n9 3
    have f93:=foQ n9 3
    obtain ⟨y1,ey1⟩:=nmQ (w8.setCell ⟨bc,3,none⟩ (.bool nb))
    have HFy:=hid (show Foot W.heap.size W y1 (spItems W.heap.size bS bA bC G gc LA LC qv Q rest ++ [blkI w.heap.size (.cells #[.int .i64 x.1,.int .i64 x.2] 60 (0,0)),blkI b1 (.cells (#[.bool false,.int .i64 0,.int .u64 0,.bool false]) 193 (0,0)),blkI bc (.cells (#[.bool true,.int .i64 s,.int .u64 0,.bool nb]) 193 (0,0))]) from by rw [<-ey1]; exact foot_set HF9.out (k:=2) rfl)
    have ny:=foot_at HFy.out (k:=2) rfl
    have cy2:y1.cell? ⟨bc,2,none⟩=some (.int .u64 0):=coQ ny 2
    have fy2:=foQ ny 2
    obtain ⟨y2,ey2⟩:=nmQ (y1.setCell ⟨bc,2,none⟩ (u64 fs))
    have HF8:=hid (show Foot W.heap.size W y2 (spItems W.heap.size bS bA bC G gc LA LC qv Q rest ++ [blkI w.heap.size (.cells #[.int .i64 x.1,.int .i64 x.2] 60 (0,0)),blkI b1 (.cells (#[.bool false,.int .i64 0,.int .u64 0,.bool false]) 193 (0,0)),blkI bc (.cells (comC (comX G x)) 193 (0,0))]) from by rw [HCX.out,<-ey2]; exact foot_set HFy.out (k:=2) rfl)
    clear n9 ny hnul
    go_wp2_with fail
    refine (S13.Has_any val 63 hlt w8).mono ?_
    rintro e w2 ⟨rfl,rfl⟩
    rw [hhas]
    go_wp2_with fail
    refine (S13.Without_any val 63 hlt y1).mono ?_
    rintro e w2 ⟨rfl,rfl⟩
    rw [hfst]
    go_wp2_with fail
    clear c93 f93 cy2 fy2 ey1 ey2 HFy HF9 hhas hfst hlt ewl
    obtain ⟨wd,ewd⟩:=nmQ (y2.drew)
    have HFd:=hid (HF8.out.below (show Below y2.heap.size y2 wd by exact bdQ ewd))
    obtain ⟨wm,hrm,hmm,hgm⟩:=cmap_put (sp_mapC (rest:=rest ++ _) HFd.out) HX.out HNIN.out
    have HFM:=hid (sp_cput (rest:=rest ++ _) HFd.out hmm hgm)
    obtain ⟨m,hm⟩:=nmQ (comX G x)
    rw [hm] at hrm HFd HFM
    unfold itV comV at hrm
    have HM:=hid hm
    have HRM:=hid hrm
    have HFm:=hid (show Foot W.heap.size W wm (spItems W.heap.size bS bA bC G gc LA (LC ++ [x]) qv Q rest ++ [blkI w.heap.size (.cells #[.int .i64 x.1,.int .i64 x.2] 60 (0,0)),blkI b1 (.cells (#[.bool false,.int .i64 0,.int .u64 0,.bool false]) 193 (0,0)),blkI bc (.cells (comC m) 193 (0,0))]) from HFM.out)
    have HH0:wd.cell? ⟨bS,8,none⟩=some (.map (some bC))/\wd.cell? ⟨w.heap.size,0,none⟩=some (.int .i64 x.1)/\wd.cell? ⟨w.heap.size,1,none⟩=some (.int .i64 x.2)/\wd.cell? ⟨bc,0,none⟩=some (.bool m.is)/\wd.cell? ⟨bc,1,none⟩=some (.int .i64 m.sym)/\wd.cell? ⟨bc,2,none⟩=some (u64 m.fst)/\wd.cell? ⟨bc,3,none⟩=some (.bool m.emp):=⟨sp_c8 (rest:=rest ++ _) HFd.out hgl,coQ (foot_at HFd.out (k:=0) rfl) 0,coQ (foot_at HFd.out (k:=0) rfl) 1,coQ (foot_at HFd.out (k:=2) rfl) 0,coQ (foot_at HFd.out (k:=2) rfl) 1,coQ (foot_at HFd.out (k:=2) rfl) 2,coQ (foot_at HFd.out (k:=2) rfl) 3⟩
    clear hrm hmm hgm hm HFM
    refine region_T 6 (fun w'=>w'.cell? ⟨bS,8,none⟩=some (.map (some bC))/\w'.cell? ⟨w.heap.size,0,none⟩=some (.int .i64 x.1)/\w'.cell? ⟨w.heap.size,1,none⟩=some (.int .i64 x.2)/\w'.cell? ⟨bc,0,none⟩=some (.bool m.is)/\w'.cell? ⟨bc,1,none⟩=some (.int .i64 m.sym)/\w'.cell? ⟨bc,2,none⟩=some (u64 m.fst)/\w'.cell? ⟨bc,3,none⟩=some (.bool m.emp)) (by kernel_rfl) (by rw [ewd]; exact HH0) (fun inv hHeld=>?_)
    rw [ewd]
    clear hHeld ewd
    iterate 6
     refine anyT_auto (v:=?_) rfl (by kernel_rfl) (fun _ _ _ h=>h) (Or.inl ⟨by rfl,?_⟩) HH0 inv (fun inv=>?_)
     rotate_left
     ·intro w hSw
      try dsimp only at hSw
      go_simp
      try with_reducible rfl
     simp only [Act.put,sjA,sj0,sjS]
    refine anyT_one (i:=6) (o:={dst:=none,op:=.mapUpdate 153 (.tmp 72) (.tmp 73) (.tmp 74),type:=0,pos := "look.go:135",after:=#[{on:=3,ground:=.data},{on:=4,ground:=.data},{on:=5,ground:=.data},{on:=0,ground:=.phase},{on:=1,ground:=.phase},{on:=2,ground:=.phase},{on:=3,ground:=.phase},{on:=4,ground:=.phase},{on:=5,ground:=.phase}],guard:=none}) (by kernel_rfl) rfl (fun K' hK=>?_)
    simp only [Region.wanted]
    rw [if_pos trivial]
    refine wp_mput (.tmp 72) (.tmp 73) (.tmp 74) 153 rfl rfl (.agg #[.int .i64 x.1,.int .i64 x.2]) (.agg #[.bool m.is,.int .i64 m.sym,u64 m.fst,.bool m.emp]) rfl rfl HRM.out ?_
    refine hK.out _ _ (fun h=>absurd h (by decide)) ?_
    clear hK K'
    try simp only [Act.put,sjA,sj0,sjS]
    refine anyT_done (by kernel_rfl) ?_ _
    clear HH0 HFd
    have k0:wm.cell? ⟨bc,0,none⟩=some (.bool m.is):=coQ (foot_at HFm.out (k:=2) rfl) 0
    have k1:wm.cell? ⟨bc,1,none⟩=some (.int .i64 m.sym):=coQ (foot_at HFm.out (k:=2) rfl) 1
    have k2:wm.cell? ⟨bc,2,none⟩=some (u64 m.fst):=coQ (foot_at HFm.out (k:=2) rfl) 2
    have k3:wm.cell? ⟨bc,3,none⟩=some (.bool m.emp):=coQ (foot_at HFm.out (k:=2) rfl) 3
    have sn0:wm.heap[b1]?=some (.cells #[.bool false,.int .i64 0,.int .u64 0,.bool false] 193 (0,0)):=foot_at HFm.out (k:=1) rfl
    have sc0:wm.cell? ⟨b1,0,none⟩=some (.bool false):=coQ sn0 0
    have sf0:=foQ sn0 0
    obtain ⟨r1,se0⟩:=nmQ (wm.setCell ⟨b1,0,none⟩ (.bool m.is))
    have sn1:r1.heap[b1]?=some (.cells #[.bool m.is,.int .i64 0,.int .u64 0,.bool false] 193 (0,0)):=hsQ se0 sn0
    have sc1:r1.cell? ⟨b1,1,none⟩=some (.int .i64 0):=coQ sn1 1
    have sf1:=foQ sn1 1
    obtain ⟨r2,se1⟩:=nmQ (r1.setCell ⟨b1,1,none⟩ (.int .i64 m.sym))
    have sn2:r2.heap[b1]?=some (.cells #[.bool m.is,.int .i64 m.sym,.int .u64 0,.bool false] 193 (0,0)):=hsQ se1 sn1
    have sc2:r2.cell? ⟨b1,2,none⟩=some (.int .u64 0):=coQ sn2 2
    have sf2:=foQ sn2 2
    obtain ⟨r3,se2⟩:=nmQ (r2.setCell ⟨b1,2,none⟩ (u64 m.fst))
    have sn3:r3.heap[b1]?=some (.cells #[.bool m.is,.int .i64 m.sym,u64 m.fst,.bool false] 193 (0,0)):=hsQ se2 sn2
    have sc3:r3.cell? ⟨b1,3,none⟩=some (.bool false):=coQ sn3 3
    have sf3:=foQ sn3 3
    obtain ⟨r4,se3⟩:=nmQ (r3.setCell ⟨b1,3,none⟩ (.bool m.emp))
    have sn4:r4.heap[b1]?=some (.cells #[.bool m.is,.int .i64 m.sym,u64 m.fst,.bool m.emp] 193 (0,0)):=hsQ se3 sn3
    have HFR:=hid (show Foot W.heap.size W r4 (spItems W.heap.size bS bA bC G gc LA (LC ++ [x]) qv Q rest ++ [blkI w.heap.size (.cells #[.int .i64 x.1,.int .i64 x.2] 60 (0,0)),blkI b1 (.cells (comC m) 193 (0,0)),blkI bc (.cells (comC m) 193 (0,0))]) from by
     have:=foot_four HFm.out (k:=1) rfl (.bool m.is) (.int .i64 m.sym) (u64 m.fst) (.bool m.emp)
     rw [se0,se1,se2,se3] at this
     exact this)
    clear sn0 sn1 sn2 sn3 sn4
    go_wp2_with fail
    refine bodyPost_ret (results193 _ _ b1 m rfl (foot_at HFR.out (k:=1) rfl)) rfl ?_
    exact ⟨by rw [HM.out],(LC ++ [x]),foot_drops HFR.out⟩
  ·have hs1:decide (s < 0)=false:=decide_eq_false hs
   have HF8:=hid (show Foot W.heap.size W z2 (spItems W.heap.size bS bA bC G gc LA LC qv Q rest ++ [blkI w.heap.size (.cells #[.int .i64 x.1,.int .i64 x.2] 60 (0,0)),blkI b1 (.cells (#[.bool false,.int .i64 0,.int .u64 0,.bool false]) 193 (0,0)),blkI bc (.cells (comC (comX G x)) 193 (0,0))]) from by rw [S13.comX_term HBX.out hs]; exact HF7.out)
   clear HF7
   go_wp2_with fail
   clear c70 c71
   obtain ⟨wd,ewd⟩:=nmQ (z2.drew)
   have HFd:=hid (HF8.out.below (show Below z2.heap.size z2 wd by exact bdQ ewd))
   obtain ⟨wm,hrm,hmm,hgm⟩:=cmap_put (sp_mapC (rest:=rest ++ _) HFd.out) HX.out HNIN.out
   have HFM:=hid (sp_cput (rest:=rest ++ _) HFd.out hmm hgm)
   obtain ⟨m,hm⟩:=nmQ (comX G x)
   rw [hm] at hrm HFd HFM
   unfold itV comV at hrm
   have HM:=hid hm
   have HRM:=hid hrm
   have HFm:=hid (show Foot W.heap.size W wm (spItems W.heap.size bS bA bC G gc LA (LC ++ [x]) qv Q rest ++ [blkI w.heap.size (.cells #[.int .i64 x.1,.int .i64 x.2] 60 (0,0)),blkI b1 (.cells (#[.bool false,.int .i64 0,.int .u64 0,.bool false]) 193 (0,0)),blkI bc (.cells (comC m) 193 (0,0))]) from HFM.out)
   have HH0:wd.cell? ⟨bS,8,none⟩=some (.map (some bC))/\wd.cell? ⟨w.heap.size,0,none⟩=some (.int .i64 x.1)/\wd.cell? ⟨w.heap.size,1,none⟩=some (.int .i64 x.2)/\wd.cell? ⟨bc,0,none⟩=some (.bool m.is)/\wd.cell? ⟨bc,1,none⟩=some (.int .i64 m.sym)/\wd.cell? ⟨bc,2,none⟩=some (u64 m.fst)/\wd.cell? ⟨bc,3,none⟩=some (.bool m.emp):=⟨sp_c8 (rest:=rest ++ _) HFd.out hgl,coQ (foot_at HFd.out (k:=0) rfl) 0,coQ (foot_at HFd.out (k:=0) rfl) 1,coQ (foot_at HFd.out (k:=2) rfl) 0,coQ (foot_at HFd.out (k:=2) rfl) 1,coQ (foot_at HFd.out (k:=2) rfl) 2,coQ (foot_at HFd.out (k:=2) rfl) 3⟩
   clear hrm hmm hgm hm HFM
   refine region_T 6 (fun w'=>w'.cell? ⟨bS,8,none⟩=some (.map (some bC))/\w'.cell? ⟨w.heap.size,0,none⟩=some (.int .i64 x.1)/\w'.cell? ⟨w.heap.size,1,none⟩=some (.int .i64 x.2)/\w'.cell? ⟨bc,0,none⟩=some (.bool m.is)/\w'.cell? ⟨bc,1,none⟩=some (.int .i64 m.sym)/\w'.cell? ⟨bc,2,none⟩=some (u64 m.fst)/\w'.cell? ⟨bc,3,none⟩=some (.bool m.emp)) (by kernel_rfl) (by rw [ewd]; exact HH0) (fun inv hHeld=>?_)
   rw [ewd]
   clear hHeld ewd
   iterate 6
    refine anyT_auto (v:=?_) rfl (by kernel_rfl) (fun _ _ _ h=>h) (Or.inl ⟨by rfl,?_⟩) HH0 inv (fun inv=>?_)
    rotate_left
    ·intro w hSw
     try dsimp only at hSw
     go_simp
     try with_reducible rfl
    simp only [Act.put,sjA,sj0,sjS]
   refine anyT_one (i:=6) (o:={dst:=none,op:=.mapUpdate 153 (.tmp 72) (.tmp 73) (.tmp 74),type:=0,pos := "look.go:135",after:=#[{on:=3,ground:=.data},{on:=4,ground:=.data},{on:=5,ground:=.data},{on:=0,ground:=.phase},{on:=1,ground:=.phase},{on:=2,ground:=.phase},{on:=3,ground:=.phase},{on:=4,ground:=.phase},{on:=5,ground:=.phase}],guard:=none}) (by kernel_rfl) rfl (fun K' hK=>?_)
   simp only [Region.wanted]
   rw [if_pos trivial]
   refine wp_mput (.tmp 72) (.tmp 73) (.tmp 74) 153 rfl rfl (.agg #[.int .i64 x.1,.int .i64 x.2]) (.agg #[.bool m.is,.int .i64 m.sym,u64 m.fst,.bool m.emp]) rfl rfl HRM.out ?_
   refine hK.out _ _ (fun h=>absurd h (by decide)) ?_
   clear hK K'
   try simp only [Act.put,sjA,sj0,sjS]
   refine anyT_done (by kernel_rfl) ?_ _
   clear HH0 HFd
   have k0:wm.cell? ⟨bc,0,none⟩=some (.bool m.is):=coQ (foot_at HFm.out (k:=2) rfl) 0
   have k1:wm.cell? ⟨bc,1,none⟩=some (.int .i64 m.sym):=coQ (foot_at HFm.out (k:=2) rfl) 1
   have k2:wm.cell? ⟨bc,2,none⟩=some (u64 m.fst):=coQ (foot_at HFm.out (k:=2) rfl) 2
   have k3:wm.cell? ⟨bc,3,none⟩=some (.bool m.emp):=coQ (foot_at HFm.out (k:=2) rfl) 3
   have sn0:wm.heap[b1]?=some (.cells #[.bool false,.int .i64 0,.int .u64 0,.bool false] 193 (0,0)):=foot_at HFm.out (k:=1) rfl
   have sc0:wm.cell? ⟨b1,0,none⟩=some (.bool false):=coQ sn0 0
   have sf0:=foQ sn0 0
   obtain ⟨r1,se0⟩:=nmQ (wm.setCell ⟨b1,0,none⟩ (.bool m.is))
   have sn1:r1.heap[b1]?=some (.cells #[.bool m.is,.int .i64 0,.int .u64 0,.bool false] 193 (0,0)):=hsQ se0 sn0
   have sc1:r1.cell? ⟨b1,1,none⟩=some (.int .i64 0):=coQ sn1 1
   have sf1:=foQ sn1 1
   obtain ⟨r2,se1⟩:=nmQ (r1.setCell ⟨b1,1,none⟩ (.int .i64 m.sym))
   have sn2:r2.heap[b1]?=some (.cells #[.bool m.is,.int .i64 m.sym,.int .u64 0,.bool false] 193 (0,0)):=hsQ se1 sn1
   have sc2:r2.cell? ⟨b1,2,none⟩=some (.int .u64 0):=coQ sn2 2
   have sf2:=foQ sn2 2
   obtain ⟨r3,se2⟩:=nmQ (r2.setCell ⟨b1,2,none⟩ (u64 m.fst))
   have sn3:r3.heap[b1]?=some (.cells #[.bool m.is,.int .i64 m.sym,u64 m.fst,.bool false] 193 (0,0)):=hsQ se2 sn2
   have sc3:r3.cell? ⟨b1,3,none⟩=some (.bool false):=coQ sn3 3
   have sf3:=foQ sn3 3
   obtain ⟨r4,se3⟩:=nmQ (r3.setCell ⟨b1,3,none⟩ (.bool m.emp))
   have sn4:r4.heap[b1]?=some (.cells #[.bool m.is,.int .i64 m.sym,u64 m.fst,.bool m.emp] 193 (0,0)):=hsQ se3 sn3
   have HFR:=hid (show Foot W.heap.size W r4 (spItems W.heap.size bS bA bC G gc LA (LC ++ [x]) qv Q rest ++ [blkI w.heap.size (.cells #[.int .i64 x.1,.int .i64 x.2] 60 (0,0)),blkI b1 (.cells (comC m) 193 (0,0)),blkI bc (.cells (comC m) 193 (0,0))]) from by
    have:=foot_four HFm.out (k:=1) rfl (.bool m.is) (.int .i64 m.sym) (u64 m.fst) (.bool m.emp)
    rw [se0,se1,se2,se3] at this
    exact this)
   clear sn0 sn1 sn2 sn3 sn4
   go_wp2_with fail
   refine bodyPost_ret (results193 _ _ b1 m rfl (foot_at HFR.out (k:=1) rfl)) rfl ?_
   exact ⟨by rw [HM.out],(LC ++ [x]),foot_drops HFR.out⟩
end Go.Proofs.YticmnfmijdgmbaaGreatDoor
