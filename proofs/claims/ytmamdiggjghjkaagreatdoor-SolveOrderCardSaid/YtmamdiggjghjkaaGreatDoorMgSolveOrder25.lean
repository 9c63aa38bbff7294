/- Texts of one proof, one behind the other. -/
import Derived.Test.YtmamdiggjghjkaaGreatDoorMgSolveOrder1
import Derived.Test.YtmamdiggjghjkaaGreatDoorMgSolveOrder24
import Derived.Deep.QuietTactic
import Derived.BigQuiet
import Derived.StillTactics
import Derived.Test.YtmamdiggjghjkaaGreatDoorMgSolveOrder23
import Derived.Test.YtmamdiggjghjkaaGreatDoorMgSolveOrder17
import Derived.Deep.CutBlock
import Derived.Test.YtmamdiggjghjkaaGreatDoorMgSolveOrder21
set_option linter.unusedVariables false
namespace Go.Proofs.YtmamdiggjghjkaaGreatDoor.Un
open Go.RowKit
attribute [local go_sem] Oper.semAt_some
attribute [local go_sem ↓] builtin_app
theorem app_int2 (t:TypeId) (ht:Tryz.prog.underlying t=some (.slice 3)) (B:Nat) (w:World) (hB:B≤w.heap.size) (v:Value) (n:Nat) (xs:List Value) (hown:w.ownsRow B 3 1 v n xs) (x:Int) (hn:n≤10000000):
  ∃g cp w1,(app_ #[t,t] t #[v,.slice (some ⟨w.heap.size,0,none⟩) 1 1]).run Tryz.prog (w.alloc (.cells #[.int .i64 x] 3)) = .ok (.slice (some ⟨g,0,none⟩) (n+1) cp) w1∧
   w1.ownsRow B 3 1 (.slice (some ⟨g,0,none⟩) (n+1) cp) (n+1) (xs ++ [.int .i64 x])∧Below B w w1:=by
 obtain ⟨i0,hi0,hz0,hz1,hz2⟩:=info_parts intInfo
 have own1:=hown.alloc (.cells #[.int .i64 x] 3)
 have rd1:Rd (w.alloc (.cells #[.int .i64 x] 3)) 1 (.slice (some ⟨w.heap.size,0,none⟩) 1 1) 1 [.int .i64 x]:=rd_new w [.int .i64 x] 3 1 1 rfl (by unfold maxLen;omega)
 obtain ⟨v',w1,hrun,hown1,hg1,_⟩:=run_append_rd (P:=Tryz.prog) _ B t t 3 i0 _ 1 8 ht hi0 hz0 hz1 hz2 rfl (by omega) v _ _ own1 _ 1 _ rd1 (by simp [Value.oneCell']) (by unfold maxLen;omega) (by omega) (by rw [World.size_alloc];omega)
 obtain ⟨g,cp,rfl,_,_⟩:=own_shape hown1 (by omega)
 exact ⟨g,cp,w1,hrun,hown1,((Below.refl B w).alloc hB _).grown hg1 (by rw [World.size_alloc];omega) fun k hk=>(hown.lt k hk).1⟩
theorem row_form {w:World}{B:Nat}{v:Value}{n:Nat}{xs:List Value}(h:w.ownsRow B 3 1 v n xs):∃A c,v = .slice A n c:=by
 obtain ⟨A,c,rfl,_⟩:=own_form h;exact ⟨A,c,rfl⟩
set_option maxRecDepth 100000 in
set_option maxHeartbeats 1000000 in
theorem rnew_any (w:World) (n:Nat) (hn:n≤1000000):
  Calls Tryz.prog 66 #[.int .i64 (n:Nat)] w fun e w'=>∃v,e = .returned v∧w'.ownsRow w.heap.size 3 1 v n (rowI n fun k=>k)∧Below w.heap.size w w':=by
 go_enter Tryz.func66,Tryz.ntmps66
 go_wp2_with fail
 go_loopw [3,4] (fun v s wr=>∃k:Nat,s = .int .i64 (k:Int)∧k≤n∧wr.ownsRow w.heap.size 3 1 v k (rowI k fun k=>k)∧Below w.heap.size w wr) (fun _ s _=>((n:Int)-intAt s).toNat)
 case atStart=>exact ⟨0,rfl,by omega,World.ownsRow_nil _ _ _ _,Below.refl _ _⟩
 case round=>
  obtain ⟨k,rfl,hk,ho,hb⟩:=hrel
  by_cases hkn:k<n
  ·have f1:decide ((k:Int)<(n:Nat))=true:=decide_eq_true (by omega)
   obtain ⟨Av,cv,rfl⟩:=row_form ho
   obtain ⟨g,cp,w1,hrun,ho1,hb1⟩:=app_int2 65 Tryz.underlying65 w.heap.size wr hb.size _ k _ ho k (by omega)
   have HR:=kI (aI ho1 (hb.trans hb1))
   clear ho hb ho1 hb1
   go_wp2_with fail
   go_roundw
   case rel=>exact ⟨k+1,by go_num,by omega,by rw [rowI_snoc];exact HR.out.1,HR.out.2⟩
   case measure=>
    simp only [intAt]
    omega
  ·have f1:decide ((k:Int)<(n:Nat))=false:=decide_eq_false (by omega)
   obtain rfl:k=n:=by omega
   have HR:=kI (aI ho hb)
   clear ho hb
   go_wp2_with fail
   go_ret
   exact ⟨_,rfl,HR.out.1,HR.out.2⟩
set_option maxRecDepth 100000 in
theorem rin_any {w:World}{B:Nat}{v:Value}{n:Nat}{xs:List Value}(h:w.ownsRow B 3 1 v n xs) (i:Int):
  Calls Tryz.prog 99 #[v,.int .i64 i] w fun e w'=>e = .returned (.bool (decide (0≤i∧i<n)))∧w'=w:=by
 obtain ⟨Av,cv,rfl⟩:=row_form h
 by_cases hi:0≤i
 ·have f1:decide (0≤i)=true:=decide_eq_true hi
  have e1:decide (0≤i∧i<(n:Int))=decide (i<(n:Int)):=by simp [hi]
  rw [e1]
  go_enter Tryz.func99,Tryz.ntmps99
  go_wp2_with fail
  go_ret
  exact ⟨rfl,rfl⟩
 ·have f1:decide (0≤i)=false:=decide_eq_false hi
  rw [decide_eq_false (fun h:0≤i∧i<(n:Int)=>hi h.1)]
  go_enter Tryz.func99,Tryz.ntmps99
  go_wp2_with fail
  go_ret
  exact ⟨rfl,rfl⟩
set_option maxRecDepth 100000 in
set_option maxHeartbeats 1000000 in
theorem rsame_in {w:World}{B:Nat}{v:Value}{n:Nat}{c:Nat→Nat}(h:w.ownsRow B 3 1 v n (rowI n c)) (i j:Nat) (hi:i<n) (hj:j<n):
  Calls Tryz.prog 68 #[v,.int .i64 (i:Nat),.int .i64 (j:Nat)] w fun e w'=>e = .returned (.bool (c i == c j))∧∃q,w'=w.drewN q:=by
 obtain ⟨g,cv,rfl,_,_⟩:=own_shape h (by omega)
 have r1:w.cell? ⟨g,i,none⟩=some (.int .i64 (c i:Nat)):=(h.cellAt i (by omega)).trans (rowI_get hi)
 have r2:w.cell? ⟨g,j,none⟩=some (.int .i64 (c j:Nat)):=(h.cellAt j (by omega)).trans (rowI_get hj)
 have e1:((c i:Int) == (c j:Int))=(c i == c j):=by
  rw [Bool.eq_iff_iff,beq_iff_eq,beq_iff_eq];omega
 have h1:decide (0≤(i:Int)∧(i:Int)<(n:Int))=true:=decide_eq_true (by omega)
 have h2:decide (0≤(j:Int)∧(j:Int)<(n:Int))=true:=decide_eq_true (by omega)
 have H1:Hid (Calls Tryz.prog 99 #[.slice (some ⟨g,0,none⟩) n cv,.int .i64 (i:Nat)] w.drew fun e w'=>e = .returned (.bool true)∧w'=w.drew):=kI (by
  have:=rin_any (w:=w.drew) (show w.drew.ownsRow B 3 1 (.slice (some ⟨g,0,none⟩) n cv) n (rowI n c) from h) (i:Int)
  rw [h1] at this
  exact this)
 have H2:Hid (Calls Tryz.prog 99 #[.slice (some ⟨g,0,none⟩) n cv,.int .i64 (j:Nat)] w.drew fun e w'=>e = .returned (.bool true)∧w'=w.drew):=kI (by
  have:=rin_any (w:=w.drew) (show w.drew.ownsRow B 3 1 (.slice (some ⟨g,0,none⟩) n cv) n (rowI n c) from h) (j:Int)
  rw [h2] at this
  exact this)
 clear h h1 h2
 go_enter Tryz.func68,Tryz.ntmps68
 go_wp2_with fail
 refine wp_region_still_lit (by kernel_rfl) (by kernel_rfl) ?_
 repeat still_step
 still_call H1.out
 repeat still_step
 still_call H2.out
 repeat still_step
 refine wpStill_nil ?_
 change Exit.then _ _ _ _ w.drew
 go_wp2_with fail
 go_ret
 exact ⟨rfl,1,rfl⟩
set_option maxRecDepth 100000 in
set_option maxHeartbeats 1000000 in
theorem rjoin_in {w:World}{B:Nat}{v:Value}{n:Nat}{c:Nat→Nat}(h:w.ownsRow B 3 1 v n (rowI n c)) (x y:Nat) (hx:x<n) (hy:y<n) (hn:n≤1000000):
  Calls Tryz.prog 67 #[v,.int .i64 (x:Nat),.int .i64 (y:Nat)] w fun e w'=>∃v',e = .returned v'∧w'.ownsRow w.heap.size 3 1 v' n (rowI n (paint c x y))∧Below w.heap.size w w':=by
 obtain ⟨g,cv,rfl,_,hgl⟩:=own_shape h (by omega)
 have H:=kI h
 clear h
 go_enter Tryz.func67,Tryz.ntmps67
 go_wp2_with fail
 go_loopw [7,8,9] (fun v s _ wr=>∃k:Nat,s = .int .i64 (k:Int)∧k≤n∧wr.ownsRow w.heap.size 3 1 v k (rowI k (paint c x y))∧Below w.heap.size w wr) (fun _ s _ _=>((n:Int)-intAt s).toNat)
 case atStart=>exact ⟨0,rfl,by omega,World.ownsRow_nil _ _ _ _,Below.refl _ _⟩
 case round=>
  obtain ⟨k,rfl,hk,ho,hb⟩:=hrel
  by_cases hkn:k<n
  ·have f1:decide ((k:Int)<(n:Nat))=true:=decide_eq_true (by omega)
   have r1:wr.cell? ⟨g,k,none⟩=some (.int .i64 (c k:Nat)):=(hb.cell (p:=⟨g,k,none⟩) hgl).trans ((H.out.cellAt k (by omega)).trans (rowI_get hkn))
   have r2:wr.cell? ⟨g,y,none⟩=some (.int .i64 (c y:Nat)):=(hb.cell (p:=⟨g,y,none⟩) hgl).trans ((H.out.cellAt y (by omega)).trans (rowI_get hy))
   have r3:wr.cell? ⟨g,x,none⟩=some (.int .i64 (c x:Nat)):=(hb.cell (p:=⟨g,x,none⟩) hgl).trans ((H.out.cellAt x (by omega)).trans (rowI_get hx))
   obtain ⟨Av,cw,rfl⟩:=row_form ho
   obtain ⟨g2,cp,w1,hrun,ho1,hb1⟩:=app_int2 65 Tryz.underlying65 w.heap.size wr hb.size _ k _ ho (paint c x y k:Nat) (by omega)
   have HR:=kI (aI ho1 (hb.trans hb1))
   clear ho hb ho1 hb1
   by_cases he:c k=c y
   ·have f2:((c k:Int) == (c y:Int))=true:=by rw [he];simp
    have hp:paint c x y k=c x:=by unfold paint;rw [if_pos he]
    rw [hp] at hrun
    have HP:=kI hp
    clear he hp
    go_wp2_with fail
    go_roundw
    case rel=>exact ⟨k+1,by go_num,by omega,by rw [rowI_snoc];exact HR.out.1,HR.out.2⟩
    case measure=>
     simp only [intAt]
     omega
   ·have f2:((c k:Int) == (c y:Int))=false:=by simp;omega
    have hp:paint c x y k=c k:=by unfold paint;rw [if_neg he]
    rw [hp] at hrun
    have HP:=kI hp
    clear he hp
    go_wp2_with fail
    go_roundw
    case rel=>exact ⟨k+1,by go_num,by omega,by rw [rowI_snoc];exact HR.out.1,HR.out.2⟩
    case measure=>
     simp only [intAt]
     omega
  ·have f1:decide ((k:Int)<(n:Nat))=false:=decide_eq_false (by omega)
   obtain rfl:k=n:=by omega
   have HR:=kI (aI ho hb)
   clear ho hb
   go_wp2_with fail
   go_ret
   exact ⟨_,rfl,HR.out.1,HR.out.2⟩
end Go.Proofs.YtmamdiggjghjkaaGreatDoor.Un
namespace Go.Proofs.YtmamdiggjghjkaaGreatDoor
section
open Go.RowKit
open Un (Else StM rowI UFo own_else dg swp wp_world paint paint_eq cnt Rings)
set_option maxRecDepth 100000
def ClosedC (G:List Gn) (c:Nat→Nat):Prop:=∀(x y:Nat) (p q:Gn),G[x]? = some p→G[y]? = some q→c x=c y→p.1≠1→p.1=q.1→p.2.2.2.length=q.2.2.2.length→∀(j a b:Nat),p.2.2.2[j]? = some a→q.2.2.2[j]? = some b→c a=c b
structure Rc (G:List Gn) (c:Nat→Nat) (E:List (Nat×Nat)):Prop where
 sound:∀i j,i<G.length→j<G.length→c i=c j→Cl G E i j
 parts:∀(x:Nat) (p:Gn),G[x]? = some p→∀a∈p.2.2.2,a<G.length
theorem Rc.is {G:List Gn}{c:Nat→Nat}{E:List (Nat×Nat)}(h:Rc G c E) (he:∀a b,(a,b)∈E→a<G.length∧b<G.length∧c a=c b) (hc:ClosedC G c) {a b:Nat}:Cl G E a b↔a=b∨(a<G.length∧b<G.length∧c a=c b):=by
 constructor
 ·intro k
  induction k with
  | eq e=>exact .inr (he _ _ e)
  | refl a=>exact .inl rfl
  | symm _ ih=>exact ih.elim (fun e=>.inl e.symm) fun e=>.inr ⟨e.2.1,e.1,e.2.2.symm⟩
  | trans _ _ i1 i2=>
   rcases i1 with rfl|i1
   ·exact i2
   ·rcases i2 with rfl|i2
    ·exact .inr i1
    ·exact .inr ⟨i1.1,i2.2.1,i1.2.2.trans i2.2.2⟩
  | part _ hp hq p1 q1 hk hl ha hb ih=>
   have la:=h.parts _ _ hp _ (List.mem_of_getElem? ha)
   have lb:=h.parts _ _ hq _ (List.mem_of_getElem? hb)
   rcases ih with rfl|ih
   ·rw [hp] at hq
    cases hq
    rw [ha] at hb
    exact .inl (Option.some.inj hb)
   ·exact .inr ⟨la,lb,hc _ _ _ _ hp hq ih.2.2 p1 hk hl _ _ _ ha hb⟩
 ·rintro (rfl|⟨h1,h2,h3⟩)
  ·exact .refl _
  ·exact h.sound _ _ h1 h2 h3
theorem Rc.join {G:List Gn}{c:Nat→Nat}{E:List (Nat×Nat)}(h:Rc G c E) {a b:Nat}(ha:a<G.length) (hb:b<G.length) (hab:Cl G E a b):Rc G (paint c a b) E:=by
 refine ⟨fun i j hi hj e=>?_,h.parts⟩
 have hs:∀i,i<G.length→(c i=c a∨c i=c b)→Cl G E i a:=fun i hi e=>by
  rcases e with e|e
  ·exact h.sound i a hi ha e
  ·exact (h.sound i b hi hb e).trans hab.symm
 rcases (paint_eq _ _ _ _ _).1 e with e|⟨e1,e2⟩
 ·exact h.sound i j hi hj e
 ·exact (hs i hi e1).trans (hs j hj e2).symm
theorem Rc.clash {G:List Gn}{c:Nat→Nat}{E:List (Nat×Nat)}(h:Rc G c E) (he:∀a b,(a,b)∈E→a<G.length∧b<G.length∧c a=c b) (hc:ClosedC G c):Clash G E↔∃(x y:Nat) (p q:Gn),G[x]? = some p∧G[y]? = some q∧y<x∧c x=c y∧p.1≠1∧q.1≠1∧¬ Fit p q:=by
 constructor
 ·rintro ⟨x,y,p,q,h1,hp,hq,p1,q1,hf⟩
  rcases (h.is he hc).1 h1 with rfl|⟨_,_,e⟩
  ·rw [hp] at hq
   cases hq
   exact absurd ⟨rfl,rfl⟩ hf
  ·rcases Nat.lt_trichotomy x y with hl|rfl|hl
   ·exact ⟨y,x,q,p,hq,hp,hl,e.symm,q1,p1,fun f=>hf ⟨f.1.symm,f.2.symm⟩⟩
   ·rw [hp] at hq
    cases hq
    exact absurd ⟨rfl,rfl⟩ hf
   ·exact ⟨x,y,p,q,hp,hq,hl,e,p1,q1,hf⟩
 ·rintro ⟨x,y,p,q,hp,hq,_,e,p1,q1,hf⟩
  exact ⟨x,y,p,q,h.sound x y (lt_of_get hp) (lt_of_get hq) e,hp,hq,p1,q1,hf⟩
section
variable {O T:Nat→Prop}{w w' V:World}{cb:Nat}{st:Int}{n m:Nat}{G:List Gn}{fs:Int}{E:List (Nat×Nat)}
end
end
section
open Go.RowKit
open Un (Else dg cnt own_else wp_world)
set_option maxRecDepth 100000
theorem sz1_le_esz {L:List Eqn}{y:Eqn}(h:y∈L):sz1 y≤esz L:=by
 induction L with
 | nil=>cases h
 | cons x L ih=>
  have e:esz (x :: L)=sz1 x+esz L:=by simp [esz]
  rcases List.mem_cons.1 h with rfl|h
  ·omega
  ·have:=ih h;omega
section
variable {w w':World}{B b c:Nat}{s:Sys}
end
end
section
open Go.RowKit
open Un (rowI rowI_get own_shape paint)
set_option maxRecDepth 100000
def WholeIs (G:List Gn) (c:Nat→Nat) (i:Nat) (r:Int):Prop:=
 (∃(k:Nat) (p:Gn),r=k∧G[k]? = some p∧c k=c i∧p.1≠1)∨(r = -1∧∀(k:Nat) (p:Gn),G[k]? = some p→c k=c i→p.1=1)
set_option maxHeartbeats 4000000 in
theorem whole_any (w:World) (M:List Rm) (vm vs:Value) (c:Nat→Nat) (B:Nat) (hM:Rd w 4 vm M.length (M.flatMap rmC)) (hs:w.ownsRow B 3 1 vs M.length (rowI M.length c)) (hl:M.length≤1000000) (i:Nat) (hi:i<M.length):
  Calls Tryz.prog 101 #[.agg #[vm,vs],.int .i64 (i:Nat)] w fun e w'=>∃r:Int,e = .returned (.int .i64 r)∧WholeIs (gM M) c i r∧Below w.heap.size w w':=by
 obtain ⟨A,c0,rfl⟩:=hM.form
 obtain ⟨q,hq⟩:∃q,M.length=q:=⟨_,rfl⟩
 rw [hq] at hl hi hs ⊢
 obtain ⟨g,cv,rfl,_,hgl⟩:=own_shape hs (by omega)
 obtain ⟨W0,hW0⟩:∃W0,w.alloc (.cells #[.slice A q c0,.slice (some ⟨g,0,none⟩) q cv] 67)=W0:=⟨_,rfl⟩
 have hb0:Below w.heap.size w W0:=by rw [←hW0];exact (Below.refl _ _).alloc (Nat.le_refl _) _
 have hx0:W0.heap[w.heap.size]? = some (Obj.cells #[.slice A q c0,.slice (some ⟨g,0,none⟩) q cv] 67):=by rw [←hW0];exact heap_alloc_new w _
 have hl0:w.heap.size<W0.heap.size:=(gL hx0).1
 have x0:W0.cell? ⟨w.heap.size,0,none⟩=some (.slice A q c0):=cell_of_row W0 _ 0 _ _ (0,0) hx0
 have x1:W0.cell? ⟨w.heap.size,1,none⟩=some (.slice (some ⟨g,0,none⟩) q cv):=cell_of_row W0 _ 1 _ _ (0,0) hx0
 have hgl0:g<W0.heap.size:=by omega
 have HM:=kI (aI hq hM)
 have HS:=kI hs
 have HB0:=kI hb0
 clear hM hs hx0 hb0 hq
 go_enter Tryz.func101,Tryz.ntmps101
 go_wp2_with fail
 go_loopw [5] (fun t wr=>∃j:Nat,j≤q∧t = .int .i64 j∧(∀(k:Nat) (p:Gn),k<j→(gM M)[k]? = some p→c k=c i→p.1=1)∧Below W0.heap.size W0 wr) (fun t _=>q-(intOf t).toNat)
 case atStart=>exact ⟨0,Nat.zero_le _,rfl,fun k p h=>absurd h (Nat.not_lt_zero _),Below.refl _ _⟩
 case round=>
  obtain ⟨j,hj,rfl,hja,hb⟩:=hrel
  have HBW:=kI hb
  have HJA:=kI hja
  clear hja hb
  have y0:wr.cell? ⟨w.heap.size,0,none⟩=some (.slice A q c0):=(HBW.out.cell (p:=⟨w.heap.size,0,none⟩) hl0).trans x0
  have y1:wr.cell? ⟨w.heap.size,1,none⟩=some (.slice (some ⟨g,0,none⟩) q cv):=(HBW.out.cell (p:=⟨w.heap.size,1,none⟩) hl0).trans x1
  have HBT:=kI (HB0.out.trans (HBW.out.mono (Nat.le_of_lt hl0)))
  by_cases hjl:j<q
  ·have hjM:j<M.length:=by rw [HM.out.1];exact hjl
   obtain ⟨b1,o1,cap1,hv1,_,_,hlt1,hc1⟩:=HM.out.2.2.resolve_left (by rintro ⟨h,_⟩;omega)
   injection hv1 with hA1 _ hcc1
   subst hA1;subst hcc1
   obtain ⟨p0,-,-,-⟩:=rmC_at M j hjM
   have hgj:(gM M)[j]? = some (rG M[j].1):=by simp [gM,hjM]
   obtain ⟨mj,hmj⟩:∃mj,M[j]=mj:=⟨_,rfl⟩
   rw [hmj] at p0 hgj
   obtain ⟨x,hx⟩:∃x,mj.1.1=x:=⟨_,rfl⟩
   rw [hx] at p0
   have z0:wr.cell? ⟨b1,o1+j*4,none⟩=some (.int .i64 x):=(HBT.out.cell (p:=⟨b1,o1+j*4,none⟩) hlt1).trans (hc1 _ _ p0)
   have r1:wr.cell? ⟨g,j,none⟩=some (.int .i64 (c j:Nat)):=(HBT.out.cell (p:=⟨g,j,none⟩) hgl).trans ((HS.out.cellAt j (by omega)).trans (rowI_get hjl))
   have r2:wr.cell? ⟨g,i,none⟩=some (.int .i64 (c i:Nat)):=(HBT.out.cell (p:=⟨g,i,none⟩) hgl).trans ((HS.out.cellAt i (by omega)).trans (rowI_get hi))
   have HG:=kI (aI hgj hx)
   clear hx hc1 hgj p0 hmj hjM
   by_cases he:c j=c i
   ·have f2:((c j:Int) == (c i:Int))=true:=by rw [he];simp
    by_cases hx1:x=1
    ·subst hx1
     have HE:=kI he
     clear he
     go_wp2_with fail
     go_quiet (fail)
     go_wp2_with fail
     go_roundw
     case rel=>
      refine ⟨j+1,by omega,by go_num,fun k p hk hp hc=>?_,below_drewN HBW.out _⟩
      rcases Nat.lt_or_ge k j with h|h
      ·exact HJA.out k p h hp hc
      ·obtain rfl:k=j:=by omega
       rw [HG.out.1] at hp
       cases hp
       exact HG.out.2
     case measure=>simp [intOf];omega
    ·have f3:(x != 1)=true:=by simpa using hx1
     have HE:=kI (aI he hx1)
     clear he hx1
     go_wp2_with fail
     go_quiet (fail)
     go_wp2_with fail
     go_ret
     exact ⟨j,rfl,.inl ⟨j,_,rfl,HG.out.1,HE.out.1,by show mj.1.1≠1;rw [HG.out.2];exact HE.out.2⟩,below_drewN HBT.out _⟩
   ·have f2:((c j:Int) == (c i:Int))=false:=by simp;omega
    have HE:=kI he
    clear he
    go_wp2_with fail
    go_quiet (fail)
    go_wp2_with fail
    go_roundw
    case rel=>
     refine ⟨j+1,by omega,by go_num,fun k p hk hp hc=>?_,below_drewN HBW.out _⟩
     rcases Nat.lt_or_ge k j with h|h
     ·exact HJA.out k p h hp hc
     ·obtain rfl:k=j:=by omega
      exact absurd hc HE.out
    case measure=>simp [intOf];omega
  ·obtain rfl:j=q:=by omega
   go_wp2_with fail
   go_ret
   refine ⟨-1,rfl,.inr ⟨rfl,fun k p hp hc=>HJA.out k p ?_ hp hc⟩,HBT.out⟩
   have:=(List.getElem?_eq_some_iff.1 hp).1
   have h2:(gM M).length=M.length:=by simp [gM]
   have h3:=HM.out.1
   omega
end
section
open Go.RowKit
open Un (rowI rowI_get own_shape paint)
set_option maxRecDepth 100000
def BadAt (G:List Gn) (c:Nat→Nat) (x y:Nat):Prop:=∃p q,G[x]? = some p∧G[y]? = some q∧c x=c y∧p.1≠1∧q.1≠1∧¬ Fit p q
def RClash (G:List Gn) (c:Nat→Nat):Prop:=∃x y,y<x∧BadAt G c x y
theorem two_newb (w:World) (a b:Obj):((w.alloc a).alloc b).drew.heap[w.heap.size]? = some a∧((w.alloc a).alloc b).drew.heap[w.heap.size+1]? = some b∧Below w.heap.size w ((w.alloc a).alloc b).drew:=by
 refine ⟨(Below.heap_alloc _ _ _ (by simp)).trans (heap_alloc_new w _),?_,(((Below.refl _ _).alloc (Nat.le_refl _) _).alloc (by simp) _).drew⟩
 have:=heap_alloc_new (w.alloc a) b
 rwa [World.size_alloc] at this
set_option maxHeartbeats 8000000 in
theorem rclash_any (w:World) (M:List Rm) (vm vs:Value) (c:Nat→Nat) (B:Nat) (hM:Rd w 4 vm M.length (M.flatMap rmC)) (hN:∀x∈M,x.2.2.1=x.1.2.2.2.2.length) (hs:w.ownsRow B 3 1 vs M.length (rowI M.length c)) (hl:M.length≤1000000) (h0:0<M.length):
  Calls Tryz.prog 34 #[.agg #[vm,vs]] w fun e w'=>∃b:Bool,e = .returned (.bool b)∧(b=true↔RClash (gM M) c)∧Below w.heap.size w w':=by
 obtain ⟨A,c0,rfl⟩:=hM.form
 obtain ⟨q,hq⟩:∃q,M.length=q:=⟨_,rfl⟩
 rw [hq] at hl hs h0 ⊢
 obtain ⟨g,cv,rfl,_,hgl⟩:=own_shape hs (by omega)
 obtain ⟨b1,o1,cap1,hv1,_,_,hlt1,hc1⟩:=hM.2.resolve_left (by rintro ⟨h,_⟩;omega)
 injection hv1 with hA1 _ hcc1
 subst hA1;subst hcc1
 obtain ⟨W0,hW0⟩:∃W0,w.alloc (.cells #[.slice (some ⟨b1,o1,none⟩) q c0,.slice (some ⟨g,0,none⟩) q cv] 67)=W0:=⟨_,rfl⟩
 have hb0:Below w.heap.size w W0:=by rw [←hW0];exact (Below.refl _ _).alloc (Nat.le_refl _) _
 have hx0:W0.heap[w.heap.size]? = some (Obj.cells #[.slice (some ⟨b1,o1,none⟩) q c0,.slice (some ⟨g,0,none⟩) q cv] 67):=by rw [←hW0];exact heap_alloc_new w _
 have hl0:w.heap.size<W0.heap.size:=(gL hx0).1
 have x0:W0.cell? ⟨w.heap.size,0,none⟩=some (.slice (some ⟨b1,o1,none⟩) q c0):=cell_of_row W0 _ 0 _ _ (0,0) hx0
 have x1:W0.cell? ⟨w.heap.size,1,none⟩=some (.slice (some ⟨g,0,none⟩) q cv):=cell_of_row W0 _ 1 _ _ (0,0) hx0
  -- what each later world reads
 have hrd:∀W,Below W0.heap.size W0 W→∀j,j<q→∃(k n:Int) (U P:Sl) (p:Gn),(gM M)[j]? = some p∧p.1=k∧p.2.2.2.length=P.2.1∧W.cell? ⟨b1,o1+j*4,none⟩=some (.int .i64 k)∧W.cell? ⟨b1,o1+j*4+1,none⟩=some (.int .i64 n)∧W.cell? ⟨b1,o1+j*4+2,none⟩=some (slv U)∧W.cell? ⟨b1,o1+j*4+3,none⟩=some (slv P)∧W.cell? ⟨g,j,none⟩=some (.int .i64 (c j:Nat)):=by
  intro W hW j hj
  have hBT:=hb0.trans (hW.mono (Nat.le_of_lt hl0))
  have hjM:j<M.length:=by omega
  obtain ⟨p0,p1,p2,p3⟩:=rmC_at M j hjM
  refine ⟨_,_,_,_,rG M[j].1,by simp [gM,hjM],rfl,(hN _ (List.getElem_mem hjM)).symm,(hBT.cell (p:=⟨b1,o1+j*4,none⟩) hlt1).trans (hc1 _ _ p0),(hBT.cell (p:=⟨b1,o1+j*4+1,none⟩) hlt1).trans (hc1 (j*4+1) _ p1),(hBT.cell (p:=⟨b1,o1+j*4+2,none⟩) hlt1).trans (hc1 (j*4+2) _ p2),(hBT.cell (p:=⟨b1,o1+j*4+3,none⟩) hlt1).trans (hc1 (j*4+3) _ p3),(hBT.cell (p:=⟨g,j,none⟩) hgl).trans ((hs.cellAt j (by omega)).trans (rowI_get hj))⟩
 have hgm:(gM M).length=q:=by simp [gM,hq]
 have HM:=kI (aI hgm hrd)
 have HB0:=kI hb0
 clear hM hN hs hx0 hb0 hq hgm hrd hc1 h0
 go_enter Tryz.func34,Tryz.ntmps34
 go_wp2_with fail
 go_loopw [3,4,5,6] (fun t _ _ _ wr=>∃i:Nat,i≤q∧t = .int .i64 i∧(∀x y,x<i→y<x→¬ BadAt (gM M) c x y)∧Below W0.heap.size W0 wr) (fun t _ _ _ _=>q-(intOf t).toNat)
 case atStart=>exact ⟨0,Nat.zero_le _,rfl,fun x y h=>absurd h (Nat.not_lt_zero _),Below.refl _ _⟩
 case round=>
  obtain ⟨i,hi,rfl,hia,hb⟩:=hrel
  have HI:=kI (aI hia hb)
  clear hia hb
  have y0:wr.cell? ⟨w.heap.size,0,none⟩=some (.slice (some ⟨b1,o1,none⟩) q c0):=(HI.out.2.cell (p:=⟨w.heap.size,0,none⟩) hl0).trans x0
  by_cases hiq:i<q
  ·go_wp2_with fail
   go_loopw [4,5,6] (fun t _ _ wx=>∃k:Nat,k≤i∧t = .int .i64 k∧(∀y,y<k→¬ BadAt (gM M) c i y)∧Below W0.heap.size W0 wx) (fun t _ _ _=>i-(intOf t).toNat)
   case atStart=>exact ⟨0,Nat.zero_le _,rfl,fun y h=>absurd h (Nat.not_lt_zero _),HI.out.2⟩
   case round=>
    obtain ⟨k,hk,rfl,hka,hb⟩:=hrel
    have HK:=kI (aI hka hb)
    clear hka hb y0
    by_cases hki:k<i
    ·obtain ⟨ki,ni,⟨u1,u2,u3⟩,⟨v1,v2,v3⟩,p,hp,hpk,hpl,a0,a1,a2,a3,a4⟩:=HM.out.2 wr HK.out.2 i hiq
     obtain ⟨kj,nj,⟨u4,u5,u6⟩,⟨v4,v5,v6⟩,p',hp',hpk',hpl',e0,e1,e2,e3,e4⟩:=HM.out.2 wr HK.out.2 k (by omega)
     dsimp only [slv] at a2 a3 e2 e3 hpl hpl'
     have y0:wr.cell? ⟨w.heap.size,0,none⟩=some (.slice (some ⟨b1,o1,none⟩) q c0):=(HK.out.2.cell (p:=⟨w.heap.size,0,none⟩) hl0).trans x0
     have hkq:k<q:=by omega
     have hkl:w.heap.size<wr.heap.size:=Nat.lt_of_lt_of_le hl0 HK.out.2.size
     have hgl1:g<wr.heap.size:=by omega
     have hbl1:b1<wr.heap.size:=by omega
     have HP:=kI (aI hp (aI hp' (aI hpk (aI hpk' (aI hpl hpl')))))
     clear hp hp' hpk hpk' hpl hpl'
     go_upto_region 7 with fail
     go_cut [5,6] from 14 to 69 (fun s5 s6 wx=>∃gx gy:Nat,s5 = .pointer (some ⟨gx,0,none⟩)∧s6 = .pointer (some ⟨gy,0,none⟩)∧wx.heap[gx]? = some (Obj.cells #[.int .i64 ki,.int .i64 ni,.slice u1 u2 u3,.slice v1 v2 v3] 108)∧wx.heap[gy]? = some (Obj.cells #[.int .i64 kj,.int .i64 nj,.slice u4 u5 u6,.slice v4 v5 v6] 108)∧Below wr.heap.size wr wx)
     case first=>
      go_region
      all_goals go_wp2_with fail
      all_goals go_meet
      ·obtain ⟨h1,h2,h3⟩:=two_newb wr (Obj.cells #[.int .i64 ki,.int .i64 ni,.slice u1 u2 u3,.slice v1 v2 v3] 108) (Obj.cells #[.int .i64 kj,.int .i64 nj,.slice u4 u5 u6,.slice v4 v5 v6] 108)
       exact ⟨_,_,rfl,rfl,h1,h2,h3⟩
      ·obtain ⟨h1,h2,h3⟩:=two_newb wr (Obj.cells #[.int .i64 kj,.int .i64 nj,.slice u4 u5 u6,.slice v4 v5 v6] 108) (Obj.cells #[.int .i64 ki,.int .i64 ni,.slice u1 u2 u3,.slice v1 v2 v3] 108)
       exact ⟨_,_,rfl,rfl,h2,h1,h3⟩
     case rest=>
      obtain ⟨gx,gy,rfl,rfl,hx,hy,hbc⟩:=hcut
      have f0:wc.cell? ⟨gx,0,none⟩=some (.int .i64 ki):=cell_of_row wc _ 0 _ _ (0,0) hx
      have f3:wc.cell? ⟨gx,3,none⟩=some (.slice v1 v2 v3):=cell_of_row wc _ 3 _ _ (0,0) hx
      have h0:wc.cell? ⟨gy,0,none⟩=some (.int .i64 kj):=cell_of_row wc _ 0 _ _ (0,0) hy
      have h3:wc.cell? ⟨gy,3,none⟩=some (.slice v4 v5 v6):=cell_of_row wc _ 3 _ _ (0,0) hy
      have hbt:Below W0.heap.size W0 wc:=HK.out.2.trans (hbc.mono HK.out.2.size)
      have y1:wc.cell? ⟨w.heap.size,1,none⟩=some (.slice (some ⟨g,0,none⟩) q cv):=(hbt.cell (p:=⟨w.heap.size,1,none⟩) hl0).trans x1
      have b4:wc.cell? ⟨g,i,none⟩=some (.int .i64 (c i:Nat)):=(hbc.cell (p:=⟨g,i,none⟩) hgl1).trans a4
      have b5:wc.cell? ⟨g,k,none⟩=some (.int .i64 (c k:Nat)):=(hbc.cell (p:=⟨g,k,none⟩) hgl1).trans e4
      have HBT:=kI hbt
      clear hx hy hbc hbt a0 a1 a2 a3 a4 e0 e1 e2 e3 e4 y0
      have HNO:Hid (∀hb:¬ (c i=c k∧ki≠1∧kj≠1∧¬ (ki=kj∧v2=v5)),∀y,y<k+1→¬ BadAt (gM M) c i y):=kI (fun hb y hyk=>by
       rcases Nat.lt_or_ge y k with h|h
       ·exact HK.out.1 y h
       ·obtain rfl:y=k:=by omega
        rintro ⟨z,z',q1,q2,q3,q4,q5,q6⟩
        obtain ⟨r1,r2,r3,r4,r5,r6⟩:=HP.out
        rw [r1] at q1
        rw [r2] at q2
        cases q1
        cases q2
        refine hb ⟨q3,by rwa [←r3],by rwa [←r4],fun hc=>q6 ⟨by rw [r3,r4];exact hc.1,by rw [r5,r6];exact hc.2⟩⟩)
      have HYES:Hid ((c i=c k∧ki≠1∧kj≠1∧¬ (ki=kj∧v2=v5))→RClash (gM M) c):=kI (fun ⟨q3,q4,q5,q6⟩=>by
       obtain ⟨r1,r2,r3,r4,r5,r6⟩:=HP.out
       exact ⟨i,k,hki,p,p',r1,r2,q3,by rw [r3];exact q4,by rw [r4];exact q5,fun hf=>q6 ⟨by rw [←r3,←r4];exact hf.1,by rw [←r5,←r6];exact hf.2⟩⟩)
      by_cases m1:c i=c k
      case neg=>
       have t1:((c i:Int) == (c k:Int))=false:=by simp;omega
       have HE:=kI (HNO.out (by intro h;exact m1 h.1))
       clear m1
       go_wp2_with fail
       go_quiet (fail)
       go_wp2_with fail
       go_roundw
       case rel=>exact ⟨k+1,by omega,by go_num,HE.out,below_drewN HBT.out _⟩
       case measure=>simp [intOf];omega
      have t1:((c i:Int) == (c k:Int))=true:=by rw [m1];simp
      by_cases m2:ki=1
      case pos=>
       have t2:(ki != 1)=false:=by simp [m2]
       have HE:=kI (HNO.out (by intro h;exact h.2.1 m2))
       clear m1 m2
       go_wp2_with fail
       go_quiet (fail)
       go_wp2_with fail
       go_roundw
       case rel=>exact ⟨k+1,by omega,by go_num,HE.out,below_drewN HBT.out _⟩
       case measure=>simp [intOf];omega
      have t2:(ki != 1)=true:=bne_iff_ne.2 m2
      by_cases m3:kj=1
      case pos=>
       have t3:(kj != 1)=false:=by simp [m3]
       have HE:=kI (HNO.out (by intro h;exact h.2.2.1 m3))
       clear m1 m2 m3
       go_wp2_with fail
       go_quiet (fail)
       go_wp2_with fail
       go_roundw
       case rel=>exact ⟨k+1,by omega,by go_num,HE.out,below_drewN HBT.out _⟩
       case measure=>simp [intOf];omega
      have t3:(kj != 1)=true:=bne_iff_ne.2 m3
      by_cases m4:ki=kj
      case neg=>
       have t4:(ki != kj)=true:=bne_iff_ne.2 m4
       have HE:=kI (HYES.out ⟨m1,m2,m3,fun h=>m4 h.1⟩)
       clear m1 m2 m3 m4
       go_wp2_with fail
       go_quiet (fail)
       go_wp2_with fail
       go_ret
       exact ⟨true,rfl,⟨fun _=>HE.out,fun _=>rfl⟩,below_drewN (HB0.out.trans (HBT.out.mono (Nat.le_of_lt hl0))) _⟩
      have t4:(ki != kj)=false:=by simp [m4]
      by_cases m5:v2=v5
      case neg=>
       have t5:((v2:Int) != (v5:Int))=true:=bne_iff_ne.2 (by omega)
       have HE:=kI (HYES.out ⟨m1,m2,m3,fun h=>m5 h.2⟩)
       clear m1 m2 m3 m4 m5
       go_wp2_with fail
       go_quiet (fail)
       go_wp2_with fail
       go_ret
       exact ⟨true,rfl,⟨fun _=>HE.out,fun _=>rfl⟩,below_drewN (HB0.out.trans (HBT.out.mono (Nat.le_of_lt hl0))) _⟩
      case pos=>
       have t5:((v2:Int) != (v5:Int))=false:=by simp [m5]
       have HE:=kI (HNO.out (by intro h;exact h.2.2.2 ⟨m4,m5⟩))
       clear m1 m2 m3 m4 m5
       go_wp2_with fail
       go_quiet (fail)
       go_wp2_with fail
       go_roundw
       case rel=>exact ⟨k+1,by omega,by go_num,HE.out,below_drewN HBT.out _⟩
       case measure=>simp [intOf];omega
    ·obtain rfl:k=i:=by omega
     go_wp2_with fail
     go_roundw
     case rel=>
      refine ⟨k+1,by omega,by go_num,fun x y hx hy=>?_,HK.out.2⟩
      rcases Nat.lt_or_ge x k with h|h
      ·exact HI.out.1 x y h hy
      ·obtain rfl:x=k:=by omega
       exact HK.out.1 y hy
     case measure=>simp [intOf];omega
  ·obtain rfl:i=q:=by omega
   go_wp2_with fail
   go_ret
   refine ⟨false,rfl,⟨fun h=>absurd h (by decide),?_⟩,HB0.out.trans (HI.out.2.mono (Nat.le_of_lt hl0))⟩
   rintro ⟨x,y,hyx,p,p',hx,hr⟩
   have:=(List.getElem?_eq_some_iff.1 hx).1
   exact absurd ⟨p,p',hx,hr⟩ (HI.out.1 x y (by have:=HM.out.1;omega) hyx)
end
section
open Go.RowKit
open Un (rowI rowI_get own_shape paint)
set_option maxRecDepth 100000
def Rg (D:Nat→Prop) (B:Nat) (w:World) (v:Value) (M:List Rm) (G:List Gn):Prop:=RgM D B w v M∧gM M=G∧GI G
theorem Rg.below {D:Nat→Prop}{B:Nat}{w w':World}{v:Value}{M:List Rm}{G:List Gn}(h:Rg D B w v M G) (hB:B≤w.heap.size) (hb:Below w.heap.size w w'):Rg D B w' v M G:=⟨h.1.below hB hb,h.2⟩
theorem Rg.len {D:Nat→Prop}{B:Nat}{w:World}{v:Value}{M:List Rm}{G:List Gn}(h:Rg D B w v M G):M.length=G.length:=by rw [←h.2.1];simp [gM]
theorem Rg.rows {D:Nat→Prop}{B:Nat}{w:World}{v:Value}{M:List Rm}{G:List Gn}(h:Rg D B w v M G):∀x∈M,x.2.2.1=x.1.2.2.2.2.length:=by
 intro x hx
 obtain ⟨A,c,e⟩:=(h.1.nodes x hx).2.1.form
 unfold slv at e
 injection e
theorem radd_rt (D:Nat→Prop) (B:Nat) (w:World) (vm:Value) (M:List Rm) (G:List Gn) (h:Rg D B w vm M G) (hD:∀b,w.heap.size≤b→D b) (hB:B≤w.heap.size) (x:Ty1) (ht:TyV B w x.2.2.2 (slv x.2.2.1)) (hr:rt1 x=true) (hl:G.length+(1+x.2.2.2.size)≤100000):
  Calls Tryz.prog 65 #[vm,t1V x] w fun e w'=>∃(v':Value) (M':List Rm),e = .returned (.tuple #[v',.int .i64 ((gadd1 G x.1 x.2.1 x.2.2.2).2:Nat)])∧Rg D B w' v' M' (gadd1 G x.1 x.2.1 x.2.2.2).1∧Below w.heap.size w w':=by
 obtain ⟨hM,hg,hG⟩:=id h
 have hlen:=h.len
 have ha:=rt1_right hr (TyV.len ht)
 have hlo:LenOk (Fo.cons x.1 x.2.1 x.2.2.1 x.2.2.2 .nil):=⟨TyV.len ht,(TyV.list ht).lenOk,trivial⟩
 have hv:=vok_of ha hlo
 have hG2:GI ((M1 M).map rG):=by rw [←gM_eq,hg];exact hG
 obtain ⟨g1,g2,g3⟩:=radd1_G (M1 M) x.1 x.2.1 x.2.2.1 x.2.2.2 hG2 hv
 rw [←gM_eq,hg] at g1 g2
 rw [g1] at g3
 refine (raddw_any B (x.2.2.2.size+1) D x.2.2.2 x.1 x.2.1 x.2.2.1 w M vm (by omega) (by omega) hB ht hv.1 hv.2.1 hD hM).mono ?_
 rintro e w' ⟨v',M',rfl,hM',hR',hb⟩
 refine ⟨v',M',by rw [g2],⟨hR',by rw [gM_eq,hM',g1],g3⟩,hb⟩
def DoneP (G:List Gn) (c:Nat→Nat) (i k:Nat):Prop:=∀p q:Gn,G[i]? = some p→G[k]? = some q→c i=c k→p.1≠1→p.1=q.1→p.2.2.2.length=q.2.2.2.length→∀(j a b:Nat),p.2.2.2[j]? = some a→q.2.2.2[j]? = some b→c a=c b
theorem closed_done {G:List Gn}{c:Nat→Nat}(h:∀i k,i<G.length→k<i→DoneP G c i k):ClosedC G c:=by
 intro x y p q hx hy hc h1 hk hl j a b ha hb
 have lx:=(List.getElem?_eq_some_iff.1 hx).1
 have ly:=(List.getElem?_eq_some_iff.1 hy).1
 rcases Nat.lt_trichotomy x y with h2|rfl|h2
 ·exact (h y x ly h2 q p hy hx hc.symm (by rwa [←hk]) hk.symm hl.symm j b a hb ha).symm
 ·rw [hx] at hy
  cases hy
  rw [ha] at hb
  cases hb
  rfl
 ·exact h x y lx h2 p q hx hy hc h1 hk hl j a b ha hb
theorem Rc.part {G:List Gn}{c:Nat→Nat}{E:List (Nat×Nat)}(h:Rc G c E) {i k j a b:Nat}{p q:Gn}(hp:G[i]? = some p) (hq:G[k]? = some q) (hc:c i=c k) (h1:p.1≠1) (hk:p.1=q.1) (hl:p.2.2.2.length=q.2.2.2.length) (ha:p.2.2.2[j]? = some a) (hb:q.2.2.2[j]? = some b):a<G.length∧b<G.length∧Rc G (paint c a b) E:=by
 have la:=h.parts _ _ hp _ (List.mem_of_getElem? ha)
 have lb:=h.parts _ _ hq _ (List.mem_of_getElem? hb)
 exact ⟨la,lb,h.join la lb (.part (h.sound i k (List.getElem?_eq_some_iff.1 hp).1 (List.getElem?_eq_some_iff.1 hq).1 hc) hp hq h1 (by rwa [←hk]) hk hl ha hb)⟩
def TyN (x:Ty1):Prop:=x.2.2.1.2.1=x.2.2.2.len∧LenOk x.2.2.2
def SysOk (s:Sys):Prop:=GI s.1∧Gp s.1∧∀a b,(a,b)∈s.2→a<s.1.length∧b<s.1.length
theorem SysOk.stp {s:Sys}(h:SysOk s) (x:Eqn) (hr:rtE x=true) (h1:TyN x.1) (h2:TyN x.2.1):SysOk (stp s x):=by
 obtain ⟨hG,hp,he⟩:=h
 obtain ⟨r1,r2⟩:rt1 x.1=true∧rt1 x.2.1=true:=by unfold rtE at hr;rwa [Bool.and_eq_true] at hr
 obtain ⟨⟨X1,q1,_⟩,g1,p1,l1⟩:=gadd1_all (k:=x.1.1) (n:=x.1.2.1) (u:=x.1.2.2.1) (ps:=x.1.2.2.2) hG hp (rt1_right r1 h1.1) ⟨h1.1,h1.2,trivial⟩
 obtain ⟨⟨X2,q2,_⟩,g2,p2,l2⟩:=gadd1_all (k:=x.2.1.1) (n:=x.2.1.2.1) (u:=x.2.1.2.2.1) (ps:=x.2.1.2.2.2) g1 p1 (rt1_right r2 h2.1) ⟨h2.1,h2.2,trivial⟩
 refine ⟨g2,p2,fun a b hab=>?_⟩
 show a<(gadd1 (gadd1 s.1 x.1.1 x.1.2.1 x.1.2.2.2).1 x.2.1.1 x.2.1.2.1 x.2.1.2.2.2).1.length∧b<(gadd1 (gadd1 s.1 x.1.1 x.1.2.1 x.1.2.2.2).1 x.2.1.1 x.2.1.2.1 x.2.1.2.2.2).1.length
 have e1:(gadd1 s.1 x.1.1 x.1.2.1 x.1.2.2.2).1.length≤(gadd1 (gadd1 s.1 x.1.1 x.1.2.1 x.1.2.2.2).1 x.2.1.1 x.2.1.2.1 x.2.1.2.2.2).1.length:=by rw [q2,List.length_append];omega
 have e0:s.1.length≤(gadd1 s.1 x.1.1 x.1.2.1 x.1.2.2.2).1.length:=by rw [q1,List.length_append];omega
 rcases List.mem_append.1 hab with h|h
 ·have:=he a b h
  omega
 ·obtain ⟨rfl,rfl⟩:a=_∧b=_:=by simpa using h
  omega
theorem fold_sysok (l:List Eqn) (hr:∀y∈l,rtE y=true) (hn:∀y∈l,TyN y.1∧TyN y.2.1):∀s,SysOk s→SysOk (l.foldl Go.Proofs.YtmamdiggjghjkaaGreatDoor.stp s):=by
 induction l with
 | nil=>exact fun s h=>h
 | cons x l ih=>exact fun s h=>ih (fun y hy=>hr y (List.mem_cons_of_mem _ hy)) (fun y hy=>hn y (List.mem_cons_of_mem _ hy)) _ (h.stp x (hr x List.mem_cons_self) (hn x List.mem_cons_self).1 (hn x List.mem_cons_self).2)
theorem cls_ok (l:List Eqn) (hr:∀y∈l,rtE y=true) (hn:∀y∈l,TyN y.1∧TyN y.2.1):SysOk (cls l):=
 fold_sysok l hr hn ([],[]) (by
  refine ⟨fun x hx=>?_,fun x hx=>?_,fun a b h=>?_⟩
  ·simp at hx
  ·simp at hx
  ·simp at h)
theorem EqT.tyN {B:Nat}{w:World}{x:Eqn}(h:EqT B w x):TyN x.1∧TyN x.2.1:=
 ⟨⟨TyV.len h.1,(TyV.list h.1).lenOk⟩,⟨TyV.len h.2,(TyV.list h.2).lenOk⟩⟩
theorem Rc.start {s:Sys}(h:SysOk s):Rc s.1 (fun k=>k) s.2:=by
 refine ⟨fun i j _ _ e=>?_,fun x p hp a ha=>(h.2.1 p (List.mem_of_getElem? hp)).2 a ha⟩
 have e:i=j:=e
 subst e
 exact .refl _
theorem prC_at (T:List (Nat×Nat)) (i:Nat) (hi:i<T.length):(prC T)[i*2]? = some (.int .i64 (T[i].1:Nat))∧(prC T)[i*2+1]? = some (.int .i64 (T[i].2:Nat)):=by
 induction T generalizing i with
 | nil=>simp at hi
 | cons x T ih=>
  cases i with
  | zero=>simp [prC]
  | succ i=>
   have:=ih i (by simpa using hi)
   have e:∀j,(prC (x :: T))[(i+1)*2+j]? = (prC T)[i*2+j]?:=fun j=>by
    unfold prC
    rw [List.flatMap_cons,List.getElem?_append_right (by simp;omega)]
    congr 1
    simp;omega
   have e0:=e 0
   simp only [Nat.add_zero] at e0
   rw [e0,e 1]
   exact this
def J3 (wq:World) (G:List Gn) (E:List (Nat×Nat)) (m:Nat) (Q P:(Nat→Nat)→Prop) (s9 s11:Value) (wx:World):Prop:=
 ∃(ch:Bool) (c:Nat→Nat),s11 = .bool ch∧wx.ownsRow wq.heap.size 3 1 s9 G.length (rowI G.length c)∧Rc G c E∧(∀a b,(a,b)∈E→c a=c b)∧Q c∧(ch=true→Un.cnt G.length c<m)∧(ch=false→Un.cnt G.length c≤m∧P c)∧Below wq.heap.size wq wx
theorem J3.imp {wq:World}{G:List Gn}{E:List (Nat×Nat)}{m:Nat}{Q Q' P P':(Nat→Nat)→Prop}{s9 s11:Value}{wx:World}(h:J3 wq G E m Q P s9 s11 wx) (hQ:∀c,Q c→Q' c) (hP:∀c,Q c→P c→P' c):J3 wq G E m Q' P' s9 s11 wx:=by
 obtain ⟨ch,c,h1,h2,h3,h4,h5,h6,h7,h8⟩:=h
 exact ⟨ch,c,h1,h2,h3,h4,hQ c h5,h6,fun e=>⟨(h7 e).1,hP c h5 (h7 e).2⟩,h8⟩
end
end Go.Proofs.YtmamdiggjghjkaaGreatDoor
