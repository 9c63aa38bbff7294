/- Texts of one proof, one behind the other. -/
import Derived.Test.YtmamdiggjghjkaaGreatDoorMgSolveOrder28
import Derived.Test.YtmamdiggjghjkaaGreatDoorMgSolveOrder21
import Derived.Test.YtmamdiggjghjkaaGreatDoorMgSolveOrder24
import Derived.Test.YtmamdiggjghjkaaGreatDoorMgSolveOrder1
import Derived.Test.YtmamdiggjghjkaaGreatDoorMgSolveOrder26b
import Derived.IntWalk
import Derived.Test.YtmamdiggjghjkaaGreatDoorMgSolveOrder4
import Derived.Test.YtmamdiggjghjkaaGreatDoorMgSolveOrder6
set_option linter.unusedVariables false
namespace Go.Proofs.YtmamdiggjghjkaaGreatDoor
section
open Go.RowKit
open Un (Else dg cnt own_else)
set_option maxRecDepth 100000
theorem alp_of {F:Fo}(h:∀x∈F.pre,alone x.1 x.2.1 x.2.2.2.1=true) (hl:LenOk F):AlP F:=by
 induction F with
 | nil=>trivial
 | cons k n u ps r i1 i2=>
  obtain ⟨l1,l2,l3⟩:=hl
  have h0:=h (k,n,u) (by simp [Fo.pre])
  refine ⟨by rw [←l1];exact h0,i1 (fun x hx=>h x (by simp [Fo.pre,hx])) l2,i2 (fun x hx=>h x (by simp [Fo.pre,hx])) l3⟩
theorem fok_of {B:Nat}{w:World}{t:Ty1}(hT:TyV B w t.2.2.2 (slv t.2.2.1)) (hW:TyW t) (hr:rt1 t=true):Fok (one1 t):=by
 have hl:LenOk (one1 t):=⟨TyV.len hT,(TyV.list hT).lenOk,trivial⟩
 have ha:=rt1_right hr (TyV.len hT)
 exact ⟨vok_of ha hl,alp_of (by simpa [allAlone,one1] using ha) hl,⟨hW.1,hW.2,trivial⟩⟩
theorem eok_of {B:Nat}{w:World}{x:Eqn}(hT:EqT B w x) (hW:TyW x.1∧TyW x.2.1) (hr:rtE x=true):Eok x:=by
 have hr':rt1 x.1=true∧rt1 x.2.1=true:=by unfold rtE at hr;rwa [Bool.and_eq_true] at hr
 exact ⟨fok_of hT.1 hW.1 hr'.1,fok_of hT.2 hW.2 hr'.2⟩
theorem Eok.flip {x:Eqn}(h:Eok x):Eok (flipE x):=⟨h.2,h.1⟩
theorem order_sim {L D:List Eqn}(hL:∀x∈L,Eok x) (hD:∀x∈D,∃y∈L,x=y∨x=flipE y) (hLD:∀y∈L,flipE y∈D):Sim (cls L) (cls D)∧Sim (cls D) (cls L):=by
 have hDk:∀x∈D,Eok x:=fun x hx=>by
  obtain ⟨y,hy,rfl|rfl⟩:=hD x hx
  ·exact hL _ hy
  ·exact (hL _ hy).flip
 have h1:∀x∈L,HoldsIn (cls D) x:=fun x hx=>((fold_ok D ([],[]) Gok.nil hDk).2 _ (hLD x hx)).flip
 have h2:∀x∈D,HoldsIn (cls L) x:=fun x hx=>by
  obtain ⟨y,hy,rfl|rfl⟩:=hD x hx
  ·exact (fold_ok L ([],[]) Gok.nil hL).2 _ hy
  ·exact ((fold_ok L ([],[]) Gok.nil hL).2 _ hy).flip
 exact ⟨sim_of L D hL hDk h1,sim_of D L hDk hL h2⟩
section UzKs
variable {O:Nat→Prop}{w:World}{cb:Nat}{s:Sys}{f:Int}
end UzKs
end
section
open Go.RowKit
set_option maxRecDepth 100000
section UzUs
variable {w w':World}{cb:Nat}{st:Int}
theorem CxM.lt (h:CxM w cb st):cb<w.heap.size:=(gL h).1
theorem steps_cx (h:CxM w cb st):Calls Tryz.prog 78 #[.pointer (some ⟨cb,0,none⟩)] w fun e w'=>e = .returned (.int .i64 st)∧w'=w:=by
 have c0:w.cell? ⟨cb,0,none⟩=some (.int .i64 st):=cell_of_row w cb 0 _ _ (0,0) h
 have hl:=h.lt
 clear h
 go_enter Tryz.func78,Tryz.ntmps78
 go_wp2_with fail
 exact bodyPost_ret (results_tmp rfl _ _ _) rfl ⟨rfl,rfl⟩
end UzUs
end
section
open Go.RowKit
open Un (Else dg cnt own_else intAt)
set_option maxRecDepth 100000
attribute [local go_sem] Oper.semAt_some
attribute [local go_sem ↓] builtin_app
def dgt (n:Nat):Nat:=if n=0 then 0 else dg n
def OkC (B:Nat) (w:World) (c:Nat) (s:Sys) (q:Nat) (st:Int):Prop:=
 ∃O fs m J,CsM O w c s.1 s.2 st fs m∧(0≤st∧st≤(1+4*(dg s.1.length:Int))*(J:Nat)∧0≤fs∧fs≤(1+4*(dg s.1.length:Int))*(J:Nat))∧J+9*m≤9*s.1.length+q∧∀k,O k→B≤k∧k<w.heap.size
section UzWs
variable {w w':World}{B c q:Nat}{s:Sys}{st:Int}
theorem OkC.below (h:OkC B w c s q st) (hb:Below w.heap.size w w'):OkC B w' c s q st:=by
 obtain ⟨O,fs,m,J,hC,h2,h3,h4⟩:=h
 exact ⟨O,fs,m,J,hC.below hb,h2,h3,fun k hk=>by have:=h4 k hk;have:=hb.size;omega⟩
theorem mulb {d e J:Int}(h:d≤e) (hJ:0≤J):(1+4*d)*J≤(1+4*e)*J:=Int.mul_le_mul_of_nonneg_right (by omega) hJ
theorem mulj (d J:Int):(1+4*d)*J=J+4*d*J:=by rw [Int.add_mul,Int.one_mul]
theorem muls (d J j:Int):(1+4*d)*(J+j)=(1+4*d)*J+(j+4*d*j):=by rw [Int.mul_add,mulj d j]
theorem mulk {d J K:Int}(hd:0≤d) (h:J≤K):(1+4*d)*J≤(1+4*d)*K:=Int.mul_le_mul_of_nonneg_left h (by omega)
theorem dg_mono {a b:Nat}(h:a≤b):dg a≤dg b:=by
 unfold dg
 rcases Nat.eq_zero_or_pos a with rfl|ha
 ·simp
 ·have:=(Nat.le_log2 (by omega)).2 (Nat.le_trans (Nat.log2_self_le (n:=a) (by omega)) h)
  omega
theorem steps_ok {n q e:Nat}{st:Int}(h:st≤(1+4*(dg n:Int))*((9*n+q:Nat):Int)) (hn:n≤e) (hq:2*q≤e):st≤40*((1+e:Nat):Int)*((dgt (1+e):Nat)+2):=by
 have hd:dg n≤dgt (1+e):=by
  unfold dgt
  rw [if_neg (by omega)]
  exact dg_mono (by omega)
 have h1:=mulb (d:=dg n) (e:=dgt (1+e)) (J:=((9*n+q:Nat):Int)) (by omega) (by omega)
 have h2:=mulk (d:=dgt (1+e)) (J:=((9*n+q:Nat):Int)) (K:=((10*(1+e):Nat):Int)) (by omega) (by omega)
 have e2:((10*(1+e):Nat):Int)=10*((1+e:Nat):Int):=by push_cast;rfl
 rw [e2] at h2
 have h5:=Int.le_trans h (Int.le_trans h1 h2)
 have hy:0≤((1+e:Nat):Int):=by omega
 clear h h1 h2 hn hq hd e2
 generalize ((1+e:Nat):Int)=y at *
 generalize ((dgt (1+e):Nat):Int)=d at *
 have h3:(1+4*d)*(10*y)=10*y+40*(d*y):=by
  rw [Int.add_mul,Int.one_mul,Int.mul_assoc,Int.mul_left_comm d 10 y,←Int.mul_assoc 4 10]
  rfl
 have h4:40*y*(d+2)=40*(d*y)+80*y:=by
  rw [Int.mul_add,Int.mul_assoc,Int.mul_comm y d]
  congr 1
  rw [Int.mul_comm,←Int.mul_assoc]
  rfl
 rw [h3] at h5
 rw [h4]
 omega
end UzWs
end
section
open Go.RowKit
open Un (Else dg cnt own_else wp_world)
attribute [local go_sem] Oper.semAt_some
set_option maxRecDepth 100000
section SvBs
variable {w w':World}{B c q:Nat}{s:Sys}{st:Int}
theorem mul23 {d J:Int}(h0:0≤d) (h:d≤21) (hJ:0≤J) (h1:J≤2000000):(1+4*d)*J≤200000000:=by
 have a:=Int.mul_le_mul_of_nonneg_right (show 1+4*d≤85 by omega) hJ
 omega
theorem OkC.fits2 (h:OkC B w c s q st) (hl:s.1.length≤200000) (hq:q≤2000):0≤st∧st≤200000000:=by
 obtain ⟨O,fs,m,J,hC,⟨g1,g2,g3,g4⟩,h3,h4⟩:=h
 have hd:dg s.1.length≤21:=Un.dg_le (by omega)
 have:=mul23 (d:=dg s.1.length) (J:=(J:Nat)) (by omega) (by omega) (by omega) (by omega)
 omega
theorem ok_eq2 (h:OkC B w c s q st) (hB:B≤w.heap.size) (x:Eqn) (hx:EqT B w x) (hw:TyW x.1∧TyW x.2.1) (hr:rtE x=true) (hs:s.1.length+sz1 x≤200000) (hq:q≤2000):
  Calls Tryz.prog 77 #[.pointer (some ⟨c,0,none⟩),t1V x.1,t1V x.2.1] w fun e w'=>∃(r st':Int),e = .returned (.int .i64 r)∧Below B w w'∧st≤st'∧st'≤(1+4*(dg (stp s x).1.length:Int))*((9*(stp s x).1.length+q+1:Nat):Int)∧
   ((r=7∧Clash (stp s x).1 (stp s x).2∧CxM w' c st')∨(r=0∧¬ Clash (stp s x).1 (stp s x).2∧OkC B w' c (stp s x) (q+1) st')):=by
 have hfit:=h.fits2 (by omega) hq
 obtain ⟨O,fs,m,J,hC,⟨g1,g2,g3,g4⟩,h9,h3⟩:=h
 have hr':rt1 x.1=true∧rt1 x.2.1=true:=by unfold rtE at hr;rwa [Bool.and_eq_true] at hr
 have ht1:TyLat O w x.1.1 x.1.2.1 x.1.2.2.1 x.1.2.2.2:=TyLat.low hx.1 (fun k hk=>(h3 k hk).1) hB ⟨hw.1.1,hw.1.2,trivial⟩ (rt1_right hr'.1 (TyV.len hx.1))
 have ht2:TyLat O w x.2.1.1 x.2.1.2.1 x.2.1.2.2.1 x.2.1.2.2.2:=TyLat.low hx.2 (fun k hk=>(h3 k hk).1) hB ⟨hw.2.1,hw.2.2,trivial⟩ (rt1_right hr'.2 (TyV.len hx.2))
 have hd0:dg s.1.length≤21:=Un.dg_le (by omega)
 have hj0:=mul23 (d:=dg s.1.length) (J:=(J:Nat)) (by omega) (by omega) (by omega) (by omega)
 refine (equate_ok hC x.1.1 x.1.2.1 x.2.1.1 x.2.1.2.1 x.1.2.2.1 x.2.1.2.2.1 x.1.2.2.2 x.2.1.2.2.2 ht1 ht2 (by unfold sz1 at hs;omega) (by omega) (by omega)).mono ?_
 rintro e w' ⟨hE,st',j,q1,q2,q3⟩
 obtain ⟨X,hX,hXl⟩:=(stp_pre s x).1
 have hl2:s.1.length≤(stp s x).1.length:=by rw [hX,List.length_append];omega
 have hdm:=dg_mono hl2
 have hB':Below B w w':=hE.below (fun k hk=>(h3 k hk).1) hB
 have e1:(eqG s.1 x.1.1 x.1.2.1 x.1.2.2.2 x.2.1.1 x.2.1.2.1 x.2.1.2.2.2).length=(stp s x).1.length:=rfl
 rw [e1] at q2 q3
 have k1:=mulb (d:=dg s.1.length) (e:=dg (stp s x).1.length) (J:=(J:Nat)) (by omega) (by omega)
 have k2:=muls (dg (stp s x).1.length) (J:Nat) (j:Nat)
 rcases q3 with ⟨rfl,hc,hx,hj⟩|⟨rfl,hc,fs',m',hC',f1,f2,hj⟩
 ·have k3:=mulk (d:=dg (stp s x).1.length) (J:=((J:Nat):Int)+(j:Nat)) (K:=((9*(stp s x).1.length+q+1:Nat):Int)) (by omega) (by omega)
  exact ⟨7,st',rfl,hB',q1,by omega,.inl ⟨rfl,hc,hx⟩⟩
 ·have k3:=mulk (d:=dg (stp s x).1.length) (J:=((J:Nat):Int)+(j:Nat)) (K:=((9*(stp s x).1.length+q+1:Nat):Int)) (by omega) (by omega)
  have k4:=mulj (dg (stp s x).1.length) (j:Nat)
  obtain ⟨O',a1,a2⟩:=hC'.tight
  have e2:((J+j:Nat):Int)=(J:Nat)+(j:Nat):=by push_cast;rfl
  refine ⟨0,st',rfl,hB',q1,by omega,.inr ⟨rfl,hc,O',fs',m',J+j,a2,⟨by omega,by rw [e2];omega,by omega,by rw [e2];omega⟩,by omega,fun k hk=>?_⟩⟩
  obtain ⟨b1,b2⟩:=a1 k hk
  refine ⟨?_,b2⟩
  rcases b1 with b1|b1
  ·exact (h3 k b1).1
  ·omega
theorem rt1_eq {t:Ty1}(hu:t.2.2.1.2.1=t.2.2.2.len):allAlone (Fo.cons t.1 t.2.1 t.2.2.1 t.2.2.2 .nil).pre=rt1 t:=by
 unfold rt1 allAlone
 simp [Fo.pre,hu]
theorem types_right {t:Ty1}(hB:B≤w.heap.size) (ht:TyV B w t.2.2.2 (slv t.2.2.1)) (hs:t.2.2.2.size<1000000):
  Calls Tryz.prog 48 #[t1V t] w fun e w'=>e = .returned (.bool (rt1 t))∧Below w.heap.size w w':=by
 have h:=right_any w B t.1 t.2.1 t.2.2.1 t.2.2.2 hB ht hs
 rw [rt1_eq (TyV.len ht)] at h
 exact h
end SvBs
end
section
open Go.RowKit
open Un (Else dg cnt own_else wp_world)
attribute [local go_sem] Oper.semAt_some
set_option maxRecDepth 100000
def ClsPost (w:World) (l:List Eqn) (x:Go.Ending) (w':World):Prop:=
 ∃(p:Option Addr) (r:Int) (q:Nat),x = .returned (.tuple #[.pointer p,.int .i64 r,.int .i64 (q:Nat)])∧Below w.heap.size w w'∧
 ((∃y∈l,rtE y=false)∧p=none∧r=1∧q=0∨
  (∀y∈l,rtE y=true)∧q≤300000000∧((q:Int)≤40*((1+esz l:Nat):Int)*((dgt (1+esz l):Nat)+2)+35*(esz l:Nat)+1)∧
   ((p=none∧r=7∧Clash (cls l).1 (cls l).2)∨(p=none∧r=8∧¬ Clash (cls l).1 (cls l).2∧¬ FinC (cls l).1 (cls l).2)∨
   (r=0∧¬ Clash (cls l).1 (cls l).2∧FinC (cls l).1 (cls l).2∧∃cb O st fs m,p=some ⟨cb,0,none⟩∧CsM O w' cb (cls l).1 (cls l).2 st fs m∧0≤fs∧fs≤300000000∧∀k,O k→w.heap.size≤k∧k<w'.heap.size)))
theorem esz_two {l:List Eqn}(j:Nat):2*(l.take j).length≤esz (l.take j):=by
 have:∀m:List Eqn,2*m.length≤esz m:=fun m=>by
  induction m with
  | nil=>simp [esz]
  | cons x m ih=>
   have e:esz (x :: m)=sz1 x+esz m:=by simp [esz]
   rw [e,List.length_cons]
   unfold sz1
   omega
 exact this _
theorem steps_all {l:List Eqn}{st:Int}{j n:Nat}(hj:j≤l.length) (hn:n≤esz l) (h:st≤(1+4*(dg n:Int))*((9*n+j:Nat):Int)):st≤40*((1+esz l:Nat):Int)*((dgt (1+esz l):Nat)+2):=
 steps_ok h hn (by have:=esz_two (l:=l) l.length;rw [List.take_length] at this;omega)
theorem steps_most {st:Int}{j n:Nat}(hj:j≤2000) (hn:n≤200000) (h:st≤(1+4*(dg n:Int))*((9*n+j:Nat):Int)):st≤200000000:=by
 have hd:dg n≤21:=Un.dg_le (by omega)
 have:=mul23 (d:=dg n) (J:=((9*n+j:Nat):Int)) (by omega) (by omega) (by omega) (by omega)
 omega
theorem results_tmp3 {fn:Func}{p q r:Tmp}(h:fn.results=#[.tmp p,.tmp q,.tmp r]) (tmps:Array Value) (P:Program) (w:World):(results fn tmps).run P w = .ok (.tuple #[tmps.getD p undef,tmps.getD q undef,tmps.getD r undef]) w:=by
 simp [results,h]
set_option maxHeartbeats 8000000 in
theorem classes_any (w:World) (l:List Eqn) (v:Value) (h:EqV w.heap.size w l v) (hw:EqW l) (hl:l.length≤2000) (hs:esz l≤190000) (hgl:GL (cls l).1):
  Calls Tryz.prog 41 #[v] w (ClsPost w l):=by
 obtain ⟨A,cA,rfl⟩:=h.form
 have H:=kI (aI h (aI hw hgl))
 clear h hw hgl
 go_enter Tryz.func41,Tryz.ntmps41
 go_wp2_with fail
 refine (new_cs w).mono ?_
 rintro e w1 ⟨c,rfl,hC1,hb1⟩
 have H1:Hid (OkC w.heap.size w1 c ([],[]) 0 0∧Below w.heap.size w w1):=kI (by
  obtain ⟨O',a1,a2⟩:=hC1.tight
  exact ⟨⟨O',0,0,0,a2,by simp,by simp,fun k hk=>a1 k hk⟩,hb1⟩)
 clear hC1 hb1
 go_wp2_with fail
 go_loopw [16] (fun s wr=>∃j:Nat,s = .int .i64 (j:Nat)∧j≤l.length∧(∀y∈l.take j,rtE y=true)∧Below w1.heap.size w1 wr) (fun s _=>l.length-(intOf s).toNat)
 case atStart=>exact ⟨0,rfl,Nat.zero_le _,fun y hy=>by simp at hy,Below.refl _ _⟩
 case round=>
  obtain ⟨j,rfl,hj,hrt,hb⟩:=hrel
  have HT:=kI (aI hrt hb)
  clear hrt hb
  by_cases hjl:j<l.length
  ·have f1:decide ((j:Int)<(l.length:Int))=true:=decide_eq_true (by omega)
   have hbw:=H1.out.2.trans (HT.out.2.mono H1.out.2.size)
   obtain ⟨b,off,hA3,_,hat⟩:=(H.out.1.below hbw).at j hjl
   cases hA3
   have hty:=(H.out.1.below hbw).ty j hjl
   have hxs:=sz1_le_esz (List.getElem_mem hjl)
   obtain ⟨x,hx⟩:∃x,l[j]=x:=⟨_,rfl⟩
   rw [hx] at hat hty hxs
   obtain ⟨⟨k0,n0,⟨u1,u2,u3⟩,F⟩,⟨k1,n1,⟨v1,v2,v3⟩,F'⟩,a0,a1⟩:=x
   obtain ⟨x0,x1,x2,x3,x4,x5,x6,x7⟩:=hat
   dsimp only [slv] at x0 x1 x2 x3 x4 x5 x6 x7
   have HX:=kI (aI hx (aI hty (aI hxs hbw)))
   clear hx hty hxs hbw
   go_upto_region 5 with fail
   refine wp_world (fun Z=>Z.heap[wr.heap.size]? = some (Obj.cells #[.int .i64 k0,.int .i64 n0,.slice u1 u2 u3,.int .i64 k1,.int .i64 n1,.slice v1 v2 v3,.int .i64 a0,.int .i64 a1] 59)∧Below wr.heap.size wr Z) ⟨heap_alloc_new wr _,(Below.refl _ wr).alloc (Nat.le_refl _) _⟩ ?_
   rintro Z ⟨hz,hbZ⟩
   have z0:Z.cell? ⟨wr.heap.size,0,none⟩=some _:=cell_of_row Z _ 0 _ _ (0,0) hz
   have z1:Z.cell? ⟨wr.heap.size,1,none⟩=some _:=cell_of_row Z _ 1 _ _ (0,0) hz
   have z2:Z.cell? ⟨wr.heap.size,2,none⟩=some _:=cell_of_row Z _ 2 _ _ (0,0) hz
   have hbWZ:=HX.out.2.2.2.trans (hbZ.mono HX.out.2.2.2.size)
   have htyZ:EqT w.heap.size Z ((k0,n0,(u1,u2,u3),F),(k1,n1,(v1,v2,v3),F'),a0,a1):=HX.out.2.1.keep (Nat.le_refl _) fun b off hlt=>(hbZ.mono HX.out.2.2.2.size).cell (p:=⟨b,off,none⟩) hlt
   obtain ⟨r0,hr0⟩:∃b,rt1 (k0,n0,(u1,u2,u3),F)=b:=⟨_,rfl⟩
   obtain ⟨r1,hr1⟩:∃b,rt1 (k1,n1,(v1,v2,v3),F')=b:=⟨_,rfl⟩
   have HL:=kI (types_right (t:=(k0,n0,(u1,u2,u3),F)) hbWZ.size htyZ.1 (by have:=HX.out.2.2.1;unfold sz1 at this;simp at this ⊢;omega))
   rw [hr0] at HL
   have HRr:Hid (∀W,Below Z.heap.size Z W→Calls Tryz.prog 48 #[.agg #[.int .i64 k1,.int .i64 n1,.slice v1 v2 v3]] W fun e w'=>e = .returned (.bool r1)∧Below W.heap.size W w'):=kI fun W hW=>by
    have h:=types_right (w:=W) (B:=Z.heap.size) (t:=(k1,n1,(v1,v2,v3),F')) hW.size ((htyZ.2.keep hbWZ.size fun b off hlt=>rfl).below hW) (by have:=HX.out.2.2.1;unfold sz1 at this;simp at this ⊢;omega)
    rw [hr1] at h
    exact h
   dsimp only [t1V,tyVal,slv] at HL
   have HZ:=kI (aI hz (aI hbZ (aI hr0 hr1)))
   clear hz hbZ hbWZ htyZ hr0 hr1 x0 x1 x2 x3 x4 x5 x6 x7
   go_wp2_with fail
   refine HL.out.mono ?_
   rintro e w3 ⟨rfl,hb3⟩
   have y3:w3.cell? ⟨wr.heap.size,3,none⟩=some (.int .i64 k1):=cell_of_row w3 _ 3 _ _ (0,0) ((hb3.block _ (gL HZ.out.1).1).trans HZ.out.1)
   have y4:w3.cell? ⟨wr.heap.size,4,none⟩=some (.int .i64 n1):=cell_of_row w3 _ 4 _ _ (0,0) ((hb3.block _ (gL HZ.out.1).1).trans HZ.out.1)
   have y5:w3.cell? ⟨wr.heap.size,5,none⟩=some (.slice v1 v2 v3):=cell_of_row w3 _ 5 _ _ (0,0) ((hb3.block _ (gL HZ.out.1).1).trans HZ.out.1)
   have HB3:=kI hb3
   clear hb3 HL z0 z1 z2
   cases r0 with
   | false=>
    go_wp2_with fail
    refine bodyPost_ret (results_tmp3 rfl _ _ _) rfl ⟨none,1,0,rfl,HX.out.2.2.2.trans ((HZ.out.2.1.trans (HB3.out.mono HZ.out.2.1.size)).mono HX.out.2.2.2.size),.inl ⟨⟨_,List.getElem_mem hjl,?_⟩,rfl,rfl,rfl⟩⟩
    rw [HX.out.1]
    unfold rtE
    rw [HZ.out.2.2.1]
    rfl
   | true=>
    have HRw:=kI (HRr.out w3 HB3.out)
    clear HRr
    go_wp2_with fail
    refine HRw.out.mono ?_
    rintro e w4 ⟨rfl,hb4⟩
    have HB4:=kI ((HZ.out.2.1.trans (HB3.out.mono HZ.out.2.1.size)).trans (hb4.mono (by have:=HZ.out.2.1.size;have:=HB3.out.size;omega)))
    clear hb4 HRw y3 y4 y5
    cases r1 with
    | false=>
     go_wp2_with fail
     refine bodyPost_ret (results_tmp3 rfl _ _ _) rfl ⟨none,1,0,rfl,HX.out.2.2.2.trans (HB4.out.mono HX.out.2.2.2.size),.inl ⟨⟨_,List.getElem_mem hjl,?_⟩,rfl,rfl,rfl⟩⟩
     rw [HX.out.1]
     unfold rtE
     rw [HZ.out.2.2.1,HZ.out.2.2.2]
     rfl
    | true=>
     go_wp2_with fail
     go_roundw
     case rel=>
      refine ⟨j+1,by go_num,hjl,fun y hy=>?_,HT.out.2.trans (HB4.out.mono HT.out.2.size)⟩
      rw [List.take_add_one,List.getElem?_eq_getElem hjl] at hy
      rcases List.mem_append.1 hy with hy|hy
      ·exact HT.out.1 y hy
      ·simp only [Option.toList_some,List.mem_singleton] at hy
       rw [hy,HX.out.1]
       unfold rtE
       rw [HZ.out.2.2.1,HZ.out.2.2.2]
       rfl
     case measure=>simp [intOf];omega
  ·have f1:decide ((j:Int)<(l.length:Int))=false:=decide_eq_false (by omega)
   have hjj:j=l.length:=by omega
   have HA:Hid ((∀y∈l,rtE y=true)∧OkC w.heap.size wr c ([],[]) 0 0∧Below w.heap.size w wr):=kI ⟨by have h1:=HT.out.1;rw [hjj,List.take_length] at h1;exact h1,H1.out.1.below HT.out.2,H1.out.2.trans (HT.out.2.mono H1.out.2.size)⟩
   clear HT H1 hjj
   go_wp2_with fail
   go_loopw [10,33] (fun _ s wr=>∃(j:Nat) (st:Int),s = .int .i64 (j:Nat)∧j≤l.length∧OkC w.heap.size wr c (cls (l.take j)) j st∧Below w.heap.size w wr) (fun _ s _=>l.length-(intOf s).toNat)
   case atStart=>exact ⟨0,0,rfl,Nat.zero_le _,HA.out.2.1,HA.out.2.2⟩
   case round=>
    obtain ⟨j,st,rfl,hj,hO,hb⟩:=hrel
    have HT:=kI (aI hO hb)
    clear hO hb
    by_cases hjl:j<l.length
    ·have f1:decide ((j:Int)<(l.length:Int))=true:=decide_eq_true (by omega)
     obtain ⟨b,off,hA3,_,hat⟩:=(H.out.1.below HT.out.2).at j hjl
     cases hA3
     have hty:=(H.out.1.below HT.out.2).ty j hjl
     have hrx:=HA.out.1 _ (List.getElem_mem hjl)
     have hxw:=H.out.2.1 _ (List.getElem_mem hjl)
     have hst:=cls_step l j hjl
     have hsz:(cls (l.take j)).1.length+sz1 l[j]≤200000:=by
      have h1:=cls_len (l.take j)
      have h2:=esz_take l j
      have h3:=sz1_le_esz (List.getElem_mem hjl)
      have h4:=esz_take l (j+1)
      have h5:=esz_step l j hjl
      omega
     obtain ⟨x,hx⟩:∃x,l[j]=x:=⟨_,rfl⟩
     rw [hx] at hat hty hrx hxw hst hsz
     obtain ⟨⟨k0,n0,⟨u1,u2,u3⟩,F⟩,⟨k1,n1,⟨v1,v2,v3⟩,F'⟩,a0,a1⟩:=x
     obtain ⟨x0,x1,x2,x3,x4,x5,x6,x7⟩:=hat
     dsimp only [slv] at x0 x1 x2 x3 x4 x5 x6 x7
     have HX:=kI (aI hty (aI hrx (aI hxw (aI hst hsz))))
     clear hty hrx hxw hst hsz hx
     go_upto_region 11 with fail
     refine wp_world (fun Z=>Z.heap[wr.heap.size]? = some (Obj.cells #[.int .i64 k0,.int .i64 n0,.slice u1 u2 u3,.int .i64 k1,.int .i64 n1,.slice v1 v2 v3,.int .i64 a0,.int .i64 a1] 59)∧Below wr.heap.size wr Z) ⟨heap_alloc_new wr _,(Below.refl _ wr).alloc (Nat.le_refl _) _⟩ ?_
     rintro Z ⟨hz,hbZ⟩
     have z0:Z.cell? ⟨wr.heap.size,0,none⟩=some _:=cell_of_row Z _ 0 _ _ (0,0) hz
     have z1:Z.cell? ⟨wr.heap.size,1,none⟩=some _:=cell_of_row Z _ 1 _ _ (0,0) hz
     have z2:Z.cell? ⟨wr.heap.size,2,none⟩=some _:=cell_of_row Z _ 2 _ _ (0,0) hz
     have z3:Z.cell? ⟨wr.heap.size,3,none⟩=some _:=cell_of_row Z _ 3 _ _ (0,0) hz
     have z4:Z.cell? ⟨wr.heap.size,4,none⟩=some _:=cell_of_row Z _ 4 _ _ (0,0) hz
     have z5:Z.cell? ⟨wr.heap.size,5,none⟩=some _:=cell_of_row Z _ 5 _ _ (0,0) hz
     have hbWZ:=HT.out.2.trans (hbZ.mono HT.out.2.size)
     have htyZ:EqT w.heap.size Z ((k0,n0,(u1,u2,u3),F),(k1,n1,(v1,v2,v3),F'),a0,a1):=HX.out.1.keep (Nat.le_refl _) fun b off hlt=>(hbZ.mono HT.out.2.size).cell (p:=⟨b,off,none⟩) hlt
     have HEQ:=kI (ok_eq2 (HT.out.1.below hbZ) hbWZ.size _ htyZ HX.out.2.2.1 HX.out.2.1 HX.out.2.2.2.2 (by omega))
     dsimp only [t1V,tyVal,slv] at HEQ
     have HZ:=kI hbWZ
     clear hz hbZ hbWZ htyZ x0 x1 x2 x3 x4 x5 x6 x7
     go_wp2_with fail
     refine HEQ.out.mono ?_
     rintro e w3 ⟨r,st',rfl,hb3,hst1,hst2,hr⟩
     have HB3:=kI (HZ.out.trans hb3)
     rw [←HX.out.2.2.2.1] at hst2 hr
     have hlc:(cls (l.take (j+1))).1.length≤esz l:=Nat.le_trans (cls_len _) (esz_take l _)
     have hs0:=(HT.out.1.fits2 (Nat.le_trans (cls_len _) (Nat.le_trans (esz_take l _) (by omega))) (by omega)).1
     obtain ⟨qn,rfl⟩:∃qn:Nat,st'=(qn:Int):=⟨st'.toNat,by omega⟩
     have HS:=kI (aI (steps_all (l:=l) (j:=j+1) (by omega) hlc hst2) (steps_most (j:=j+1) (by omega) (by omega) hst2))
     clear hb3 HEQ z0 z1 z2 z3 z4 z5 hst1 hst2 hs0 hlc
     rcases hr with ⟨rfl,hc,hx⟩|⟨rfl,hc,hO⟩
     ·have HC:=kI hc
      have HST:=kI (steps_cx hx)
      clear hc hx
      go_wp2_with fail
      refine HST.out.mono ?_
      rintro e w4 ⟨rfl,rfl⟩
      go_wp2_with fail
      refine bodyPost_ret (results_tmp3 rfl _ _ _) rfl ⟨none,7,qn,rfl,HB3.out,.inr ⟨HA.out.1,by have:=HS.out.2;omega,by have:=HS.out.1;omega,.inl ⟨rfl,rfl,?_⟩⟩⟩
      have e1:=cls_app (l.take (j+1)) (l.drop (j+1))
      rw [List.take_append_drop] at e1
      rw [e1]
      exact HC.out.later (s:=cls (l.take (j+1))) (by obtain ⟨X,h,_⟩:=(fold_pre (l.drop (j+1)) (cls (l.take (j+1)))).1;exact ⟨X,h⟩) (fold_pre (l.drop (j+1)) (cls (l.take (j+1)))).2
     ·have HC:=kI hO
      clear hO hc
      go_wp2_with fail
      go_roundw
      case rel=>exact ⟨j+1,qn,by go_num,hjl,HC.out,HB3.out⟩
      case measure=>simp [intOf];omega
    ·have f1:decide ((j:Int)<(l.length:Int))=false:=decide_eq_false (by omega)
     have hjj:j=l.length:=by omega
     obtain ⟨hO,hb⟩:=HT.out
     rw [hjj,List.take_length] at hO
     have hlc:(cls l).1.length≤esz l:=cls_len l
     have hfit:=hO.fits2 (by omega) (by omega)
     obtain ⟨qn,rfl⟩:∃qn:Nat,st=(qn:Int):=⟨st.toNat,by omega⟩
     have hst2:(qn:Int)≤(1+4*(dg (cls l).1.length:Int))*((9*(cls l).1.length+l.length:Nat):Int):=by
      obtain ⟨O,fs,m,J,hC,⟨g1,g2,g3,g4⟩,h9,h3⟩:=hO
      exact Int.le_trans g2 (mulk (by omega) (by omega))
     have HS:=kI (aI (steps_all (l:=l) (j:=l.length) (by omega) hlc hst2) (steps_most (j:=l.length) (by omega) (by omega) hst2))
     obtain ⟨O,fs,m,J,hC,⟨g1,g2,g3,g4⟩,h9,h3⟩:=hO
     have hfs:fs≤200000000:=steps_most (j:=l.length) (n:=(cls l).1.length) (by omega) (by omega) (Int.le_trans g4 (mulk (by omega) (by omega)))
     have HCT:=kI (count_cs hC ⟨g3,by omega⟩ (by omega) (cls_GN l H.out.2.1) H.out.2.2)
     have HO:=kI (aI hb (aI h3 (aI g3 (aI hfs (aI hC hlc)))))
     clear hb h3 g1 g2 g3 g4 h9 hfs hC hst2 hfit HT
     go_wp2_with fail
     refine HCT.out.mono ?_
     rintro e w3 ⟨b,q,k,rfl,hfin,hq,hk,hC3,hE3⟩
     have HST:=kI (show Calls Tryz.prog 78 #[.pointer (some ⟨c,0,none⟩)] w3 fun e w'=>e = .returned (.int .i64 (qn:Nat))∧w'=w3 by
      obtain ⟨⟨A,kn,nx,col,ro,hC,_⟩,_⟩:=hC3
      exact steps_cl hC)
     have hB3:=HO.out.1.trans (hE3.below (fun k hk=>(HO.out.2.1 k hk).1) HO.out.1.size)
     obtain ⟨O',a1,a2⟩:=hC3.tight
     have H3:=kI (aI hfin (aI hB3 (aI a1 (aI a2 hk))))
     have HQ:=kI (show q≤35*esz l+1∧qn≤200000000 by have:=HO.out.2.2.2.2.2;have:=HS.out.2;omega)
     have f5:IntKind.i64.wrap ((q:Int)+(qn:Int))=((q+qn:Nat):Int):=by
      rw [IntWalk.i64_in _ (by have:=HQ.out;omega)]
      push_cast
      rfl
     clear hfin hB3 a1 a2 hk hC3 hE3 hq HCT
     go_wp2_with fail
     refine HST.out.mono ?_
     rintro e w4 ⟨rfl,rfl⟩
     clear HST
     cases b with
     | false=>
      go_wp2_with fail
      refine bodyPost_ret (results_tmp3 rfl _ _ _) rfl ⟨none,8,q+qn,rfl,H3.out.2.1,.inr ⟨HA.out.1,by have:=HQ.out;omega,by have:=HS.out.1;have:=HQ.out;omega,.inr (.inl ⟨rfl,rfl,HO.out.2.2.2.2.1.noClash,fun hf=>?_⟩)⟩⟩
      have:=H3.out.1.2 hf
      cases this
     | true=>
      go_wp2_with fail
      refine bodyPost_ret (results_tmp3 rfl _ _ _) rfl ⟨some ⟨c,0,none⟩,0,q+qn,rfl,H3.out.2.1,.inr ⟨HA.out.1,by have:=HQ.out;omega,by have:=HS.out.1;have:=HQ.out;omega,.inr (.inr ⟨rfl,HO.out.2.2.2.2.1.noClash,H3.out.1.1 (by trivial),c,_,_,fs+k,m,rfl,H3.out.2.2.2.1,by have:=HO.out.2.2.1;omega,?_,fun k hk=>?_⟩)⟩⟩
      ·have h1:=H3.out.2.2.2.2;have h2:=HO.out.2.2.2.1;have h3:=HO.out.2.2.2.2.2;omega
      ·obtain ⟨b1,b2⟩:=H3.out.2.2.1 k hk
       exact ⟨(HO.out.2.1 k b1).1,b2⟩
end
section
open Go.RowKit
open Un (Else StM rowI UFo own_else dg swp wp_world paint)
attribute [local go_sem] Oper.semAt_some
attribute [local go_sem ↓] builtin_app
set_option maxRecDepth 100000
theorem zeroSv (w:World):(zeroValue 4).run Tryz.prog w = .ok (.bool false) w:=by kernel_rfl
theorem doneTy:MapTy 100 4 (.bool false):=⟨Tryz.underlying100,zeroSv⟩
def doneF (D:List Nat) (n:Int):Option Value:=if 0≤n∧n.toNat∈D then some (.bool true) else none
theorem doneF_at (D:List Nat) (r:Nat):(doneF D (r:Int)).getD (.bool false) = .bool (decide (r∈D)):=by
 unfold doneF
 by_cases h:r∈D
 ·rw [if_pos ⟨by omega,by simpa using h⟩]
  simp [h]
 ·rw [if_neg (fun e=>h (by simpa using e.2))]
  simp [h]
theorem doneF_upd (D:List Nat) (r:Nat):upd (doneF D) (r:Int) (.bool true)=doneF (D ++ [r]):=by
 funext m
 unfold upd doneF
 by_cases hm:m=r
 ·subst hm
  rw [if_pos rfl,if_pos ⟨by omega,by simp⟩]
 ·rw [if_neg hm]
  by_cases h:0≤m∧m.toNat∈D
  ·rw [if_pos h,if_pos ⟨h.1,List.mem_append_left _ h.2⟩]
  ·rw [if_neg h,if_neg (fun e=>h ⟨e.1,by
    rcases List.mem_append.1 e.2 with h1|h1
    ·exact h1
    ·have:m.toNat=r:=by simpa using h1
     exact absurd (by omega) hm⟩)]
theorem RdD.getI {Dp:Nat→Prop}{W:World}{A:Option Addr}{m c:Nat}{L:List Int}(h:RdD Dp W 1 (.slice A m c) L.length (ints L)) {j:Nat}{x:Int}(hx:L[j]? = some x):∃b off,A=some ⟨b,off,none⟩∧L.length≤c∧b<W.heap.size∧Dp b∧W.cell? ⟨b,off+j,none⟩=some (.int .i64 x):=by
 have hj:=lt_of_get hx
 obtain ⟨b,off,cap,hv,hnc,_,hlt,hc⟩:=h.1.2.resolve_left (by rintro ⟨h,_⟩;omega)
 have hd:=h.2 (by omega) b off cap hv
 injection hv with e1 e2 e3
 exact ⟨b,off,e1,by omega,hlt,hd,hc j _ (by simp [ints,hx])⟩
def KJ (w0:World) (S:Nat→Prop) (W W':World):Prop:=
 W.heap.size≤W'.heap.size∧(∀k,k<w0.heap.size→¬ S k→W'.heap[k]? = W.heap[k]?)∧∀(b:Nat) (cs:Array Value),w0.heap.size≤b→W.heap[b]? = some (Obj.cells cs 25)→W'.heap[b]? = some (Obj.cells cs 25)
theorem KJ.of {w0 W W':World}{S X:Nat→Prop}(h:Else X W W') (hw:w0.heap.size≤W.heap.size) (h1:∀k,X k→k<w0.heap.size→S k) (h2:∀k,X k→w0.heap.size≤k→∀cs:Array Value,W.heap[k]?≠some (Obj.cells cs 25)):KJ w0 S W W':=
 ⟨h.size,fun k hk hs=>h.block k (by omega) fun hx=>hs (h1 k hx hk),fun b cs hb hc=>(h.block b (gL hc).1 fun hx=>h2 b hx hb cs hc).trans hc⟩
def VisOk (R:Nat→Prop) (gf:FuncId) (lb:Array Value) (cb n:Nat) (ch:Nat→List Nat) (T:Nat→Prop) (J:List Nat→World→Prop) (Q:World→Prop):Prop:=
 ∀(D:List Nat) (W:World) (r:Nat) (P:Sl),Q W→J D W→Rd W 2 (slv P) (ch r).length (ptC cb (ch r))→(∀x∈ch r,x∈D)→r ∉ D→r<n→R r→D.length≤n→
  Calls Tryz.prog gf (#[.agg #[.pointer (some ⟨cb,0,none⟩),.int .i64 (r:Nat)],slv P]++lb) W fun x w'=>x = .returned (.tuple #[])∧J (D ++ [r]) w'∧Else T W w'
theorem MapF.not_cells {f:Int→Option Value}{S L b:Nat}{W:World}(h:MapF f S L b W) (T:TypeId) (cs:Array Value):W.heap[b]?≠some (Obj.cells cs T):=by
 obtain ⟨k,D,⟨es,clock,h1,_⟩,_⟩:=h
 rw [h1]
 intro e
 injection e with e
 cases e
def rootsOf (G:List Gn) (ro:Nat→Nat) (V:List Int):List Nat:=V.filterMap fun v=>(gvar G v).map ro
structure EaW (O:Nat→Prop) (cb:Nat) (A:Adr) (st:Int) (n:Nat) (G:List Gn) (kn:Kn) (nx col ro:Nat→Nat) (T:Nat→Prop) (J:List Nat→World→Prop) (w:World) (fs:Int) (F0:Nat) (D L:List Nat) (mm:Nat) (s:Value) (wr:World):Prop where
 cl:∃f:Nat,ClM O wr cb A st false n G kn nx col ro (fs+f)∧f+168*mm≤F0
 row:wr.ownsRow (w.heap.size+1) 136 2 s L.length (ptC cb L)
 map:∃S,MapF (doneF D) S D.length w.heap.size wr
 tl:J D wr
 els:Else (fun k=>A.S k∨T k) w wr
end
end Go.Proofs.YtmamdiggjghjkaaGreatDoor
