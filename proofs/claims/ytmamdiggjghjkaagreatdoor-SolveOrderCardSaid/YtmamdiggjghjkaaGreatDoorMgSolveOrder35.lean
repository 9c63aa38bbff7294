/- Texts of one proof, one behind the other. -/
import Derived.Test.YtmamdiggjghjkaaGreatDoorMgSolveOrder1
import Derived.Test.YtmamdiggjghjkaaGreatDoorMgSolveOrder34
import Derived.Test.YtmamdiggjghjkaaGreatDoorMgSolveOrder33
import Derived.Test.YtmamdiggjghjkaaGreatDoorMgSolveOrder6
import Derived.Test.YtmamdiggjghjkaaGreatDoorMgSolveOrder4
import Derived.Test.YtmamdiggjghjkaaGreatDoorRows
import Derived.Test.YtmamdiggjghjkaaGreatDoorTie
import Derived.Test.YtmamdiggjghjkaaGreatDoorCards
import Derived.ProofKit
import Derived.LaidMore
import Derived.OpenShut
import Derived.Stop.Joined
import Derived.Lib.LaidTab
import Derived.SevenTiedAt
set_option linter.unusedVariables false
namespace Go.Proofs.YtmamdiggjghjkaaGreatDoor
section
open Go.RowKit
open Un (Else own_else wp_world RdB)
attribute [local go_sem] Oper.semAt_some
attribute [local go_sem ↓] builtin_app
set_option maxRecDepth 100000
theorem solve_gen (w:World) (most:Int) (l:List Eqn) (v:Value) (h:EqV w.heap.size w l v) (hw:EqW l) (hl:l.length≤2000) (hs:esz l≤19000) (hsm:(∀y∈l,rtE y=true)→(∃s,Slv l s)→SmallS l 1000000):
  Calls Tryz.prog 12 #[.int .i64 most,v] w (SolPost w l most):=by
 by_cases hr:∀y∈l,rtE y=true
 ·exact solve_any w most l v h hw hl hs (hsm hr)
 ·have HCL:=kI (classes_any w l v h hw hl (by omega) (cls_gl l))
  clear h hw hl hs hsm
  go_enter Tryz.func12,Tryz.ntmps12
  go_wp2_with fail
  refine HCL.out.mono ?_
  clear HCL
  rintro x w1 ⟨p,r,q,rfl,hb1,hcase⟩
  rcases hcase with ⟨hbad,rfl,rfl,rfl⟩|⟨hrt,_⟩
  ·have HX:=kI (aI hb1 hbad)
   clear hb1 hbad hr
   go_wp2_with fail
   exact bodyPost_ret (results_tmp2 rfl _ _ _) rfl ⟨_,_,rfl,HX.out.1,.inl ⟨HX.out.2,rfl,rfl⟩⟩
  ·exact absurd hrt hr
structure OrdD (l D:List Eqn) (jn:Nat):Prop where
 of:∀x∈D,∃y∈l,Tw x y
 all:∀i (hi:i<l.length),jn≤i→∃x∈D,un1 x=flipE (un1 l[i])
theorem OrdD.snoc {l D:List Eqn}{jn jm:Nat}{x y:Eqn}(h:OrdD l D jn) (hy:y∈l) (hx:Tw x y) (hm:∀i (hi:i<l.length),jm≤i→jn≤i∨un1 x=flipE (un1 l[i])):OrdD l (D ++ [x]) jm:=by
 refine ⟨fun z hz=>?_,fun i hi hj=>?_⟩
 ·rcases List.mem_append.1 hz with hz|hz
  ·exact h.of z hz
  ·rw [List.mem_singleton.1 hz];exact ⟨y,hy,hx⟩
 ·rcases hm i hi hj with h1|h1
  ·obtain ⟨z,hz,e⟩:=h.all i hi h1
   exact ⟨z,List.mem_append_left _ hz,e⟩
  ·exact ⟨x,by simp,h1⟩
theorem OrdD.tys {l D:List Eqn}{jn:Nat}(h:OrdD l D jn) {B:Nat}{w:World}(ht:∀x∈l,EqT B w x):∀x∈D,EqT B w x:=fun x hx=>by
 obtain ⟨y,hy,e⟩:=h.of x hx
 exact e.both (P:=fun t=>TyV B w t.2.2.2 (slv t.2.2.1)) (ht y hy)
theorem OrdD.wfs {l D:List Eqn}{jn:Nat}(h:OrdD l D jn) (ht:EqW l):EqW D:=fun x hx=>by
 obtain ⟨y,hy,e⟩:=h.of x hx
 exact e.both (P:=TyW) (ht y hy)
theorem order_alk {w:World}{v:Value}{l D:List Eqn}(hE:EqV w.heap.size w l v) (hW:EqW l) (hD:OrdD l D 0):Alk l D∧((∀y∈l,rtE y=true)→∀x∈D,Eok x):=by
 have hk:(∀y∈l,rtE y=true)→(∀x∈l,Eok x)∧GN (cls l).1∧GN (cls D).1∧(∀x∈l,nz (tOne x.1)∧nz (tOne x.2.1)):=fun hr=>⟨fun x hx=>eok_of (hE.tyAll x hx) (hW x hx) (hr x hx),cls_GN l hW,cls_GN D (hD.wfs hW),nz_all hE hr⟩
 refine ⟨alk_of hk hD.of (fun y hy=>?_),fun hr x hx=>?_⟩
 ·obtain ⟨i,hi,rfl⟩:=List.mem_iff_getElem.1 hy
  exact hD.all i hi (Nat.zero_le _)
 ·obtain ⟨y,hy,e⟩:=hD.of x hx
  exact e.both (P:=fun t=>Fok (one1 t)) ((hk hr).1 y hy)
set_option maxHeartbeats 16000000 in
theorem sorder_law (w:World) (l:List Eqn) (ord:List Nat) (v v2:Value) (hl:ArgE w v l) (ho:RdB w v2 ord) (ht:Tab w):
  Calls Tryz.prog 7 #[v,v2] w fun e w'=>e = .returned (.bool true)∧Below w.heap.size w w':=by
 have HG1:=kI (great14_any w l v hl.1 hl.2 hl.1.len_le)
 have HL:=kI hl
 have HO:=kI ho
 have HTB:=kI ht
 obtain ⟨Al,cl,rfl⟩:=hl.1.form
 obtain ⟨Ao,co,rfl⟩:=ho.slice
 clear hl ho ht
 go_enter Tryz.func7,Tryz.ntmps7
 go_wp2_with fail
 refine HG1.out.mono ?_
 clear HG1
 rintro e w1 ⟨⟨g1,rfl,hg1⟩,hb1⟩
 have HAW:=kI (awake14 w1 (HTB.out.below hb1))
 have HB1:=kI (aI hb1 hg1)
 clear hb1 hg1
 cases g1 with
 | true=>
  go_wp2_with fail
  refine HAW.out.mono ?_
  rintro e w2 ⟨rfl,hb2⟩
  have HB2:=kI (HB1.out.1.trans (hb2.mono HB1.out.1.size))
  clear hb2
  go_wp2_with fail
  exact bodyPost_ret (results_tmp rfl _ _ _) rfl ⟨rfl,HB2.out⟩
 | false=>
  by_cases ho40:40<ord.length
  ·have f0:decide ((40:Int)<(ord.length:Int))=true:=decide_eq_true (by omega)
   go_wp2_with fail
   refine HAW.out.mono ?_
   rintro e w2 ⟨rfl,hb2⟩
   have HB2:=kI (HB1.out.1.trans (hb2.mono HB1.out.1.size))
   clear hb2
   go_wp2_with fail
   exact bodyPost_ret (results_tmp rfl _ _ _) rfl ⟨rfl,HB2.out⟩
  ·have f0:decide ((40:Int)<(ord.length:Int))=false:=decide_eq_false (by omega)
   obtain ⟨hl20,hs160,hsm⟩:=HB1.out.2 rfl
   have HSM:=kI (aI hs160 hsm)
   have hlw:IntKind.i64.wrap ((l.length:Int)-1)=(l.length:Int)-1:=IntWalk.i64_in _ (by omega)
   clear hs160 hsm HAW
   go_wp2_with fail
   go_loopw [5,6] (fun s5 s6 wr=>∃(z:Int) (jn:Nat) (D:List Eqn),s6 = .int .i64 z∧z+1=(jn:Nat)∧jn≤l.length∧D.length+jn=l.length∧esz D=esz (l.drop jn)∧OrdD l D jn∧wr.ownsRow w1.heap.size 59 8 s5 D.length (eqR D)∧Below w1.heap.size w1 wr) (fun _ s _=>(intOf s+1).toNat)
   case atStart=>exact ⟨_,l.length,[],rfl,by omega,Nat.le_refl _,by simp,by simp [esz],⟨fun x hx=>(by cases hx),fun i hi h=>(by omega)⟩,World.ownsRow_nil _ _ _ _,Below.refl _ _⟩
   case round=>
    obtain ⟨z,jn,D,rfl,hzj,hjn,hDl,hez,hD,hown,hb⟩:=hrel
    obtain ⟨As,cs,rfl,_,_⟩:=Un.own_form hown
    have hbw:=HB1.out.1.trans (hb.mono HB1.out.1.size)
    have HT:=kI (aI hD (aI hown (aI hb (aI hbw (aI hDl hez)))))
    clear hD hown hb hDl hez
    by_cases hz0:0≤z
    ·have f3:decide ((0:Int)≤z)=true:=decide_eq_true hz0
     obtain ⟨k,rfl⟩:∃k:Nat,z=(k:Int):=⟨z.toNat,by omega⟩
     obtain rfl:jn=k+1:=by omega
     have hkl:k<l.length:=by omega
     have f4:decide (k<l.length)=true:=decide_eq_true hkl
     have f5:decide ((k:Int)<(l.length:Int))=true:=decide_eq_true (by omega)
     obtain ⟨b,off,hA,hat,hty⟩:=HL.out.1.here hbw k hkl
     cases hA
     obtain ⟨x,hx⟩:∃x,l[k]=x:=⟨_,rfl⟩
     rw [hx] at hat hty
     obtain ⟨⟨k0,n0,⟨u1,u2,u3⟩,F⟩,⟨k1,n1,⟨v1,v2,v3⟩,F'⟩,a0,a1⟩:=x
     obtain ⟨z0,z1,z2,z3,z4,z5,_,_⟩:=hat
     dsimp only [slv] at z0 z1 z2 z3 z4 z5
     have hblt:=World.block_lt_of_cell? _ _ z0
     obtain ⟨SS,hSS⟩:∃SS:World→Prop,(fun W=>Else (fun i=>(Value.slice As D.length cs).ownBlock=some i) wr W)=SS:=⟨_,rfl⟩
     have hbo:∀i,(Value.slice As D.length cs).ownBlock=some i→i≠b:=fun i hi e=>by
      obtain ⟨_,_,e1,hlt,_⟩:=HL.out.1.at k hkl
      cases e1
      have h1:=(HT.out.2.1.lt i hi).1
      have h2:=HB1.out.1.size
      omega
     have EX:Hid (∀W,SS W→W.cell? ⟨b,off+k*8,none⟩=some (.int .i64 k0)∧W.cell? ⟨b,off+k*8+1,none⟩=some (.int .i64 n0)∧W.cell? ⟨b,off+k*8+2,none⟩=some (.slice u1 u2 u3)∧W.cell? ⟨b,off+k*8+3,none⟩=some (.int .i64 k1)∧W.cell? ⟨b,off+k*8+3+1,none⟩=some (.int .i64 n1)∧W.cell? ⟨b,off+k*8+3+2,none⟩=some (.slice v1 v2 v3)):=kI fun W hW=>by
      rw [←hSS] at hW
      have c:∀(o:Nat) (u:Value),wr.cell? ⟨b,o,none⟩=some u→W.cell? ⟨b,o,none⟩=some u:=fun o u h=>(World.cell?_of_block (a:=⟨b,o,none⟩) (hW.block b hblt fun h=>hbo _ h rfl)).trans h
      exact ⟨c _ _ z0,c _ _ z1,c _ _ z2,c _ _ z3,c _ _ z4,c _ _ z5⟩
     have HSS:=kI hSS
     have HX:=kI (aI hx hkl)
     have hkw:IntKind.i64.wrap ((k:Int)-1)=(k:Int)-1:=IntWalk.i64_in _ (by omega)
     clear hty hx z0 z1 z2 z3 z4 z5 hSS hbo hblt hbw
     go_wp2_with fail
     have hB0:Below wr.heap.size wr wr.drew:=(Below.refl _ _).drew
     have hS:SS wr.drew:=by rw [←HSS.out];exact Else.of_below hB0
     refine wp_region_held (S:=SS) (by kernel_rfl) ?_
     change wpAnyH _ _ _ _ _ 15 (List.replicate 15 false).toArray _ wr.drew
     simp only [List.replicate_succ,List.replicate_zero]
     refine tj (i:=0) (some 28) (.slice As D.length cs) rfl hS ?_
     simp only [Act.put,zA,zB,zC]
     refine tj (i:=1) (some 29) (.slice (some ⟨b,off,none⟩) l.length cl) rfl hS ?_
     simp only [Act.put,zA,zB,zC]
     refine tj (i:=2) (some 30) (.int .i64 (k:Nat)) rfl hS ?_
     simp only [Act.put,zA,zB,zC]
     refine tj (i:=3) (some 31) (.pointer (some ⟨b,off+k*8,none⟩)) rfl hS ?_
     simp only [Act.put,zA,zB,zC]
     refine tj (i:=4) (some 32) (.pointer (some ⟨b,off+k*8+3,none⟩)) rfl hS ?_
     simp only [Act.put,zA,zB,zC]
     refine tk (i:=5) (some 33) (.agg #[.int .i64 k1,.int .i64 n1,.slice v1 v2 v3]) rfl (fun W hw=>by obtain ⟨n0_,n1_,n2_,n3_,n4_,n5_⟩:=EX.out W hw;clear hw;go_simp) hS ?_
     simp only [Act.put,zA,zB,zC]
     refine tj (i:=6) (some 34) (.slice (some ⟨b,off,none⟩) l.length cl) rfl hS ?_
     simp only [Act.put,zA,zB,zC]
     refine tj (i:=7) (some 35) (.int .i64 (k:Nat)) rfl hS ?_
     simp only [Act.put,zA,zB,zC]
     refine tj (i:=8) (some 36) (.pointer (some ⟨b,off+k*8,none⟩)) rfl hS ?_
     simp only [Act.put,zA,zB,zC]
     refine tj (i:=9) (some 37) (.pointer (some ⟨b,off+k*8,none⟩)) rfl hS ?_
     simp only [Act.put,zA,zB,zC]
     refine tk (i:=10) (some 38) (.agg #[.int .i64 k0,.int .i64 n0,.slice u1 u2 u3]) rfl (fun W hw=>by obtain ⟨n0_,n1_,n2_,n3_,n4_,n5_⟩:=EX.out W hw;clear hw;go_simp) hS ?_
     simp only [Act.put,zA,zB,zC]
     refine tj (i:=11) (some 39) (.agg #[.int .i64 k1,.int .i64 n1,.slice v1 v2 v3,.int .i64 k0,.int .i64 n0,.slice u1 u2 u3,.int .i64 0,.int .i64 0]) rfl hS ?_
     simp only [Act.put,zA,zB,zC]
     have hB2:Below wr.heap.size wr (wr.drew.alloc (.cells #[.int .i64 k1,.int .i64 n1,.slice v1 v2 v3,.int .i64 k0,.int .i64 n0,.slice u1 u2 u3,.int .i64 0,.int .i64 0] 59)):=hB0.alloc hB0.size _
     have hS2:SS (wr.drew.alloc (.cells #[.int .i64 k1,.int .i64 n1,.slice v1 v2 v3,.int .i64 k0,.int .i64 n0,.slice u1 u2 u3,.int .i64 0,.int .i64 0] 59)):=by rw [←HSS.out];exact Else.of_below hB2
     refine aK 12 ?_
     refine ops_val (d:=some 40) (v:=.slice (some ⟨wr.drew.heap.size,0,none⟩) 1 1) (w':=wr.drew.alloc (.cells #[.int .i64 k1,.int .i64 n1,.slice v1 v2 v3,.int .i64 k0,.int .i64 n0,.slice u1 u2 u3,.int .i64 0,.int .i64 0] 59)) rfl (by rfl) (by kernel_rfl) (by clear hS hS2 EX;go_simp) hS2 ?_
     simp only [Act.put,zA,zB,zC]
     have hoi:=own_below HT.out.2.1 hB0
     obtain ⟨g,cp,w6,hrun,ho6,hgr⟩:=app_eq wr.drew (.slice As D.length cs) D w1.heap.size (by have:=HT.out.2.2.1.size;have:=hB0.size;omega) hoi ((k1,n1,(v1,v2,v3),F'),(k0,n0,(u1,u2,u3),F),(0,0)) (by have:=HT.out.2.2.2.2.1;omega)
     have hE6:Else (fun i=>(Value.slice As D.length cs).ownBlock=some i) wr w6:=(Else.of_below hB2).trans (Else.grown hgr fun i hi=>hi)
     have hB6:Below w1.heap.size w1 w6:=HT.out.2.2.1.trans (hE6.below (fun i hi=>(HT.out.2.1.lt i hi).1) HT.out.2.2.1.size)
     have hS6:SS w6:=by rw [←HSS.out];exact hE6
     have H6:=kI (aI ho6 hB6)
     refine aK 13 ?_
     refine ops_val (d:=some 41) (v:=.slice (some ⟨g,0,none⟩) (D.length+1) cp) (w':=w6) rfl (by rfl) (by kernel_rfl) (exec_append rfl rfl rfl hrun) hS6 ?_
     simp only [Act.put,zA,zB,zC]
     clear hrun hS hS2 hB0 hB2 hgr ho6 hE6 hB6 hoi
     refine tj (i:=14) (some 5) (.slice (some ⟨g,0,none⟩) (D.length+1) cp) rfl hS6 ?_
     simp only [Act.put,zA,zB,zC]
     refine wpAnyH_done (by kernel_rfl) ?_ _
     clear hS6 EX
     go_wp2_with fail
     refine ⟨⟨(k:Int)-1,k,D ++ [((k1,n1,(v1,v2,v3),F'),(k0,n0,(u1,u2,u3),F),(0,0))],rfl,by omega,by omega,by have:=HT.out.2.2.2.2.1;simp;omega,?_,?_,H6.out.1,H6.out.2⟩,?_⟩
     ·have h1:=HT.out.2.2.2.2.2
      have e1:esz (D ++ [((k1,n1,(v1,v2,v3),F'),(k0,n0,(u1,u2,u3),F),(0,0))])=esz D+sz1 ((k1,n1,(v1,v2,v3),F'),(k0,n0,(u1,u2,u3),F),(0,0)):=by simp [esz]
      have e2:esz (l.drop k)=sz1 l[k]+esz (l.drop (k+1)):=by unfold esz;rw [List.drop_eq_getElem_cons HX.out.2,List.map_cons,List.sum_cons]
      rw [e1,e2,h1,HX.out.1]
      unfold sz1
      dsimp only
      omega
     ·refine HT.out.1.snoc (List.getElem_mem HX.out.2) (.inr (by rw [HX.out.1];rfl)) fun i hi hki=>?_
      rcases Nat.lt_or_ge k i with h|h
      ·exact .inl h
      ·obtain rfl:i=k:=by omega
       exact .inr (by rw [HX.out.1];rfl)
     ·show ((intOf (.int .i64 ((k:Int)-1)))+1).toNat<((intOf (.int .i64 (k:Int)))+1).toNat
      simp only [intOf]
      omega
    ·have f3:decide ((0:Int)≤z)=false:=decide_eq_false hz0
     obtain rfl:jn=0:=by omega
     have hez:=HT.out.2.2.2.2.2
     rw [List.drop_zero] at hez
     have HT0:=kI (aI HT.out.1 (aI HT.out.2.1 (aI HT.out.2.2.1 (aI HT.out.2.2.2.2.1 hez))))
     clear HT hbw hez hzj hjn
     go_wp2_with fail
     go_loopw [5,7] (fun s5 s7 wr=>∃(j:Nat) (D:List Eqn),s7 = .int .i64 (j:Nat)∧j≤ord.length∧OrdD l D 0∧D.length≤20∧esz D≤160∧wr.ownsRow w1.heap.size 59 8 s5 D.length (eqR D)∧Below w1.heap.size w1 wr) (fun _ s _=>ord.length-(intOf s).toNat)
     case atStart=>exact ⟨0,D,rfl,Nat.zero_le _,HT0.out.1,by have:=HT0.out.2.2.2.1;omega,by rw [HT0.out.2.2.2.2];exact HSM.out.1,HT0.out.2.1,HT0.out.2.2.1⟩
     case round=>
      obtain ⟨j,E,rfl,hj,hE,hE20,hEs,hown,hb⟩:=hrel
      obtain ⟨A5,c5,rfl,_,_⟩:=Un.own_form hown
      have hbw:=HB1.out.1.trans (hb.mono HB1.out.1.size)
      have HT:=kI (aI hE (aI hown (aI hb (aI hbw (aI hE20 hEs)))))
      clear hE hown hb hEs HT0
      by_cases hgo:j<ord.length∧0<l.length∧E.length<20
      ·have f1:decide ((j:Int)<(ord.length:Int))=true:=decide_eq_true (by omega)
       have f2:decide ((0:Int)<(l.length:Int))=true:=decide_eq_true (by omega)
       have f4:decide ((E.length:Int)<(20:Int))=true:=decide_eq_true (by omega)
       obtain ⟨ob,oo,rfl,_,hob,ha256⟩:=(HO.out.below hbw).at_ hgo.1
       obtain ⟨a,ha⟩:∃z,ord[j]=z:=⟨_,rfl⟩
       rw [ha] at hob ha256
       obtain ⟨q,hq⟩:∃z,a % l.length=z:=⟨_,rfl⟩
       have hql:q<l.length:=by rw [←hq];exact Nat.mod_lt _ hgo.2.1
       have hmod:(a:Int).tmod (l.length:Int)=(q:Nat):=by rw [←hq];rfl
       have hLne:¬ ((l.length:Int)=0):=by omega
       obtain ⟨b,off,hA3,hat,hty⟩:=HL.out.1.here hbw q hql
       cases hA3
       obtain ⟨x,hx⟩:∃x,l[q]=x:=⟨_,rfl⟩
       have hxm:x∈l:=by rw [←hx];exact List.getElem_mem hql
       rw [hx] at hat hty
       obtain ⟨⟨k0,n0,⟨u1,u2,u3⟩,F⟩,⟨k1,n1,⟨v1,v2,v3⟩,F'⟩,a0,a1⟩:=x
       obtain ⟨x0,x1,x2,x3,x4,x5,x6,x7⟩:=hat
       dsimp only [slv] at x0 x1 x2 x3 x4 x5 x6 x7
       have HX:=kI (aI hxm (aI hty (aI ha (aI hq hgo))))
       clear hx hxm hty ha hq hbw
       go_upto_region 12 with fail
       refine wp_world (fun Z=>Z.heap[wr.heap.size]? = some (Obj.cells #[.int .i64 k0,.int .i64 n0,.slice u1 u2 u3,.int .i64 k1,.int .i64 n1,.slice v1 v2 v3,.int .i64 a0,.int .i64 a1] 59)∧Below wr.heap.size wr Z) ⟨heap_alloc_new wr _,(Below.refl _ wr).alloc (Nat.le_refl _) _⟩ ?_
       rintro Z ⟨hz,hbZ⟩
       have HZ:=kI hbZ
       have HZ2:=kI hz
       have EX:Hid (∀W,LS Z W→W.cell? ⟨wr.heap.size,0,none⟩=some (.int .i64 k0)∧W.cell? ⟨wr.heap.size,1,none⟩=some (.int .i64 n0)∧W.cell? ⟨wr.heap.size,2,none⟩=some (.slice u1 u2 u3)∧W.cell? ⟨wr.heap.size,3,none⟩=some (.int .i64 k1)∧W.cell? ⟨wr.heap.size,4,none⟩=some (.int .i64 n1)∧W.cell? ⟨wr.heap.size,5,none⟩=some (.slice v1 v2 v3)∧W.cell? ⟨wr.heap.size,6,none⟩=some (.int .i64 a0)∧W.cell? ⟨wr.heap.size,7,none⟩=some (.int .i64 a1)):=kI fun W hW=>by
        have h:=(Below.block hW _ (gL hz).1).trans hz
        exact ⟨cell_of_row W _ 0 _ _ (0,0) h,cell_of_row W _ 1 _ _ (0,0) h,cell_of_row W _ 2 _ _ (0,0) h,cell_of_row W _ 3 _ _ (0,0) h,cell_of_row W _ 4 _ _ (0,0) h,cell_of_row W _ 5 _ _ (0,0) h,cell_of_row W _ 6 _ _ (0,0) h,cell_of_row W _ 7 _ _ (0,0) h⟩
       have HRE:=kI (show ∀W,Below Z.heap.size Z W→Rd W 8 (.slice A5 E.length c5) E.length (eqR E) from fun W hW=>(Rd.of_own HT.out.2.1).below (hbZ.trans (hW.mono hbZ.size)))
       have HGT:=kI (show ∀W v,Below Z.heap.size Z W→W.ownsRow Z.heap.size 59 8 v (E ++ [((k0,n0,(u1,u2,u3),F),(k1,n1,(v1,v2,v3),F'),a0,a1)]).length (eqR (E ++ [((k0,n0,(u1,u2,u3),F),(k1,n1,(v1,v2,v3),F'),a0,a1)]))→_ from fun W v hW ho=>great12_any W (E ++ [((k0,n0,(u1,u2,u3),F),(k1,n1,(v1,v2,v3),F'),a0,a1)]) v (EqV.of_own ho (fun y hy=>by
        rcases List.mem_append.1 hy with hy|hy
        ·exact HT.out.1.tys (fun z hz=>(HL.out.1.later (HT.out.2.2.2.1.trans ((hbZ.trans (hW.mono hbZ.size)).mono HT.out.2.2.2.1.size))).tyAll z hz) y hy
        ·rw [List.mem_singleton.1 hy]
         exact HX.out.2.1.later (hbZ.trans (hW.mono hbZ.size)))) (by have:=HT.out.2.2.2.2.1;simp;omega))
       have hE20:=HT.out.2.2.2.2.1
       clear hz hbZ x0 x1 x2 x3 x4 x5 x6 x7 hmod hLne hob f1 f2 f4
       have hb0:Below Z.heap.size Z Z.drew:=(Below.refl _ _).drew
       refine wp_region_held (S:=LS Z) (by kernel_rfl) ?_
       change wpAnyH _ _ _ _ _ 8 (List.replicate 8 false).toArray _ Z.drew
       simp only [List.replicate_succ,List.replicate_zero]
       obtain ⟨W0,hW0⟩:∃z,Z.drew=z:=⟨_,rfl⟩
       rw [hW0] at hb0 ⊢
       clear hW0
       refine tj (i:=1) (some 70) (.slice A5 E.length c5) rfl hb0 ?_
       simp only [Act.put,zA,zB,zC]
       refine tk (i:=3) (some 72) (.agg #[.int .i64 k0,.int .i64 n0,.slice u1 u2 u3,.int .i64 k1,.int .i64 n1,.slice v1 v2 v3,.int .i64 a0,.int .i64 a1]) rfl (fun W hw=>by obtain ⟨c0_,c1_,c2_,c3_,c4_,c5_,c6_,c7_⟩:=EX.out W hw;clear hw;go_simp) hb0 ?_
       simp only [Act.put,zA,zB,zC]
       refine wpAnyH_all (rs:=[0,4]) (by kernel_rfl) (by simp) fun qq hqq=>?_
       rcases (by simpa using hqq:qq=0∨qq=4) with rfl|rfl
       obtain ⟨W1,hW1⟩:∃z,W0.alloc (.cells #[] 59)=z:=⟨_,rfl⟩
       have hb0e:Below Z.heap.size Z W1:=by rw [←hW1];exact hb0.alloc hb0.size _
       have own0:W1.ownsRow Z.heap.size 59 8 (.slice (some ⟨W0.heap.size,0,none⟩) 0 0) 0 []:=by rw [←hW1];exact own_none_yet W0 Z.heap.size hb0.size 59 8
       have HEM:=kI hW1
       refine ops_val (d:=some 69) (v:=.slice (some ⟨W0.heap.size,0,none⟩) 0 0) (w':=W1) rfl (by rfl) (by kernel_rfl) (by rw [←HEM.out];clear hb0e own0 EX;go_simp) hb0e ?_
       simp only [Act.put,zA,zB,zC]
       refine wpAnyH_all (rs:=[2,4]) (by kernel_rfl) (by simp) fun qq hqq=>?_
       rcases (by simpa using hqq:qq=2∨qq=4) with rfl|rfl
       obtain ⟨A7,c7,W2,hrun1,own7,hgr1⟩:=app_first W1 _ Z.heap.size hb0e.size own0 (.slice A5 E.length c5) E (HRE.out W1 hb0e) (by omega)
       have hb0ef:Below Z.heap.size Z W2:=hb0e.trans ((Below.refl _ _).grown hgr1 hb0e.size (fun k e=>(own0.lt k e).1))
       refine ops_val (d:=some 71) (v:=.slice A7 E.length c7) (w':=W2) rfl (by rfl) (by kernel_rfl) (exec_append rfl rfl rfl hrun1) hb0ef ?_
       simp only [Act.put,zA,zB,zC]
       refine aK 4 ?_
       obtain ⟨W3,hW3⟩:∃z,W2.alloc (.cells #[.int .i64 k0,.int .i64 n0,.slice u1 u2 u3,.int .i64 k1,.int .i64 n1,.slice v1 v2 v3,.int .i64 a0,.int .i64 a1] 59)=z:=⟨_,rfl⟩
       have hb0efx:Below Z.heap.size Z W3:=by rw [←hW3];exact hb0ef.alloc hb0ef.size _
       have rdx:Rd W3 8 (.slice (some ⟨W2.heap.size,0,none⟩) 1 1) 1 (eqC ((k0,n0,(u1,u2,u3),F),(k1,n1,(v1,v2,v3),F'),a0,a1)):=by rw [←hW3];exact rd_new W2 (eqC ((k0,n0,(u1,u2,u3),F),(k1,n1,(v1,v2,v3),F'),a0,a1)) 59 8 1 rfl (by unfold maxLen;omega)
       have hlx:W2.heap.size<W3.heap.size:=by rw [←hW3];simp
       have HXM:=kI hW3
       refine ops_val (d:=some 73) (v:=.slice (some ⟨W2.heap.size,0,none⟩) 1 1) (w':=W3) rfl (by rfl) (by kernel_rfl) (by rw [←HXM.out];clear hb0efx rdx EX;go_simp) hb0efx ?_
       simp only [Act.put,zA,zB,zC]
       refine aK 5 ?_
       have own7x:W3.ownsRow Z.heap.size 59 8 (.slice A7 E.length c7) E.length (eqR E):=by rw [←HXM.out];exact own7.alloc _
       obtain ⟨A9,c9,W4,hrun2,own9,hgr2⟩:=app_second W3 (.slice A7 E.length c7) E Z.heap.size hb0efx.size own7x _ ((k0,n0,(u1,u2,u3),F),(k1,n1,(v1,v2,v3),F'),a0,a1) rdx (by omega)
       have hbL:Below Z.heap.size Z W4:=hb0efx.trans ((Below.refl _ _).grown hgr2 hb0efx.size (fun k e=>(own7x.lt k e).1))
       refine ops_val (d:=some 74) (v:=.slice A9 (E.length+1) c9) (w':=W4) rfl (by rfl) (by kernel_rfl) (exec_append rfl rfl rfl hrun2) hbL ?_
       simp only [Act.put,zA,zB,zC]
       clear own7x hb0 hb0e hb0ef hb0efx
       rotate_left
       obtain ⟨W2,hW2⟩:∃z,W1.alloc (.cells #[.int .i64 k0,.int .i64 n0,.slice u1 u2 u3,.int .i64 k1,.int .i64 n1,.slice v1 v2 v3,.int .i64 a0,.int .i64 a1] 59)=z:=⟨_,rfl⟩
       have hb0ex:Below Z.heap.size Z W2:=by rw [←hW2];exact hb0e.alloc hb0e.size _
       have rdx:Rd W2 8 (.slice (some ⟨W1.heap.size,0,none⟩) 1 1) 1 (eqC ((k0,n0,(u1,u2,u3),F),(k1,n1,(v1,v2,v3),F'),a0,a1)):=by rw [←hW2];exact rd_new W1 (eqC ((k0,n0,(u1,u2,u3),F),(k1,n1,(v1,v2,v3),F'),a0,a1)) 59 8 1 rfl (by unfold maxLen;omega)
       have hlx:W1.heap.size<W2.heap.size:=by rw [←hW2];simp
       have HXM:=kI hW2
       refine ops_val (d:=some 73) (v:=.slice (some ⟨W1.heap.size,0,none⟩) 1 1) (w':=W2) rfl (by rfl) (by kernel_rfl) (by rw [←HXM.out];clear hb0ex rdx EX;go_simp) hb0ex ?_
       simp only [Act.put,zA,zB,zC]
       refine aK 2 ?_
       have own0x:W2.ownsRow Z.heap.size 59 8 (.slice (some ⟨W0.heap.size,0,none⟩) 0 0) 0 []:=by rw [←HXM.out];exact own0.alloc _
       obtain ⟨A7,c7,W3,hrun1,own7,hgr1⟩:=app_first W2 _ Z.heap.size hb0ex.size own0x (.slice A5 E.length c5) E (HRE.out W2 hb0ex) (by omega)
       have hb0exf:Below Z.heap.size Z W3:=hb0ex.trans ((Below.refl _ _).grown hgr1 hb0ex.size (fun k e=>(own0x.lt k e).1))
       refine ops_val (d:=some 71) (v:=.slice A7 E.length c7) (w':=W3) rfl (by rfl) (by kernel_rfl) (exec_append rfl rfl rfl hrun1) hb0exf ?_
       simp only [Act.put,zA,zB,zC]
       refine aK 5 ?_
       have rdy:Rd W3 8 (.slice (some ⟨W1.heap.size,0,none⟩) 1 1) 1 (eqC ((k0,n0,(u1,u2,u3),F),(k1,n1,(v1,v2,v3),F'),a0,a1)):=rdx.far (by omega) hgr1 (fun e=>by have:=(own0.lt _ e.symm).2;omega)
       obtain ⟨A9,c9,W4,hrun2,own9,hgr2⟩:=app_second W3 (.slice A7 E.length c7) E Z.heap.size hb0exf.size own7 _ ((k0,n0,(u1,u2,u3),F),(k1,n1,(v1,v2,v3),F'),a0,a1) rdy (by omega)
       have hbL:Below Z.heap.size Z W4:=hb0exf.trans ((Below.refl _ _).grown hgr2 hb0exf.size (fun k e=>(own7.lt k e).1))
       refine ops_val (d:=some 74) (v:=.slice A9 (E.length+1) c9) (w':=W4) rfl (by rfl) (by kernel_rfl) (exec_append rfl rfl rfl hrun2) hbL ?_
       simp only [Act.put,zA,zB,zC]
       clear own0x rdy hb0 hb0e hb0ex hb0exf
       rotate_left
       obtain ⟨W1,hW1⟩:∃z,W0.alloc (.cells #[.int .i64 k0,.int .i64 n0,.slice u1 u2 u3,.int .i64 k1,.int .i64 n1,.slice v1 v2 v3,.int .i64 a0,.int .i64 a1] 59)=z:=⟨_,rfl⟩
       have hb0x:Below Z.heap.size Z W1:=by rw [←hW1];exact hb0.alloc hb0.size _
       have rdx:Rd W1 8 (.slice (some ⟨W0.heap.size,0,none⟩) 1 1) 1 (eqC ((k0,n0,(u1,u2,u3),F),(k1,n1,(v1,v2,v3),F'),a0,a1)):=by rw [←hW1];exact rd_new W0 (eqC ((k0,n0,(u1,u2,u3),F),(k1,n1,(v1,v2,v3),F'),a0,a1)) 59 8 1 rfl (by unfold maxLen;omega)
       have hlx:W0.heap.size<W1.heap.size:=by rw [←hW1];simp
       have HXM:=kI hW1
       refine ops_val (d:=some 73) (v:=.slice (some ⟨W0.heap.size,0,none⟩) 1 1) (w':=W1) rfl (by rfl) (by kernel_rfl) (by rw [←HXM.out];clear hb0x rdx EX;go_simp) hb0x ?_
       simp only [Act.put,zA,zB,zC]
       refine aK 0 ?_
       obtain ⟨W2,hW2⟩:∃z,W1.alloc (.cells #[] 59)=z:=⟨_,rfl⟩
       have hb0xe:Below Z.heap.size Z W2:=by rw [←hW2];exact hb0x.alloc hb0x.size _
       have own0:W2.ownsRow Z.heap.size 59 8 (.slice (some ⟨W1.heap.size,0,none⟩) 0 0) 0 []:=by rw [←hW2];exact own_none_yet W1 Z.heap.size hb0x.size 59 8
       have HEM:=kI hW2
       refine ops_val (d:=some 69) (v:=.slice (some ⟨W1.heap.size,0,none⟩) 0 0) (w':=W2) rfl (by rfl) (by kernel_rfl) (by rw [←HEM.out];clear hb0xe own0 EX;go_simp) hb0xe ?_
       simp only [Act.put,zA,zB,zC]
       refine aK 2 ?_
       obtain ⟨A7,c7,W3,hrun1,own7,hgr1⟩:=app_first W2 _ Z.heap.size hb0xe.size own0 (.slice A5 E.length c5) E (HRE.out W2 hb0xe) (by omega)
       have hb0xef:Below Z.heap.size Z W3:=hb0xe.trans ((Below.refl _ _).grown hgr1 hb0xe.size (fun k e=>(own0.lt k e).1))
       refine ops_val (d:=some 71) (v:=.slice A7 E.length c7) (w':=W3) rfl (by rfl) (by kernel_rfl) (exec_append rfl rfl rfl hrun1) hb0xef ?_
       simp only [Act.put,zA,zB,zC]
       refine aK 5 ?_
       have rdy:Rd W3 8 (.slice (some ⟨W0.heap.size,0,none⟩) 1 1) 1 (eqC ((k0,n0,(u1,u2,u3),F),(k1,n1,(v1,v2,v3),F'),a0,a1)):=by
        have h2:Rd W2 8 (.slice (some ⟨W0.heap.size,0,none⟩) 1 1) 1 (eqC ((k0,n0,(u1,u2,u3),F),(k1,n1,(v1,v2,v3),F'),a0,a1)):=by rw [←HEM.out];exact rdx.alloc _
        exact h2.far (by rw [←HEM.out];simp;omega) hgr1 (fun e=>absurd (show W0.heap.size=W1.heap.size by simpa [Value.ownBlock] using e) (by omega))
       obtain ⟨A9,c9,W4,hrun2,own9,hgr2⟩:=app_second W3 (.slice A7 E.length c7) E Z.heap.size hb0xef.size own7 _ ((k0,n0,(u1,u2,u3),F),(k1,n1,(v1,v2,v3),F'),a0,a1) rdy (by omega)
       have hbL:Below Z.heap.size Z W4:=hb0xef.trans ((Below.refl _ _).grown hgr2 hb0xef.size (fun k e=>(own7.lt k e).1))
       refine ops_val (d:=some 74) (v:=.slice A9 (E.length+1) c9) (w':=W4) rfl (by rfl) (by kernel_rfl) (exec_append rfl rfl rfl hrun2) hbL ?_
       simp only [Act.put,zA,zB,zC]
       clear rdy hb0 hb0x hb0xe hb0xef
       all_goals
        have H9:=kI (aI own9 hbL)
        clear hrun1 hrun2 hgr1 hgr2 own7 own9 rdx own0
        refine aK 6 ?_
        refine ops_call (d:=some 75) rfl (by rfl) (by kernel_rfl) (by go_simp) ((HGT.out W4 _ hbL H9.out.1).mono ?_)
        rintro e w7 ⟨g2,rfl,hg2,hb7⟩
        have hb7Z:Below Z.heap.size Z w7:=H9.out.2.trans (hb7.mono H9.out.2.size)
        have H7:=kI (aI hg2 hb7Z)
        clear hg2 hb7 hbL
        refine ⟨_,rfl,hb7Z,?_⟩
        simp only [Act.put,zA,zB,zC]
        cases g2
        ·refine tj (i:=7) (some 76) (.bool true) rfl hb7Z ?_
         simp only [Act.put,zA,zB,zC]
         refine wpAnyH_done (by kernel_rfl) ?_ _
         obtain ⟨hE20',hEs'⟩:=H7.out.1 (by trivial)
         have hb17:=HZ.out.trans (H7.out.2.mono HZ.out.size)
         have hoi:=own_below HT.out.2.1 hb17
         obtain ⟨g8,cp8,w8,hrun8,ho8,hgr8⟩:=app_eq w7 (.slice A5 E.length c5) E w1.heap.size (by have:=HT.out.2.2.1.size;have:=hb17.size;omega) hoi ((k0,n0,(u1,u2,u3),F),(k1,n1,(v1,v2,v3),F'),a0,a1) (by omega)
         have hrun9:(app_ #[22,22] 22 #[.slice A5 E.length c5,.slice (some ⟨w7.heap.size,0,none⟩) 1 1]).run Tryz.prog (w7.alloc (.cells #[.int .i64 k0,.int .i64 n0,.slice u1 u2 u3,.int .i64 k1,.int .i64 n1,.slice v1 v2 v3,.int .i64 a0,.int .i64 a1] 59)) = .ok (.slice (some ⟨g8,0,none⟩) (E.length+1) cp8) w8:=hrun8
         have hzl:=(gL HZ2.out).1
         have hz7:=(H7.out.2.block _ hzl).trans HZ2.out
         have z0:w7.cell? ⟨wr.heap.size,0,none⟩=some _:=cell_of_row w7 _ 0 _ _ (0,0) hz7
         have z1:w7.cell? ⟨wr.heap.size,1,none⟩=some _:=cell_of_row w7 _ 1 _ _ (0,0) hz7
         have z2:w7.cell? ⟨wr.heap.size,2,none⟩=some _:=cell_of_row w7 _ 2 _ _ (0,0) hz7
         have z3:w7.cell? ⟨wr.heap.size,3,none⟩=some _:=cell_of_row w7 _ 3 _ _ (0,0) hz7
         have z4:w7.cell? ⟨wr.heap.size,4,none⟩=some _:=cell_of_row w7 _ 4 _ _ (0,0) hz7
         have z5:w7.cell? ⟨wr.heap.size,5,none⟩=some _:=cell_of_row w7 _ 5 _ _ (0,0) hz7
         have z6:w7.cell? ⟨wr.heap.size,6,none⟩=some _:=cell_of_row w7 _ 6 _ _ (0,0) hz7
         have z7:w7.cell? ⟨wr.heap.size,7,none⟩=some _:=cell_of_row w7 _ 7 _ _ (0,0) hz7
         have h18:Below w1.heap.size w7 w8:=by
          have h1:Below w1.heap.size w7 (w7.alloc (.cells #[.int .i64 k0,.int .i64 n0,.slice u1 u2 u3,.int .i64 k1,.int .i64 n1,.slice v1 v2 v3,.int .i64 a0,.int .i64 a1] 59)):=(Below.refl _ _).alloc (by have:=HT.out.2.2.1.size;have:=hb17.size;omega) _
          exact h1.trans ((Below.refl _ _).grown hgr8 (by have:=HT.out.2.2.1.size;have:=hb17.size;simp;omega) (fun k e=>(hoi.lt k e).1))
         have H8:=kI (aI ho8 (aI (HT.out.2.2.1.trans ((hb17.mono HT.out.2.2.1.size).trans h18)) (aI hE20' hEs')))
         clear hrun8 hgr8 ho8 hoi h18 hb17 hb7Z hz7 hzl hE20' hEs' EX
         go_wp2_with fail
         refine ⟨⟨j+1,E ++ [((k0,n0,(u1,u2,u3),F),(k1,n1,(v1,v2,v3),F'),a0,a1)],congrArg (Value.int .i64) (by omega),by omega,HT.out.1.snoc HX.out.1 (.inl rfl) (fun i hi h=>.inl h),H8.out.2.2.1,H8.out.2.2.2,?_,H8.out.2.1⟩,?_⟩
         ·have:=H8.out.1
          rwa [show (E ++ [((k0,n0,(u1,u2,u3),F),(k1,n1,(v1,v2,v3),F'),a0,a1)]).length=E.length+1 by simp] at this ⊢
         ·show ord.length-(intOf (.int .i64 ((j:Int)+1))).toNat<ord.length-(intOf (.int .i64 (j:Nat))).toNat
          simp only [intOf]
          omega
        ·refine tj (i:=7) (some 76) (.bool false) rfl hb7Z ?_
         simp only [Act.put,zA,zB,zC]
         refine wpAnyH_done (by kernel_rfl) ?_ _
         clear hb7Z EX
         go_wp2_with fail
         have hb17:=HZ.out.trans (H7.out.2.mono HZ.out.size)
         refine ⟨⟨j+1,E,congrArg (Value.int .i64) (by omega),by omega,HT.out.1,by omega,HT.out.2.2.2.2.2,own_below HT.out.2.1 hb17,HT.out.2.2.1.trans (hb17.mono HT.out.2.2.1.size)⟩,?_⟩
         show ord.length-(intOf (.int .i64 ((j:Int)+1))).toNat<ord.length-(intOf (.int .i64 (j:Nat))).toNat
         simp only [intOf]
         omega
      ·have hfl:j ≥ ord.length∨(j<ord.length∧(l.length=0∨(0<l.length∧20≤E.length))):=by omega
       rcases hfl with hq|⟨hq,hq2|⟨hq2,hq3⟩⟩
       all_goals
        first
         | have f1:decide ((j:Int)<(ord.length:Int))=false:=decide_eq_false (by omega)
         | (have f1:decide ((j:Int)<(ord.length:Int))=true:=decide_eq_true (by omega);have f2:(0<l.length)=False:=eq_false (by omega);clear hq2)
         | (have f1:decide ((j:Int)<(ord.length:Int))=true:=decide_eq_true (by omega);have f2:decide ((0:Int)<(l.length:Int))=true:=decide_eq_true (by omega);have f4:decide ((E.length:Int)<(20:Int))=false:=decide_eq_false (by omega))
        clear hgo
        have HSL:=kI (solve_gen wr 1073741824 l (.slice Al l.length cl) (HL.out.1.later HT.out.2.2.2.1) HL.out.2 (by omega) (by have:=HSM.out.1;omega) (fun hr hs=>(small_l HL.out.1 HSM.out.2 hr hs).mono (by omega)))
        go_wp2_with fail
        refine HSL.out.mono ?_
        clear HSL
        rintro e w5 hp5
        have hp5':=hp5
        obtain ⟨va,ra,rfl,hb5,_⟩:=hp5
        have hbw5:=HT.out.2.2.2.1.trans (hb5.mono HT.out.2.2.2.1.size)
        have hown5:=own_below HT.out.2.1 hb5
        have hEV:=EqV.of_own hown5 (HT.out.1.tys (fun z hz=>(HL.out.1.later hbw5).tyAll z hz))
        have HAL:=kI (order_alk HL.out.1 HL.out.2 HT.out.1)
        have HSD:=kI (solve_gen w5 1073741824 E (.slice A5 E.length c5) hEV (HT.out.1.wfs HL.out.2) (by omega) (by have:=HT.out.2.2.2.2.2;omega) (fun hr hs=>by
         obtain ⟨hak,hek⟩:=HAL.out
         have hrl:=hak.rt.2 hr
         have hsl:∃s,Slv l s:=by rw [hak.slv hrl];exact hs
         exact (small_D (small_l HL.out.1 HSM.out.2 hrl hsl) (hak.nl hrl) (hak.nD hrl) (hek hrl) HT.out.1.of (hak.slv hrl)).mono (by omega)))
        have H5:=kI (aI hp5' (aI hb5 hbw5))
        clear hp5' hb5 hbw5 hown5 hEV
        go_wp2_with fail
        refine HSD.out.mono ?_
        clear HSD
        rintro e w6 hp6
        obtain ⟨v1_,v2_,r,he1,rfl,hcase⟩:=sol_same H5.out.1 hp6 HAL.out.1
        have hb6:Below w5.heap.size w5 w6:=by obtain ⟨_,_,_,h,_⟩:=hp6;exact h
        injection he1 with he1
        injection he1 with he1
        have he1':=congrArg (fun a:Array Value=>a.toList) he1
        simp only [List.cons.injEq,and_true,Value.int.injEq,true_and] at he1'
        obtain ⟨rfl,rfl⟩:=he1'
        clear he1 hp6
        have HSAM:Hid (Calls Tryz.prog 20 #[va,v2_] w6 fun e w'=>e = .returned (.bool true)∧Below w6.heap.size w6 w'):=kI (by
         rcases hcase with ⟨rfl,rfl⟩|⟨P,h1,h2,hP,hPl⟩
         ·have hz:∀B w,BdV B w [] (.slice none 0 0):=fun B w=>⟨none,0,rfl,fun h=>(by cases h),fun x hx=>(by cases hx)⟩
          exact rsame_bind w6 [] [] _ _ (hz _ _) (hz _ _) rfl (fun x hx=>by cases hx) (by simp)
         ·obtain ⟨L1,hL1,e1⟩:=h1.read
          obtain ⟨L2,hL2,e2⟩:=h2.read
          refine rsame_bind w6 L1 L2 _ _ (hL1.later hb6) hL2 (e1.trans e2.symm) (fun x hx=>?_) (by rw [←e1,List.length_map] at hPl;have h1:=cls_len l;have h2:=HSM.out.1;omega)
          have:=hP (pb x) (by rw [←e1];exact List.mem_map.2 ⟨x,hx,rfl⟩)
          exact pb_small this)
        have hbw6:=H5.out.2.2.trans (hb6.mono H5.out.2.2.size)
        have HB6:=kI hbw6
        clear hcase hb6 hbw6
        have fr:(ra == ra)=true:=by simp
        go_wp2_with fail
        refine HSAM.out.mono ?_
        clear HSAM
        rintro e w7 ⟨rfl,hb7⟩
        have hbw7:=HB6.out.trans (hb7.mono HB6.out.size)
        have HAW:=kI (awake14 w7 (HTB.out.below hbw7))
        have HB7:=kI hbw7
        clear hb7 hbw7
        go_wp2_with fail
        refine HAW.out.mono ?_
        rintro e w8 ⟨rfl,hb8⟩
        have HB8:=kI (HB7.out.trans (hb8.mono HB7.out.size))
        clear hb8
        go_wp2_with fail
        exact bodyPost_ret (results_tmp rfl _ _ _) rfl ⟨rfl,HB8.out⟩
end
end Go.Proofs.YtmamdiggjghjkaaGreatDoor
namespace Go.Proofs.YtmamdiggjghjkaaGreatDoor.Card
open Go.ChangeShapes Go.WideShapes Go.ChangeAt Go.RowKit
set_option linter.unusedVariables false
theorem own:ownKnob Tryz.prog.godebug=none:=by kernel_rfl
theorem laidOut:laidOutB Tryz.prog=true:=by kernel_rfl
def laid3:List (String×DataW Unit):=[("math/bits.deBruijn32tab",Rows.laid_math_bits_deBruijn32tab),("math/bits.deBruijn64tab",Rows.laid_math_bits_deBruijn64tab),("internal/strconv.uint64pow10",Rows.laid_internal_strconv_uint64pow10)]
theorem tabEq:(Rows.laid_internal_strconv_uint64pow10:DataW Unit)=Lib.tabData .u64 Lib.pow10Tab:=by rfl
theorem gPow:∃g t,Tryz.prog.globalNamed "internal/strconv.uint64pow10" = some g∧(Tryz.prog.globals[g]?).map (·.type)=some t∧∃n e,Tryz.prog.underlying t=some (.array n e)∧Tryz.prog.underlying e=some (.int .u64)∧Tryz.prog.cellsOf e=1∧Tryz.prog.cellsOf t=n:=by
 exact ⟨0,255,by kernel_rfl,by kernel_rfl,20,243,by kernel_rfl,by kernel_rfl,by kernel_rfl,by kernel_rfl⟩
theorem tab_of_laid {W:World}(h:laidMetH Tryz.prog laid3 W):Tab W:=by
 rw [MakeChecks.laidMetH_plain _ _ _ (by kernel_rfl)] at h
 obtain ⟨g,t,hg,hty,n,e,ht,he,hce,hct⟩:=gPow
 obtain ⟨ps,⟨_,_,_,_,_,_,_,_,_,_,⟨_,_,_,_,_,_,_,_,_,_,⟨g',t',cs,fuel,p,q,hg',ht',hvar,hd,_,_⟩,_⟩,_⟩,_⟩:=h
 obtain rfl:=Option.some.inj (hg.symm.trans hg')
 obtain rfl:=Option.some.inj (hty.symm.trans ht')
 rw [tabEq] at hd
 unfold Tab Lib.TabIs
 rw [hvar,←Lib.cells_of_tab ht he hce hct hd]
theorem door_met (os:Os) (args:Array Value):laidMetH Tryz.prog laid3 ((World.doorLaid Tryz.prog 400 os).forCall (fun _ _=>0) ⟨#[],args,[]⟩).memory:=
 laidMetH_of_parts3 (fuel:=8) (laidMet_of_run' 8 (by kernel_rfl) (by kernel_rfl)) (by kernel_rfl) (by kernel_rfl)
end Go.Proofs.YtmamdiggjghjkaaGreatDoor.Card
