/- Texts of one proof, one behind the other. -/
import Derived.Test.YtmamdiggjghjkaaGreatDoorMgSolveOrder1
import Derived.Test.YtmamdiggjghjkaaGreatDoorMgSolveOrder32
import Derived.Test.YtmamdiggjghjkaaGreatDoorMgSolveOrder29
import Derived.Test.YtmamdiggjghjkaaGreatDoorMgSolveOrder3
import Derived.Test.YtmamdiggjghjkaaGreatDoorMgSolveOrder28
import Derived.Deep.RegionHeld3
import Derived.Test.YtmamdiggjghjkaaGreatDoorMgSolveOrder7
import Derived.Test.YtmamdiggjghjkaaGreatDoorMgSolveOrder20
import Derived.Test.YtmamdiggjghjkaaGreatDoorMgSolveOrder6
import Derived.Test.YtmamdiggjghjkaaGreatDoorMgSolveOrder27
set_option linter.unusedVariables false
namespace Go.Proofs.YtmamdiggjghjkaaGreatDoor
section
open Go.RowKit
open Un (Else StM rowI UFo own_else dg swp wp_world paint)
attribute [local go_sem] Oper.semAt_some
set_option maxRecDepth 100000
def SmallS (l:List Eqn) (N:Nat):Prop:=∃s,Slv l s∧∀i,i<(cls l).1.length→tsz (valG s (cls l).1 i)≤N
def SolPost (w:World) (l:List Eqn) (most:Int) (x:Ending) (w':World):Prop:=
 ∃(v:Value) (r:Int),x = .returned (.tuple #[v,.int .i64 r])∧Below w.heap.size w w'∧
  ((∃y∈l,rtE y=false)∧v = .slice none 0 0∧r=1∨
  (∀y∈l,rtE y=true)∧((v = .slice none 0 0∧r=7∧Clash (cls l).1 (cls l).2)∨(v = .slice none 0 0∧r=8∧¬ Clash (cls l).1 (cls l).2∧¬ FinC (cls l).1 (cls l).2)∨
   (¬ Clash (cls l).1 (cls l).2∧FinC (cls l).1 (cls l).2∧∃ro:Nat→Nat,Can (Slv l) (mnV_ (cls l).1 ro)∧(∀v,tsz (mnV_ (cls l).1 ro v)≤1000000)∧
   ((v = .slice none 0 0∧r=6∧∃p∈bndL (cls l).1 ro (vsort (cls l).1),most<(tsz p.2:Int))∨
    (r=0∧(∀p∈bndL (cls l).1 ro (vsort (cls l).1),(tsz p.2:Int)≤most)∧∃lb:List Bnd,w'.ownsRow w.heap.size 44 4 v lb.length (bds lb)∧BnM w.heap.size w' lb (bndL (cls l).1 ro (vsort (cls l).1)))))))
theorem okT_mean {G:List Gn}{col ro:Nat→Nat}{kn:Kn}{E:List (Nat×Nat)}{cc:Nat→Nat}(hB:Both G col ro kn E cc) {lv:Nat→Int}{c:Nat}(ha:AccC G cc c):okT (meanC G cc lv c):=by
 obtain ⟨h1,h2⟩:=mean_nv (lv:=lv) hB c ha
 exact ⟨h1,h2,mean_pure hB c ha⟩
structure SvOk (l:List Eqn) (G:List Gn) (E:List (Nat×Nat)) (col ro:Nat→Nat) (kn:Kn):Prop where
 eq:cls l=(G,E)
 both:Both G col ro kn E ro
 acc:∀i,i<G.length→AccC G ro (ro i)
 can:Can (Slv l) (mnV_ G ro)
 sz:∀i,i<G.length→tsz (mnR G ro (ro i))≤1000000
 gp:Gp G
 gn:GN G
 rol:∀i,i<G.length→ro i<G.length
theorem SvOk.szv {l:List Eqn}{G:List Gn}{E:List (Nat×Nat)}{col ro:Nat→Nat}{kn:Kn}(h:SvOk l G E col ro kn) (v:Int):tsz (mnV_ G ro v)≤1000000:=by
 unfold mnV_ meanV
 cases hg:gvar G v with
 | none=>
  show tsz (1,v,.nil)≤1000000
  unfold tsz
  simp [Fo.size]
 | some i=>exact h.sz i (gvar_lt hg)
theorem nz_all {l:List Eqn}{B:Nat}{w:World}{v:Value}(h:EqV B w l v) (hr:∀y∈l,rtE y=true):∀x∈l,nz (tOne x.1)∧nz (tOne x.2.1):=by
 have hT:∀x∈l,EqT B w x:=by obtain ⟨_,_,_,_,h⟩:=h;exact h
 have hone:∀(t:Ty1),TyV B w t.2.2.2 (slv t.2.2.1)→rt1 t=true→LenOk (tOne t)∧allAlone (tOne t).pre=true:=fun t ht hr=>by
  have hu:=TyV.len ht
  exact ⟨⟨hu,(TyV.list ht).lenOk,trivial⟩,rt1_right hr hu⟩
 refine (prs_ok l (fun x hx=>?_) fun x hx=>?_).1
 ·have h1:=hr x hx
  unfold rtE at h1
  rw [Bool.and_eq_true] at h1
  exact ⟨(hone _ (hT x hx).1 h1.1).1,(hone _ (hT x hx).2 h1.2).1⟩
 ·have h1:=hr x hx
  unfold rtE at h1
  rw [Bool.and_eq_true] at h1
  exact ⟨(hone _ (hT x hx).1 h1.1).2,(hone _ (hT x hx).2 h1.2).2⟩
set_option maxHeartbeats 16000000 in
theorem solve_any (w:World) (most:Int) (l:List Eqn) (v:Value) (h:EqV w.heap.size w l v) (hw:EqW l) (hl:l.length≤2000) (hs:esz l≤19000) (hsm:(∃s,Slv l s)→SmallS l 1000000):
  Calls Tryz.prog 12 #[.int .i64 most,v] w (SolPost w l most):=by
 have HCL:=kI (classes_any w l v h hw hl (by omega) (cls_gl l))
 have hlen:(cls l).1.length≤19000:=Nat.le_trans (cls_len l) hs
 have H:=kI (aI h (aI hw (aI hsm hlen)))
 clear h hw hl hs hsm hlen
 go_enter Tryz.func12,Tryz.ntmps12
 go_wp2_with fail
 refine HCL.out.mono ?_
 clear HCL
 rintro x w1 ⟨p,r,q,rfl,hb1,hcase⟩
 rcases hcase with ⟨hbad,rfl,rfl,rfl⟩|⟨hrt,_,_,⟨rfl,rfl,hcl⟩|⟨rfl,rfl,hcl,hnf⟩|⟨rfl,hnc,hfin,cb,O,st,fs,m,rfl,hC,hf0,hf1,hO⟩⟩
 ·have HX:=kI (aI hb1 hbad)
  clear hb1 hbad
  go_wp2_with fail
  exact bodyPost_ret (results_tmp2 rfl _ _ _) rfl ⟨_,_,rfl,HX.out.1,.inl ⟨HX.out.2,rfl,rfl⟩⟩
 ·have HX:=kI (aI hb1 (aI hrt hcl))
  clear hb1 hrt hcl
  go_wp2_with fail
  exact bodyPost_ret (results_tmp2 rfl _ _ _) rfl ⟨_,_,rfl,HX.out.1,.inr ⟨HX.out.2.1,.inl ⟨rfl,rfl,HX.out.2.2⟩⟩⟩
 ·have HX:=kI (aI hb1 (aI hrt (aI hcl hnf)))
  clear hb1 hrt hcl hnf
  go_wp2_with fail
  exact bodyPost_ret (results_tmp2 rfl _ _ _) rfl ⟨_,_,rfl,HX.out.1,.inr ⟨HX.out.2.1,.inr (.inl ⟨rfl,rfl,HX.out.2.2.1,HX.out.2.2.2⟩)⟩⟩
 ·have hgn:=cls_GN l H.out.2.1
  have hgk:=cls_GK l hrt
  have hgl:=cls_gl l
  have hnz:=nz_all H.out.1 hrt
  have hlen:=H.out.2.2.2
  obtain ⟨⟨A,kn,nx,col,ro,hCl,hJ,hR,hB0,hm⟩,hGI,hGp⟩:=hC
  have hBo:=both_ro hJ hgn hgk hnc
  have hsol:=sol_of hBo hGp hgl hfin hnz
  have hcan:Can (Slv l) (mnV_ (cls l).1 ro):=hsol.can
  have hsm:=H.out.2.2.1 ⟨_,hcan.solves⟩
  have hsz:∀i,i<(cls l).1.length→tsz (mnR (cls l).1 ro (ro i))≤1000000:=fun i hi=>by
   obtain ⟨s,hs1,hs2⟩:=hsm
   have h1:=slv_mean hBo hsol.part hgl hnz hs1 hsol.lvok _ (hsol.acc i hi) i rfl hi
   have h2:=sbT_grows s (okT_mean hBo (lv:=lvC (cls l).1 ro) (hsol.acc i hi))
   rw [h1] at h2
   exact Nat.le_trans h2 (hs2 i hi)
  obtain ⟨⟨G,E⟩,hGE⟩:∃s,cls l=s:=⟨_,rfl⟩
  have hOk:SvOk l G E col ro kn:=by
   rw [hGE] at hBo hcan hsz hGp hgn
   dsimp only at hBo hcan hsz hGp hgn
   exact ⟨hGE,hBo,by have h:=hsol.acc;rw [hGE] at h;exact h,hcan,hsz,hGp,hgn,fun i hi=>(hBo.js.rt i hi).1⟩
  have hG7:G.length≤19000:=by rw [hGE] at hlen;exact hlen
  rw [hGE] at hCl hnc hfin
  dsimp only at hCl hnc hfin
  have hAS:∀k,A.D k∨A.F cb k→w.heap.size≤k:=fun k hk=>(hO k (hCl.own k hk)).1
  have HVR:=kI (vars_cl hCl (by omega) hOk.gn)
  have H1:=kI (aI hb1 (aI hrt (aI hnc (aI hfin (aI hCl (aI (aI hf0 hf1) (aI hAS hG7)))))))
  have HOK:=kI hOk
  clear hb1 hrt hnc hfin hf0 hf1 hO hsm hgn hgk hgl hnz hCl hJ hR hB0 hm hGI hGp hBo hsol hcan hsz hOk hAS hlen hGE hG7
  go_wp2_with fail
  refine HVR.out.mono ?_
  clear HVR
  rintro x w2 ⟨v2,rfl,hr2,hb2⟩
  obtain ⟨V,hV⟩:∃V,vsort G=V:=⟨_,rfl⟩
  rw [hV] at hr2
  have hVl:V.length≤19000:=by have:=vsort_le_ G;rw [hV] at this;have:=H1.out.2.2.2.2.2.2.2;omega
  have hVw:∀x∈V,(Lit.int .i64 x).wf=true:=fun x hx=>HOK.out.gn.2 x (vsort_var (G:=G) (a:=x) (by rw [hV];exact hx)).1
  obtain ⟨A2,c2,rfl,_,_⟩:=Un.own_form hr2
  have hC2:=H1.out.2.2.2.2.1.below hb2
  have HTL:=kI (tell_any hC2 (by have:=H1.out.2.2.2.2.2.1;omega) HOK.out.both HOK.out.acc HOK.out.sz HOK.out.gp HOK.out.rol (by have:=H1.out.2.2.2.2.2.2.2;omega) V _ (RdD.of_own hr2 fun b hb hS=>by have:=H1.out.2.2.2.2.1.lt (.inr (.inl hS));omega) (by omega) hVw)
  have H2:=kI (aI hb2 (aI hV (aI hVl hVw)))
  clear hr2 hb2 hV hVl hVw hC2
  go_wp2_with fail
  refine HTL.out.mono ?_
  clear HTL
  rintro x w3 ⟨kb,f3,D,rfl,hC3,hf3,hkb,hK3,hin,hDl,hE3⟩
  go_upto_region 5 with fail
  refine wp_world (fun Z=>Below w3.heap.size w3 Z∧Z.heap[w3.heap.size]? = some (Obj.cells #[.pointer (some ⟨cb,0,none⟩),.map (some kb)] 80)) ⟨(Below.refl _ _).alloc (Nat.le_refl _) _,heap_alloc_new w3 _⟩ ?_
  rintro Z ⟨hZ,hxZ⟩
  have hBB:∀k,A.D k∨A.F cb k→k<w2.heap.size:=fun k hk=>by have:=H1.out.2.2.2.2.1.lt hk;have:=H2.out.1.size;omega
  have hKZ:=hK3.below hZ
  have hCZ:=hC3.below hZ
  have HX9:Hid (w2.heap.size≤w3.heap.size):=kI hE3.size
  have H3:=kI (aI hCZ (aI hf3 (aI hkb (aI hKZ (aI hin (aI (hE3.trans (Else.of_below hZ)) (aI hxZ hBB)))))))
  have EX:Hid (∀W',Else A.S Z W'→W'.cell? ⟨w3.heap.size,0,none⟩=some (.pointer (some ⟨cb,0,none⟩))∧W'.cell? ⟨w3.heap.size,1,none⟩=some (.map (some kb))):=kI fun W' hW=>by
   have hb:=(hW.block _ (gL hxZ).1 (fun h=>by have:=hBB _ (.inr (.inl h));have:=hE3.size;omega)).trans hxZ
   exact ⟨cell_of_row W' _ 0 _ _ (0,0) hb,cell_of_row W' _ 1 _ _ (0,0) hb⟩
  have hbd:Below Z.heap.size Z Z.drew:=(Below.refl _ _).drew
  have HVR:=kI (vars_cl (hCZ.below hbd) (by have:=H1.out.2.2.2.2.2.2.2;omega) HOK.out.gn)
  rw [H2.out.2.1] at HVR
  clear hC3 hf3 hkb hK3 hin hE3 hZ hxZ hBB hKZ hCZ hDl hbd
  go_wp2_with fail
  have hbd:Below Z.heap.size Z Z.drew:=(Below.refl _ _).drew
  have hS:Else A.S Z Z.drew:=Else.of_below hbd
  refine wp_region_held (S:=(fun W=>Else A.S Z W)) (by kernel_rfl) ?_
  change wpAnyH _ _ _ _ _ 5 (List.replicate 5 false).toArray _ Z.drew
  simp only [List.replicate_succ,List.replicate_zero]
  refine tk (i:=0) (some 27) (.agg #[.pointer (some ⟨cb,0,none⟩),.map (some kb)]) rfl (fun W hw=>by obtain ⟨n0_,n1_⟩:=EX.out W hw;clear hw;go_simp) hS ?_
  simp only [Act.put,zA,zB,zC]
  refine tj (i:=1) (some 28) (.pointer (some ⟨cb,0,none⟩)) rfl hS ?_
  simp only [Act.put,zA,zB,zC]
  refine aK 2 ?_
  refine ops_call (d:=some 29) rfl (by rfl) (by kernel_rfl) (by go_simp) (HVR.out.mono ?_)
  rintro y w4 ⟨v4,rfl,hr4,hb4⟩
  obtain ⟨A4,c4,rfl,_,_⟩:=Un.own_form hr4
  have hS4:Else A.S Z w4:=hS.trans (Else.of_below hb4)
  refine ⟨_,rfl,hS4,?_⟩
  simp only [Act.put,zA,zB,zC]
  have hbz4:Below Z.heap.size Z w4:=hbd.trans hb4
  have HBN:=binds_any (H3.out.1.below hbz4) (by have:=H1.out.2.2.2.2.2.1;have:=H3.out.2.1;have:=H2.out.2.2.1;have:=H1.out.2.2.2.2.2.2.2;omega) HOK.out.both HOK.out.acc HOK.out.rol (by have:=H1.out.2.2.2.2.2.2.2;omega) (H3.out.2.2.2.1.below hbz4) H3.out.2.2.2.2.2.2.2 H3.out.2.2.1 V _ (RdD.of_own hr4 fun b hb hS=>by have:=H3.out.2.2.2.2.2.2.2 b (.inr (.inl hS));have:=H3.out.2.2.2.2.2.1.size;have hb:Z.heap.size≤b:=hb;omega) (by have:=H2.out.2.2.1;omega) H2.out.2.2.2 H3.out.2.2.2.2.1
  clear hr4 hb4
  refine aK 3 ?_
  refine ops_call (d:=some 30) rfl (by rfl) (by kernel_rfl) (by go_simp) (HBN.mono ?_)
  rintro y w5 ⟨f5,lb,v5,rfl,hC5,hf5,ho5,hM5,hK5,hE5⟩
  obtain ⟨A5,c5,rfl,_,_⟩:=Un.own_form ho5
  have hS5:Else A.S Z w5:=hS4.trans hE5
  refine ⟨_,rfl,hS5,?_⟩
  simp only [Act.put,zA,zB,zC]
  refine tj (i:=4) (some 10) (.slice A5 lb.length c5) rfl hS5 ?_
  simp only [Act.put,zA,zB,zC]
  refine wpAnyH_done (by kernel_rfl) ?_ _
  have hx5:=(hS5.block _ (gL H3.out.2.2.2.2.2.2.1).1 (fun h=>by have:=H3.out.2.2.2.2.2.2.2 _ (.inr (.inl h));have:=H3.out.2.2.1;have:=H3.out.2.2.2.1.lt;have:=H3.out.2.2.2.2.2.1.size;have:=H3.out.2.2.2.2.2.2.1;have h9:=HX9.out;omega)).trans H3.out.2.2.2.2.2.2.1
  have hlb:lb.length≤19000:=by
   have h1:=bndL_len G ro V
   rw [←hM5.1,List.length_map] at h1
   have:=H2.out.2.2.1
   omega
  have HBW:Hid (∀W',Else A.S Z W'→Below w.heap.size w W'):=kI fun W' hW=>by
   have h1:=H1.out.1
   have h2:=h1.trans (H2.out.1.mono h1.size)
   have h3:=h2.trans ((H3.out.2.2.2.2.2.1.trans hW).below (fun k hk=>H1.out.2.2.2.2.2.2.1 k (.inr (.inl hk))) h2.size)
   exact h3
  have H5:=kI (aI hC5 (aI hf5 (aI (own_mono ho5 (Nat.le_trans (Nat.le_refl _) hbz4.size)) (aI hM5 (aI hK5 (aI hS5 (aI hx5 hlb)))))))
  clear hS hS4 hS5 hbd hbz4 hC5 hf5 ho5 hM5 hK5 hE5 hx5 EX HVR HBN hlb
  go_wp2_with fail
  go_loopw [33] (fun s33 wr=>∃j k:Nat,s33 = .int .i64 (j:Nat)∧j≤lb.length∧k≤21*j∧ClM O wr cb A st false G.length G kn nx col ro (fs+f3+f5+k)∧KnM w2.heap.size wr kb G ro D∧Else A.S w5 wr∧(∀(t:Nat) (p:Pb),t<j→(bndL G ro V)[t]? = some p→(tsz p.2:Int)≤most)) (fun s _=>lb.length-(intOf s).toNat)
  case atStart=>exact ⟨0,0,rfl,Nat.zero_le _,Nat.le_refl _,by simpa using H5.out.1,H5.out.2.2.2.2.1,Else.refl _ _,fun t p h=>by omega⟩
  case round=>
   obtain ⟨j,k,rfl,hj,hk,hC,hK,hE,hall⟩:=hrel
   have hlb:=H5.out.2.2.2.2.2.2.2
   have hAlo:∀k,A.S k→k<w2.heap.size:=fun k h=>H3.out.2.2.2.2.2.2.2 k (.inr (.inl h))
   have hZs:=H3.out.2.2.2.2.2.1.size
   have hor:=own_else H5.out.2.2.1 hE fun g hg hS=>by have h1:=(H5.out.2.2.1.lt g hg).1;have:=hAlo g hS;have:=HX9.out;omega
   have hxr:=(hE.block _ (gL H5.out.2.2.2.2.2.2.1).1 (fun h=>by have:=hAlo _ h;have:=HX9.out;omega)).trans H5.out.2.2.2.2.2.2.1
   have hMr:BnM w2.heap.size wr lb (bndL G ro V):=H5.out.2.2.2.1.keep hE fun k h h2=>by have:=hAlo k h;omega
   have HT:=kI (aI hC (aI hk (aI hK (aI hE (aI hall (aI hor (aI hxr (aI hMr hAlo))))))))
   clear hC hk hK hE hall hMr hAlo hZs
   by_cases hjl:j<lb.length
   ·have f1:decide ((j:Int)<(lb.length:Int))=true:=decide_eq_true (by omega)
    have f2:decide (j<lb.length)=true:=decide_eq_true hjl
    obtain ⟨g5,cg5,hsh,hcg,_⟩:=Un.own_shape hor (by omega)
    injection hsh with hA1 _ hcc1
    subst hA1;subst hcc1
    obtain ⟨q0,q1,q2,q3⟩:=bds_get lb j hjl
    obtain ⟨⟨bv,bk,bn,⟨u1,u2,u3⟩,ps⟩,hbj⟩:∃b,lb[j]=b:=⟨_,rfl⟩
    rw [hbj] at q0 q1 q2 q3
    dsimp only [slv] at q0 q1 q2 q3
    have z0:wr.cell? ⟨g5,j*4,none⟩=some (.int .i64 bv):=(hor.cellAt (j*4) (by omega)).trans q0
    have z1:wr.cell? ⟨g5,j*4+1,none⟩=some (.int .i64 bk):=(hor.cellAt (j*4+1) (by omega)).trans q1
    have z2:wr.cell? ⟨g5,j*4+2,none⟩=some (.int .i64 bn):=(hor.cellAt (j*4+2) (by omega)).trans q2
    have z3:wr.cell? ⟨g5,j*4+3,none⟩=some (.slice u1 u2 u3):=(hor.cellAt (j*4+3) (by omega)).trans q3
    have hpj:(bndL G ro V)[j]? = some (bv,mnV_ G ro bv)∧bv∈V:=by
     have h1:=HT.out.2.2.2.2.2.2.2.1.1
     have h2:(lb.map pb)[j]? = some (pb (bv,bk,bn,(u1,u2,u3),ps)):=by rw [List.getElem?_map,List.getElem?_eq_getElem hjl,hbj];rfl
     rw [h1] at h2
     obtain ⟨a,ha,hb⟩:=List.mem_filterMap.1 (List.mem_of_getElem? h2)
     unfold bnd1 at hb
     by_cases he:mnV_ G ro a=(1,a,.nil)
     ·rw [@if_pos _ (Classical.propDecidable _) he] at hb
      cases hb
     ·rw [@if_neg _ (Classical.propDecidable _) he] at hb
      injection hb with hb
      have e1:a=bv:=congrArg Prod.fst hb
      subst e1
      rw [←hb] at h2
      exact ⟨h2,ha⟩
    obtain ⟨zs,hzs⟩:∃z,tsz (mnV_ G ro bv)=z:=⟨_,rfl⟩
    have hzl:zs≤1000000:=by rw [←hzs];exact HOK.out.szv bv
    have HP:=kI (aI hpj (aI hzs hzl))
    clear q0 q1 q2 q3 hpj hzs hzl hbj
    go_upto_region 9 with fail
    refine wp_world (fun Y=>Below wr.heap.size wr Y∧Y.heap[wr.heap.size]? = some (Obj.cells #[.int .i64 bv,.int .i64 bk,.int .i64 bn,.slice u1 u2 u3] 44)) ⟨(Below.refl _ _).alloc (Nat.le_refl _) _,heap_alloc_new wr _⟩ ?_
    rintro Y ⟨hY,hxY⟩
    have y0:Y.cell? ⟨wr.heap.size,0,none⟩=some (.int .i64 bv):=cell_of_row Y _ 0 _ _ (0,0) hxY
    have hxs:=(hY.block _ (gL hxr).1).trans hxr
    have s0:Y.cell? ⟨w3.heap.size,0,none⟩=some (.pointer (some ⟨cb,0,none⟩)):=cell_of_row Y _ 0 _ _ (0,0) hxs
    have s1:Y.cell? ⟨w3.heap.size,1,none⟩=some (.map (some kb)):=cell_of_row Y _ 1 _ _ (0,0) hxs
    have HSZ:=size_sv (HT.out.1.below hY) (by have:=H1.out.2.2.2.2.2.1;have:=H3.out.2.1;have:=H5.out.2.1;have:=H2.out.2.2.1;have:=H1.out.2.2.2.2.2.2.2;have:=HT.out.2.1;omega) HOK.out.rol (by have:=H1.out.2.2.2.2.2.2.2;omega) (HT.out.2.2.1.below hY) H3.out.2.2.2.2.2.2.2 H3.out.2.2.1 bv (H2.out.2.2.2 bv HP.out.1.2) (fun i hi=>H3.out.2.2.2.2.1 _ (by
     unfold rootsOf
     exact List.mem_filterMap.2 ⟨bv,HP.out.1.2,by rw [hi];rfl⟩))
    unfold SzPost at HSZ
    rw [HP.out.2.1] at HSZ
    have HSZ:=kI HSZ
    have HY:=kI hY
    clear z0 z1 z2 z3 hY hxY hxs
    go_wp2_with fail
    refine HSZ.out.mono ?_
    clear HSZ
    rintro x w6 ⟨f6,rfl,hf6,hC6,hK6,hE6⟩
    obtain ⟨bb,hbb⟩:∃b,decide (most<(zs:Int))=b:=⟨_,rfl⟩
    have HTG:=tgreat_any w6 zs most HP.out.2.2
    rw [hbb] at HTG
    have HTG:=kI HTG
    have hkk:k+f6≤21*(j+1):=by have:=HT.out.2.1;omega
    have H6:=kI (aI hkk (aI hC6 (aI hK6 (aI (HT.out.2.2.2.1.trans ((Else.of_below HY.out).trans hE6)) hbb))))
    clear hf6 hC6 hK6 hE6 hbb hkk y0 s0 s1
    go_wp2_with fail
    refine HTG.out.mono ?_
    clear HTG
    rintro x w7 ⟨rfl,rfl⟩
    cases bb with
    | true=>
     go_wp2_with fail
     refine bodyPost_ret (results_tmp2 rfl _ _ _) rfl ⟨_,_,rfl,?_,.inr ⟨H1.out.2.1,.inr (.inr ⟨by rw [HOK.out.eq];exact H1.out.2.2.1,by rw [HOK.out.eq];exact H1.out.2.2.2.1,ro,by rw [HOK.out.eq];exact HOK.out.can,fun v=>by rw [HOK.out.eq];exact HOK.out.szv v,.inl ⟨rfl,rfl,?_⟩⟩)⟩⟩
     ·exact HBW.out _ (H5.out.2.2.2.2.2.1.trans H6.out.2.2.2.1)
     ·rw [HOK.out.eq]
      show ∃p∈bndL G ro (vsort G),_
      rw [H2.out.2.1]
      exact ⟨_,List.mem_of_getElem? HP.out.1.1,by show most<((tsz (mnV_ G ro bv):Nat):Int);rw [HP.out.2.1];exact of_decide_eq_true H6.out.2.2.2.2⟩
    | false=>
     go_wp2_with fail
     go_roundw
     case rel=>
      refine ⟨j+1,k+f6,by go_num,hjl,H6.out.1,?_,H6.out.2.2.1,H6.out.2.2.2.1,fun t p ht hp=>?_⟩
      ·have e2:fs+(f3:Int)+(f5:Int)+((k+f6:Nat):Int)=fs+(f3:Int)+(f5:Int)+(k:Nat)+(f6:Nat):=by push_cast;omega
       rw [e2]
       exact H6.out.2.1
      ·rcases Nat.lt_or_ge t j with h1|h1
       ·exact HT.out.2.2.2.2.1 t p h1 hp
       ·obtain rfl:t=j:=by omega
        rw [HP.out.1.1] at hp
        cases hp
        have:=of_decide_eq_false H6.out.2.2.2.2
        show ((tsz (mnV_ G ro bv):Nat):Int)≤most
        rw [HP.out.2.1]
        omega
     case measure=>simp [intOf];omega
   ·have f1:decide ((j:Int)<(lb.length:Int))=false:=decide_eq_false (by omega)
    have f2:decide (j<lb.length)=false:=decide_eq_false hjl
    have hje:j=lb.length:=by omega
    have HJE:=kI hje
    have HOR:=kI hor
    clear hje hor hxr
    go_wp2_with fail
    obtain ⟨P,hP⟩:∃P,bndL G ro V=P:=⟨_,rfl⟩
    have HPP:=kI hP
    have HMW:Hid (BnM w2.heap.size wr lb P∧∀p∈P,tsz p.2≤1000000):=kI ⟨by rw [←hP];exact HT.out.2.2.2.2.2.2.2.1,fun p hp=>by
     rw [←hP] at hp
     obtain ⟨a,ha,hb⟩:=List.mem_filterMap.1 hp
     unfold bnd1 at hb
     by_cases he:mnV_ G ro a=(1,a,.nil)
     ·rw [@if_pos _ (Classical.propDecidable _) he] at hb
      cases hb
     ·rw [@if_neg _ (Classical.propDecidable _) he] at hb
      injection hb with hb
      rw [←hb]
      exact HOK.out.szv a⟩
    clear hP
    obtain ⟨wl,rfl⟩:∃wl:World,wl=wr:=⟨_,rfl⟩
    go_loopw [46] (fun s46 wx=>∃(i:Nat) (lx:List Bnd),s46 = .int .i64 (i:Nat)∧i≤lb.length∧lx.length=lb.length∧wx.ownsRow Z.heap.size 44 4 (.slice A5 lb.length c5) lb.length (bds lx)∧BnM w2.heap.size wx lx P∧Else (fun k=>some k=(Value.slice A5 lb.length c5).ownBlock) wl wx) (fun s _=>lb.length-(intOf s).toNat)
    case atStart=>exact ⟨0,lb,rfl,Nat.zero_le _,rfl,HOR.out,HMW.out.1,Else.refl _ _⟩
    case round=>
     obtain ⟨i,lx,rfl,hi,hlx,ho,hM,hE⟩:=hrel
     have HI:=kI (aI hlx (aI ho (aI hM hE)))
     by_cases hil:i<lb.length
     ·have f3:decide ((i:Int)<(lb.length:Int))=true:=decide_eq_true (by omega)
      have f4:decide (i<lb.length)=true:=decide_eq_true hil
      obtain ⟨g5,cg5,hsh,hcg,_⟩:=Un.own_shape ho (by omega)
      injection hsh with hA1 _ hcc1
      subst hA1;subst hcc1
      obtain ⟨q0,q1,q2,q3⟩:=bds_get lx i (by omega)
      obtain ⟨⟨bv,bk,bn,⟨u1,u2,u3⟩,ps⟩,hbj⟩:∃b,lx[i]'(by omega)=b:=⟨_,rfl⟩
      rw [hbj] at q0 q1 q2 q3
      dsimp only [slv] at q0 q1 q2 q3
      have z1:wr.cell? ⟨g5,i*4+1,none⟩=some (.int .i64 bk):=(ho.cellAt (i*4+1) (by omega)).trans q1
      have z2:wr.cell? ⟨g5,i*4+1+1,none⟩=some (.int .i64 bn):=(ho.cellAt (i*4+2) (by omega)).trans q2
      have z3:wr.cell? ⟨g5,i*4+1+2,none⟩=some (.slice u1 u2 u3):=(ho.cellAt (i*4+3) (by omega)).trans q3
      have hli:lx[i]? = some (bv,bk,bn,(u1,u2,u3),ps):=by rw [List.getElem?_eq_getElem (by omega),hbj]
      have hmem:(bv,bk,bn,(u1,u2,u3),ps)∈lx:=List.mem_of_getElem? hli
      obtain ⟨gF,hImg,hTy⟩:=(hM.2 _ hmem).now
      have hps:gF.size<1000000:=by
       have h1:pb (bv,bk,bn,(u1,u2,u3),ps)∈P:=by rw [←hM.1];exact List.mem_map_of_mem hmem
       have h2:=HMW.out.2 _ h1
       have h3:1+ps.pure.size≤1000000:=h2
       rw [pure_size] at h3
       have h4:gF.pure.size=gF.size:=pure_size gF
       have h5:gF.pure=ps.pure:=hImg.pure
       rw [h5,pure_size] at h4
       omega
      have HCP:=kI (copy_any wr bk bn (u1,u2,u3) gF hTy hps)
      have HLI:=kI (aI hli (aI hmem hImg))
      dsimp only [tyVal,slv] at HCP
      clear hlx ho hM hE q0 q1 q2 q3 hbj hli hmem hImg hTy hps
      go_wp2_with fail
      refine HCP.out.mono ?_
      clear HCP
      rintro x w6 ⟨⟨r1,r2,r3⟩,rfl,hb6,hf6⟩
      have ho6:=own_below HI.out.2.1 hb6
      obtain ⟨hb0,cur,hcur⟩:Z.heap.size≤g5∧∃cur,w6.heap[g5]? = some (Obj.cells cur 44):=by
       rcases ho6.2 with ⟨h0,_⟩|⟨g',cap,cur,h0,hb,hg,_⟩
       ·cases h0
       ·injection h0 with h2 h3 h4
        injection h2 with h2
        injection h2 with h2
        subst h2
        exact ⟨hb,cur,hg⟩
      have e1:w6.cell? ⟨g5,i*4+1,none⟩=some (.int .i64 bk):=(hb6.cell (World.block_lt_of_cell? _ _ z1)).trans z1
      have e2:w6.cell? ⟨g5,i*4+1+1,none⟩=some (.int .i64 bn):=(hb6.cell (World.block_lt_of_cell? _ _ z2)).trans z2
      have e3:w6.cell? ⟨g5,i*4+1+2,none⟩=some (.slice u1 u2 u3):=(hb6.cell (World.block_lt_of_cell? _ _ z3)).trans z3
      have v1:w6.frozen? ⟨g5,i*4+1,none⟩=false:=by simp [World.frozen?,hcur]
      have v2:w6.frozen? ⟨g5,i*4+1+1,none⟩=false:=by simp [World.frozen?,hcur]
      have v3:w6.frozen? ⟨g5,i*4+1+2,none⟩=false:=by simp [World.frozen?,hcur]
      have H6:=kI (aI hb6 (aI hf6 (aI ho6 hb0)))
      clear hb6 hf6 ho6 hb0 hcur z1 z2 z3
      dsimp only [slv]
      go_wp2_with fail
      go_roundw
      case rel=>
       obtain ⟨hb6,hf6,ho6,hb0⟩:=H6.out
       obtain ⟨hlx,ho,hM,hE⟩:=HI.out
       obtain ⟨hli,hmem,hImg⟩:=HLI.out
       have hE3:Else (fun k=>some k=(Value.slice (some ⟨g5,0,none⟩) lb.length c5).ownBlock) w6 (((w6.setCell ⟨g5,i*4+1,none⟩ (.int .i64 bk)).setCell ⟨g5,i*4+1+1,none⟩ (.int .i64 bn)).setCell ⟨g5,i*4+1+2,none⟩ (.slice r1 r2 r3)):=((Un.Else.set (S:=fun k=>some k=(Value.slice (some ⟨g5,0,none⟩) lb.length c5).ownBlock) w6 (p:=⟨g5,i*4+1,none⟩) rfl _).trans (Un.Else.set (S:=fun k=>some k=(Value.slice (some ⟨g5,0,none⟩) lb.length c5).ownBlock) _ (p:=⟨g5,i*4+1+1,none⟩) rfl _)).trans (Un.Else.set (S:=fun k=>some k=(Value.slice (some ⟨g5,0,none⟩) lb.length c5).ownBlock) _ (p:=⟨g5,i*4+1+2,none⟩) rfl _)
       have hp:=own_put (own_put (own_put ho6 (i*4+1) (.int .i64 bk)) (i*4+1+1) (.int .i64 bn)) (i*4+1+2) (.slice r1 r2 r3)
       have hbs:=bds_set lx i _ hli bk bn (r1,r2,r3) gF
       rw [show i*4+2=i*4+1+1 by omega,show i*4+3=i*4+1+2 by omega] at hbs
       dsimp only [slv] at hbs
       rw [hbs] at hp
       have hnT:∀k,some k=(Value.slice (some ⟨g5,0,none⟩) lb.length c5).ownBlock→w2.heap.size≤k→∀c:Array Value,w6.heap[k]?≠some (Obj.cells c 25):=fun k hk _=>row_not ho6 (by decide) k hk.symm
       refine ⟨i+1,lx.set i (bv,bk,bn,(r1,r2,r3),gF),by go_num,hil,by rw [List.length_set];exact hlx,hp,⟨?_,fun x hx=>?_⟩,(hE.trans (Else.of_below hb6)).trans hE3⟩
       ·rw [map_set_same pb lx i _ _ hli (by show (bv,bk,bn,gF.pure)=(bv,bk,bn,ps.pure);rw [hImg.pure])]
        exact hM.1
       ·rcases mem_set_of hx with hx|rfl
        ·exact ((hM.2 x hx).below hb6).to hE3.size fun b cs hb hc=>(hE3.block b (gL hc).1 fun h=>hnT b h hb cs hc).trans hc
        ·refine (hf6.mono (C:=w2.heap.size) ?_).to hE3.size fun b cs hb hc=>(hE3.block b (gL hc).1 fun h=>hnT b h hb cs hc).trans hc
         have h1:=H3.out.2.2.2.2.2.1.size
         have h2:=H5.out.2.2.2.2.2.1.size
         have h3:=HT.out.2.2.2.1.size
         have h4:=hE.size
         omega
      case measure=>simp [intOf];omega
     ·have f3:decide ((i:Int)<(lb.length:Int))=false:=decide_eq_false (by omega)
      have f4:decide (i<lb.length)=false:=decide_eq_false hil
      clear hlx ho hM hE
      go_wp2_with fail
      obtain ⟨hlx,ho,hM,hE⟩:=HI.out
      have hZw:w.heap.size≤Z.heap.size:=by have h1:=H1.out.1.size;have h2:=H2.out.1.size;have h3:=H3.out.2.2.2.2.2.1.size;omega
      have hw2:w.heap.size≤w2.heap.size:=by have h1:=H1.out.1.size;have h2:=H2.out.1.size;omega
      refine bodyPost_ret (results_tmp2 rfl _ _ _) rfl ⟨_,_,rfl,?_,.inr ⟨H1.out.2.1,.inr (.inr ⟨by rw [HOK.out.eq];exact H1.out.2.2.1,by rw [HOK.out.eq];exact H1.out.2.2.2.1,ro,by rw [HOK.out.eq];exact HOK.out.can,fun v=>by rw [HOK.out.eq];exact HOK.out.szv v,.inr ⟨rfl,?_,lx,?_,?_⟩⟩)⟩⟩
      ·have h1:=HBW.out _ (H5.out.2.2.2.2.2.1.trans HT.out.2.2.2.1)
       exact h1.trans (hE.below (fun k hk=>Nat.le_trans hZw (ho.lt k hk.symm).1) h1.size)
      ·rw [HOK.out.eq]
       show ∀p∈bndL G ro (vsort G),_
       rw [H2.out.2.1]
       intro p hp
       obtain ⟨t,ht,rfl⟩:=List.getElem_of_mem hp
       refine HT.out.2.2.2.2.1 t _ ?_ (List.getElem?_eq_getElem ht)
       have h1:=HT.out.2.2.2.2.2.2.2.1.1
       have h2:lb.length=(bndL G ro V).length:=by rw [←h1,List.length_map]
       have h3:=HJE.out
       omega
      ·have h1:=own_mono ho hZw
       show wr.ownsRow w.heap.size 44 4 (.slice A5 lb.length c5) lx.length (bds lx)
       rw [hlx]
       exact h1
      ·rw [HOK.out.eq]
       show BnM _ _ _ (bndL G ro (vsort G))
       rw [H2.out.2.1,HPP.out]
       exact ⟨hM.1,fun x hx=>(hM.2 x hx).mono hw2⟩
end
section
def xEx (u:Sl) (F:Fo):List Eqn:=[((1,0,(none,0,0),.nil),(4,0,u,F),(0,0)),((1,1,(none,0,0),.nil),(3,0,(none,0,0),.nil),(0,0))]
def xG:List Gn:=[(1,0,1,[]),(1,1,1,[]),(2,0,1,[]),(4,0,3,[1,2]),(3,0,1,[])]
def xM:Fo:=.cons 3 0 (none,0,0) .nil (.cons 2 0 (none,0,0) .nil .nil)
def xS (v:Int):Tp:=if v=0 then (4,0,xM) else if v=1 then (3,0,.nil) else (1,v,.nil)
section
variable {u:Sl}{F:Fo}
theorem x_eqs:eqG [] 1 0 .nil 4 0 (exP 1 1 2 0)=[(1,0,1,[]),(1,1,1,[]),(2,0,1,[]),(4,0,3,[1,2])]∧eqE [] [] 1 0 .nil 4 0 (exP 1 1 2 0)=[(0,3)]:=by
 simp only [eqG,eqE,exP,gadd1_eq,gadd_cons,gadd_nil]
 exact ⟨rfl,rfl⟩
theorem x_eqs2:eqG [(1,0,1,[]),(1,1,1,[]),(2,0,1,[]),(4,0,3,[1,2])] 1 1 .nil 3 0 .nil=xG∧eqE [(1,0,1,[]),(1,1,1,[]),(2,0,1,[]),(4,0,3,[1,2])] [(0,3)] 1 1 .nil 3 0 .nil=[(0,3),(1,4)]:=by
 simp only [eqG,eqE,gadd1_eq,gadd_nil]
 exact ⟨rfl,rfl⟩
theorem x_cls (h:Img idn (exP 1 1 2 0) F):cls (xEx u F)=(xG,[(0,3),(1,4)]):=by
 have e1:∀G,gadd1 G 4 0 F=gadd1 G 4 0 (exP 1 1 2 0):=fun G=>by rw [gadd1_eq,gadd1_eq,h.gadd]
 have e2:stp ([],[]) ((1,0,(none,0,0),.nil),(4,0,u,F),(0,0))=([(1,0,1,[]),(1,1,1,[]),(2,0,1,[]),(4,0,3,[1,2])],[(0,3)]):=by
  obtain ⟨a,b⟩:=x_eqs
  unfold stp
  refine Prod.ext ?_ ?_
  ·rw [←a]
   show (gadd1 _ 4 0 F).1=(gadd1 _ 4 0 _).1
   rw [e1]
  ·rw [←b]
   show _ ++ [(_,(gadd1 _ 4 0 F).2)]=_ ++ [(_,(gadd1 _ 4 0 _).2)]
   rw [e1]
 show stp (stp ([],[]) _) _=_
 rw [e2]
 exact Prod.ext x_eqs2.1 x_eqs2.2
theorem x_pure (h:Img idn (exP 1 1 2 0) F):F.pure=exP 1 1 2 0:=h.pure
theorem x_slv (h:Img idn (exP 1 1 2 0) F) (s:Int→Tp):Slv (xEx u F) s↔s 0=(4,0,tpRow [s 1,(2,0,.nil)])∧s 1=(3,0,.nil):=by
 have e:sb s F=tpRow [s 1,(2,0,.nil)]:=by
  rw [←sb_pure,x_pure h]
  rfl
 have e0:∀v,sb s (tOne (1,v,(none,0,0),.nil))=tpRow [s v]:=fun v=>rfl
 have e1:sb s (tOne (4,0,u,F))=tpRow [(4,0,tpRow [s 1,(2,0,.nil)])]:=by
  show Fo.cons _ _ _ _ _=_
  rw [e]
  rfl
 have e2:sb s (tOne (3,0,(none,0,0),.nil))=tpRow [(3,0,.nil)]:=rfl
 constructor
 ·intro hs
  have h1:=hs _ (List.mem_cons_self ..)
  have h2:=hs ((1,1,(none,0,0),.nil),(3,0,(none,0,0),.nil),(0,0)) (List.mem_cons_of_mem _ List.mem_cons_self)
  have h1:sb s (tOne (1,0,(none,0,0),.nil))=sb s (tOne (4,0,u,F)):=h1
  have h2:sb s (tOne (1,1,(none,0,0),.nil))=sb s (tOne (3,0,(none,0,0),.nil)):=h2
  rw [e0,e1] at h1
  rw [e0,e2] at h2
  have h1:=tpRow_inj _ _ h1
  have h2:=tpRow_inj _ _ h2
  exact ⟨by simpa using h1,by simpa using h2⟩
 ·rintro ⟨h1,h2⟩ x hx
  rcases List.mem_cons.1 hx with rfl|hx
  ·show sb s (tOne (1,0,(none,0,0),.nil))=sb s (tOne (4,0,u,F))
   rw [e0,e1,h1]
  ·obtain rfl:x=((1,1,(none,0,0),.nil),(3,0,(none,0,0),.nil),(0,0)):=by simpa using hx
   show sb s (tOne (1,1,(none,0,0),.nil))=sb s (tOne (3,0,(none,0,0),.nil))
   rw [e0,e2,h2]
theorem x_solves (h:Img idn (exP 1 1 2 0) F):Slv (xEx u F) xS:=(x_slv h xS).2 ⟨rfl,rfl⟩
theorem x_small (h:Img idn (exP 1 1 2 0) F):SmallS (xEx u F) 1000000:=by
 refine ⟨xS,x_solves h,?_⟩
 rw [x_cls h]
 have:∀i,i<5→tsz (valG xS xG i)≤1000000:=by decide
 exact this
theorem x_can (h:Img idn (exP 1 1 2 0) F) {m:Int→Tp}(hm:Can (Slv (xEx u F)) m):m 0=(4,0,xM)∧m 1=(3,0,.nil):=by
 obtain ⟨h1,h2⟩:=(x_slv h m).1 hm.solves
 rw [h2] at h1
 exact ⟨h1,h2⟩
theorem x_vs:vsort xG=[0,1]:=by decide
theorem x_right (h:Img idn (exP 1 1 2 0) F) (hl:LenOk F) (hu:u.2.1=F.len):∀y∈xEx u F,rtE y=true:=by
 have hal:AlP (exP 1 1 2 0):=⟨rfl,trivial,rfl,trivial,trivial⟩
 have h2:=(h.alp hal).all hl
 have h3:allAlone F.pre=true:=by
  unfold allAlone
  rw [List.all_eq_true]
  exact h2
 have h4:F.len=2:=by rw [h.len];rfl
 intro y hy
 rcases List.mem_cons.1 hy with rfl|hy
 ·unfold rtE rt1
  dsimp only
  rw [h3,h4]
  rfl
 ·obtain rfl:y=((1,1,(none,0,0),.nil),(3,0,(none,0,0),.nil),(0,0)):=by simpa using hy
  rfl
end
theorem xM_txt:(if alone 4 0 xM.len && xM.ok then oneT 4 0 xM.txts else [])=[98,111,111,108,32,45,62,32,105,110,116]:=by decide +kernel
theorem x3_txt:(if alone 3 0 Fo.nil.len && Fo.nil.ok then oneT 3 0 Fo.nil.txts else [])=[98,111,111,108]:=by decide +kernel
end
section
open Go.RowKit Go.Shelf
open Un (Else StM rowI UFo own_else dg swp wp_world paint)
attribute [local go_sem] Oper.semAt_some
set_option maxRecDepth 100000
theorem x_post {w w':World}{x:Ending}{u:Sl}{F:Fo}{v0:Value}(hE:EqV w.heap.size w (xEx u F) v0) (h:Img idn (exP 1 1 2 0) F) (hl:LenOk F) (hu:u.2.1=F.len) (hp:SolPost w (xEx u F) 9 x w'):
  ∃(v:Value) (ps0 ps1:Fo) (u0 u1:Sl),x = .returned (.tuple #[v,.int .i64 0])∧Below w.heap.size w w'∧w'.ownsRow w.heap.size 44 4 v 2 (bds [(0,4,0,u0,ps0),(1,3,0,u1,ps1)])∧ps0.pure=xM∧ps1.pure = .nil∧FreshT 25 w.heap.size w' idn ps0 u0∧FreshT 25 w.heap.size w' idn ps1 u1:=by
 have hr:=x_right h hl hu
 have hnz:=nz_all hE hr
 have hs:=x_solves (u:=u) h
 obtain ⟨v,r,rfl,hb,hc⟩:=hp
 rcases hc with ⟨⟨y,hy,hy2⟩,_⟩|⟨_,⟨_,_,hcl⟩|⟨_,_,_,hnf⟩|⟨_,_,ro,hcan,_,hc⟩⟩
 ·rw [hr y hy] at hy2;cases hy2
 ·exact absurd hcl (slv_noclash (cls_gl _) hnz hs)
 ·exact absurd (slv_fin (cls_gl _) hnz hs) hnf
 ·obtain ⟨m0,m1⟩:=x_can h hcan
  rw [x_cls h] at hc m0 m1
  have hbl:bndL xG ro (vsort xG)=[(0,4,0,xM),(1,3,0,.nil)]:=by
   rw [x_vs]
   have e0:bnd1 xG ro 0=some (0,4,0,xM):=by
    unfold bnd1
    rw [m0]
    exact @if_neg _ (Classical.propDecidable _) (by intro e;exact absurd (congrArg Prod.fst e) (by decide)) _ _ _
   have e1:bnd1 xG ro 1=some (1,3,0,.nil):=by
    unfold bnd1
    rw [m1]
    exact @if_neg _ (Classical.propDecidable _) (by intro e;exact absurd (congrArg Prod.fst e) (by decide)) _ _ _
   unfold bndL
   simp [e0,e1]
  dsimp only at hc
  rw [hbl] at hc
  rcases hc with ⟨_,_,p,hp,hp2⟩|⟨rfl,_,lb,hown,hM⟩
  ·rcases List.mem_cons.1 hp with rfl|hp
   ·exact absurd hp2 (by decide)
   ·obtain rfl:p=(1,3,0,.nil):=by simpa using hp
    exact absurd hp2 (by decide)
  ·obtain ⟨hm1,hm2⟩:=hM
   rcases lb with _|⟨⟨a0,a1,a2,a3,a4⟩,_|⟨⟨b0,b1,b2,b3,b4⟩,_|⟨c,lb⟩⟩⟩
   ·cases hm1
   ·injection hm1 with _ h2;cases h2
   ·injection hm1 with h1 h2
    injection h2 with h2 _
    unfold pb at h1 h2
    obtain ⟨rfl,h1⟩:=Prod.mk.inj h1
    obtain ⟨rfl,h1⟩:=Prod.mk.inj h1
    obtain ⟨rfl,h1⟩:=Prod.mk.inj h1
    obtain ⟨rfl,h2⟩:=Prod.mk.inj h2
    obtain ⟨rfl,h2⟩:=Prod.mk.inj h2
    obtain ⟨rfl,h2⟩:=Prod.mk.inj h2
    exact ⟨v,a4,b4,a3,b3,rfl,hb,hown,h1,h2,hm2 (0,4,0,a3,a4) (List.mem_cons_self ..),hm2 (1,3,0,b3,b4) (List.mem_cons_of_mem _ (List.mem_cons_self ..))⟩
   ·injection hm1 with _ h2;injection h2 with _ h3;cases h3
theorem print_txt {w:World}{k:Int}{u:Sl}{ps g:Fo}{t:List UInt8}(hI:Img idn ps g) (hT:TyV w.heap.size w g (slv u)) (hs:g.size<100000) (ht:Tab w) {f:Fo}(hp:ps.pure=f) (hx:(if alone k 0 f.len && f.ok then oneT k 0 f.txts else [])=t):
  Calls Tryz.prog 40 #[tyVal k 0 (slv u)] w fun e w'=>e = .returned (strB t)∧Below w.heap.size w w':=by
 have h:=print_any w k 0 u g hT hs ht
 have hg:g.pure=f:=by rw [hI.pure,hp]
 have e:(if alone k 0 g.len && g.ok then oneT k 0 g.txts else [])=t:=by
  rw [←hx,←hg,Fo.pure_len,ok_pure,txts_pure]
 rw [e] at h
 exact h
set_option maxHeartbeats 8000000 in
theorem awake14 (w:World) (ht:Tab w):Calls Tryz.prog 11 #[] w fun e w'=>e = .returned (.bool true)∧Below w.heap.size w w':=by
 have HTB:=kI ht
 clear ht
 go_enter Tryz.func11,Tryz.ntmps11
 go_upto_region 2 with fail
 refine wp_world (fun Z=>Z.heap[w.heap.size]? = some (.cells #[.int .i64 2,.int .i64 0,.slice none 0 0] 25)∧Z.heap[w.heap.size+1]? = some (.cells #[.int .i64 3,.int .i64 0,.slice none 0 0] 25)∧Below w.heap.size w Z) ?_ ?_
 ·refine ⟨(Below.heap_alloc _ _ _ (by simp)).trans (heap_alloc_new _ _),?_,((Below.refl _ _).alloc (Nat.le_refl _) _).alloc (by simp) _⟩
  have h:=heap_alloc_new (w.alloc (.cells #[.int .i64 2,.int .i64 0,.slice none 0 0] 25)) (.cells #[.int .i64 3,.int .i64 0,.slice none 0 0] 25)
  rwa [World.size_alloc] at h
 rintro V ⟨hx2,hx3,hbV⟩
 have EX:Hid (∀W,Below V.heap.size V W→W.cell? ⟨w.heap.size,0,none⟩=some (.int .i64 2)∧W.cell? ⟨w.heap.size,1,none⟩=some (.int .i64 0)∧W.cell? ⟨w.heap.size,2,none⟩=some (.slice none 0 0)∧W.cell? ⟨w.heap.size+1,0,none⟩=some (.int .i64 3)∧W.cell? ⟨w.heap.size+1,1,none⟩=some (.int .i64 0)∧W.cell? ⟨w.heap.size+1,2,none⟩=some (.slice none 0 0)):=kI fun W hW=>by
  have h2:=(hW.block _ (gL hx2).1).trans hx2
  have h3:=(hW.block _ (gL hx3).1).trans hx3
  exact ⟨cell_of_row W _ 0 _ _ (0,0) h2,cell_of_row W _ 1 _ _ (0,0) h2,cell_of_row W _ 2 _ _ (0,0) h2,cell_of_row W _ 0 _ _ (0,0) h3,cell_of_row W _ 1 _ _ (0,0) h3,cell_of_row W _ 2 _ _ (0,0) h3⟩
 have HV:=kI hbV
 clear hx2 hx3 hbV
 go_wp2_with fail
 have hS0:Below V.heap.size V V.drew:=(Below.refl _ _).drew
 refine wp_region_held (S:=(fun W=>Below V.heap.size V W)) (by kernel_rfl) ?_
 change wpAnyH _ _ _ _ _ 16 (List.replicate 16 false).toArray _ V.drew
 simp only [List.replicate_succ,List.replicate_zero]
 refine tk (i:=2) (some 10) (.agg #[.int .i64 2,.int .i64 0,.slice none 0 0]) rfl (fun W hw=>by obtain ⟨n0_,n1_,n2_,n3_,n4_,n5_⟩:=EX.out W hw;clear hw;go_simp) hS0 ?_
 simp only [Act.put,zA,zB,zC]
 refine tk (i:=7) (some 15) (.agg #[.int .i64 3,.int .i64 0,.slice none 0 0]) rfl (fun W hw=>by obtain ⟨n0_,n1_,n2_,n3_,n4_,n5_⟩:=EX.out W hw;clear hw;go_simp) hS0 ?_
 simp only [Act.put,zA,zB,zC]
 refine aK 0 ?_
 refine ops_call (d:=some 8) rfl (by rfl) (by kernel_rfl) (by go_simp) ((var_any 0 _).mono ?_)
 rintro e w1 ⟨rfl,hb1⟩
 unfold tyVal
 have hS1:Below V.heap.size V w1:=hS0.trans (hb1.mono hS0.size)
 refine ⟨_,rfl,hS1,?_⟩
 simp only [Act.put,zA,zB,zC]
 refine aK 1 ?_
 refine ops_call (d:=some 9) rfl (by rfl) (by kernel_rfl) (by go_simp) ((var_any 1 _).mono ?_)
 rintro e w2 ⟨rfl,hb2⟩
 unfold tyVal
 have hS2:Below V.heap.size V w2:=hS1.trans (hb2.mono hS1.size)
 refine ⟨_,rfl,hS2,?_⟩
 simp only [Act.put,zA,zB,zC]
 obtain ⟨w3,hw3⟩:∃w3,w2.alloc (.cells #[.int .i64 1,.int .i64 1,.slice none 0 0,.int .i64 2,.int .i64 0,.slice none 0 0] 25)=w3:=⟨_,rfl⟩
 have hb3:Below w2.heap.size w2 w3:=by rw [←hw3];exact (Below.refl _ _).alloc (Nat.le_refl _) _
 have h3:w3.heap[w2.heap.size]? = some (Obj.cells #[.int .i64 1,.int .i64 1,.slice none 0 0,.int .i64 2,.int .i64 0,.slice none 0 0] 25):=by rw [←hw3];exact heap_alloc_new _ _
 have hS3:Below V.heap.size V w3:=hS2.trans (hb3.mono hS2.size)
 refine aK 3 ?_
 refine ops_val (d:=some 11) (v:=.slice (some ⟨w2.heap.size,0,none⟩) 2 2) (w':=w3) rfl (by rfl) (by kernel_rfl) (by rw [←hw3];clear hS0 hS1 hS2 hS3 hb1 hb2 hb3 h3 hw3 EX;go_simp) hS3 ?_
 simp only [Act.put,zA,zB,zC]
 have HAR:=arrow_two w3 w2.heap.size 2 1 1 2 0 (none,0,0) (none,0,0) .nil .nil (gL h3).1 (Nat.le_refl _) (by unfold maxLen;omega) (cell_of_row _ _ 0 _ _ (0,0) h3) (cell_of_row _ _ 1 _ _ (0,0) h3) (cell_of_row _ _ 2 _ _ (0,0) h3) (cell_of_row _ _ 3 _ _ (0,0) h3) (cell_of_row _ _ 4 _ _ (0,0) h3) (cell_of_row _ _ 5 _ _ (0,0) h3) (no_parts _ _) (no_parts _ _) (by decide)
 refine aK 4 ?_
 refine ops_call (d:=some 12) rfl (by rfl) (by kernel_rfl) (by go_simp) (HAR.mono ?_)
 rintro e w4 ⟨⟨u1,u2,u3⟩,rfl,hb4,hF4⟩
 unfold tyVal
 dsimp only [slv]
 have hS4:Below V.heap.size V w4:=hS3.trans (hb4.mono hS3.size)
 refine ⟨_,rfl,hS4,?_⟩
 simp only [Act.put,zA,zB,zC]
 refine tj (i:=5) (some 13) (.agg #[.int .i64 1,.int .i64 0,.slice none 0 0,.int .i64 4,.int .i64 0,.slice u1 u2 u3,.int .i64 0,.int .i64 0]) rfl hS4 ?_
 simp only [Act.put,zA,zB,zC]
 refine aK 6 ?_
 refine ops_call (d:=some 14) rfl (by rfl) (by kernel_rfl) (by go_simp) ((var_any 1 _).mono ?_)
 rintro e w5 ⟨rfl,hb5⟩
 unfold tyVal
 have hS5:Below V.heap.size V w5:=hS4.trans (hb5.mono hS4.size)
 refine ⟨_,rfl,hS5,?_⟩
 simp only [Act.put,zA,zB,zC]
 refine tj (i:=8) (some 16) (.agg #[.int .i64 1,.int .i64 1,.slice none 0 0,.int .i64 3,.int .i64 0,.slice none 0 0,.int .i64 0,.int .i64 0]) rfl hS5 ?_
 simp only [Act.put,zA,zB,zC]
 obtain ⟨w6,hw6⟩:∃w6,w5.alloc (.cells #[.int .i64 1,.int .i64 0,.slice none 0 0,.int .i64 4,.int .i64 0,.slice u1 u2 u3,.int .i64 0,.int .i64 0,.int .i64 1,.int .i64 1,.slice none 0 0,.int .i64 3,.int .i64 0,.slice none 0 0,.int .i64 0,.int .i64 0] 59)=w6:=⟨_,rfl⟩
 have hb6:Below w5.heap.size w5 w6:=by rw [←hw6];exact (Below.refl _ _).alloc (Nat.le_refl _) _
 have h6:w6.heap[w5.heap.size]? = some (Obj.cells #[.int .i64 1,.int .i64 0,.slice none 0 0,.int .i64 4,.int .i64 0,.slice u1 u2 u3,.int .i64 0,.int .i64 0,.int .i64 1,.int .i64 1,.slice none 0 0,.int .i64 3,.int .i64 0,.slice none 0 0,.int .i64 0,.int .i64 0] 59):=by rw [←hw6];exact heap_alloc_new _ _
 have hS6:Below V.heap.size V w6:=hS5.trans (hb6.mono hS5.size)
 refine aK 9 ?_
 refine ops_val (d:=some 17) (v:=.slice (some ⟨w5.heap.size,0,none⟩) 2 2) (w':=w6) rfl (by rfl) (by kernel_rfl) (by rw [←hw6];clear hS0 hS1 hS2 hS3 hS4 hS5 hS6 hb1 hb2 hb3 hb4 hb5 hb6 h3 hw3 h6 hw6 EX hF4 HAR;go_simp) hS6 ?_
 simp only [Act.put,zA,zB,zC]
 obtain ⟨F,hI,hT⟩:=((hF4.below hb5).below hb6).now
 have hlo:=(TyV.list hT).lenOk
 have hlu:((u1,u2,u3):Sl).2.1=F.len:=TyV.len (u:=(u1,u2,u3)) hT
 have hEq:EqV w6.heap.size w6 (xEx (u1,u2,u3) F) (.slice (some ⟨w5.heap.size,0,none⟩) 2 2):=by
  refine ⟨_,2,rfl,fun _=>⟨w5.heap.size,0,rfl,(gL h6).1,Nat.le_refl _,by unfold maxLen;omega,fun i hi=>?_⟩,fun x hx=>?_⟩
  ·have hi:i<2:=hi
   rcases (by omega:i=0∨i=1) with rfl|rfl
   ·exact ⟨cell_of_row w6 _ 0 _ _ (0,0) h6,cell_of_row w6 _ 1 _ _ (0,0) h6,cell_of_row w6 _ 2 _ _ (0,0) h6,cell_of_row w6 _ 3 _ _ (0,0) h6,cell_of_row w6 _ 4 _ _ (0,0) h6,cell_of_row w6 _ 5 _ _ (0,0) h6,cell_of_row w6 _ 6 _ _ (0,0) h6,cell_of_row w6 _ 7 _ _ (0,0) h6⟩
   ·exact ⟨cell_of_row w6 _ 8 _ _ (0,0) h6,cell_of_row w6 _ 9 _ _ (0,0) h6,cell_of_row w6 _ 10 _ _ (0,0) h6,cell_of_row w6 _ 11 _ _ (0,0) h6,cell_of_row w6 _ 12 _ _ (0,0) h6,cell_of_row w6 _ 13 _ _ (0,0) h6,cell_of_row w6 _ 14 _ _ (0,0) h6,cell_of_row w6 _ 15 _ _ (0,0) h6⟩
  ·rcases List.mem_cons.1 hx with rfl|hx
   ·exact ⟨no_parts _ _,hT⟩
   ·obtain rfl:x=((1,1,(none,0,0),.nil),(3,0,(none,0,0),.nil),(0,0)):=by simpa using hx
    exact ⟨no_parts _ _,no_parts _ _⟩
 have hWq:EqW (xEx (u1,u2,u3) F):=by
  intro x hx
  rcases List.mem_cons.1 hx with rfl|hx
  ·exact ⟨⟨(show (Lit.int .i64 0).wf=true by decide),trivial⟩,(show (Lit.int .i64 0).wf=true by decide),hI.wfi ⟨by decide,trivial,by decide,trivial,trivial⟩⟩
  ·obtain rfl:x=((1,1,(none,0,0),.nil),(3,0,(none,0,0),.nil),(0,0)):=by simpa using hx
   exact ⟨⟨by decide,trivial⟩,by decide,trivial⟩
 have hFs:F.size=2:=by rw [hI.size];rfl
 have HSV:=solve_any w6 9 (xEx (u1,u2,u3) F) _ hEq hWq (by show 2≤2000;omega) (by show ((1+0)+(1+F.size))+(((1+0)+(1+0))+0)≤19000;omega) fun _=>x_small hI
 refine aK 10 ?_
 refine ops_call (d:=some 18) rfl (by rfl) (by kernel_rfl) (by go_simp) (HSV.mono ?_)
 rintro e w7 hpost
 obtain ⟨v7,ps0,ps1,⟨a1,a2,a3⟩,⟨b1,b2,b3⟩,rfl,hb7,ho7,hp0,hp1,hf0,hf1⟩:=x_post hEq hI hlo hlu hpost
 obtain ⟨g7,c7,rfl,hc7,_⟩:=Un.own_shape ho7 (by omega)
 have hS7:Below V.heap.size V w7:=hS6.trans (hb7.mono hS6.size)
 refine ⟨_,rfl,hS7,?_⟩
 simp only [Act.put,zA,zB,zC]
 refine tj (i:=11) (some 7) (.tuple #[.slice (some ⟨g7,0,none⟩) 2 c7,.int .i64 0]) rfl hS7 ?_
 simp only [Act.put,zA,zB,zC]
 refine tj (i:=12) (some 19) (.slice (some ⟨g7,0,none⟩) 2 c7) rfl hS7 ?_
 simp only [Act.put,zA,zB,zC]
 refine tj (i:=13) (some 20) (.int .i64 0) rfl hS7 ?_
 simp only [Act.put,zA,zB,zC]
 refine tj (i:=14) (some 3) (.slice (some ⟨g7,0,none⟩) 2 c7) rfl hS7 ?_
 simp only [Act.put,zA,zB,zC]
 refine tj (i:=15) (some 4) (.int .i64 0) rfl hS7 ?_
 simp only [Act.put,zA,zB,zC]
 refine wpAnyH_done (by kernel_rfl) ?_ _
 have hw7:=HV.out.trans (hS7.mono HV.out.size)
 have q1:w7.cell? ⟨g7,1,none⟩=some (.int .i64 4):=(ho7.cellAt 1 (by omega)).trans rfl
 have q2:w7.cell? ⟨g7,2,none⟩=some (.int .i64 0):=(ho7.cellAt 2 (by omega)).trans rfl
 have q3:w7.cell? ⟨g7,3,none⟩=some (.slice a1 a2 a3):=(ho7.cellAt 3 (by omega)).trans rfl
 have q5:w7.cell? ⟨g7,5,none⟩=some (.int .i64 3):=(ho7.cellAt 5 (by omega)).trans rfl
 have q6:w7.cell? ⟨g7,6,none⟩=some (.int .i64 0):=(ho7.cellAt 6 (by omega)).trans rfl
 have q7:w7.cell? ⟨g7,7,none⟩=some (.slice b1 b2 b3):=(ho7.cellAt 7 (by omega)).trans rfl
 obtain ⟨F0,hI0,hT0⟩:=hf0.now
 have hF0:F0.size<100000:=by rw [hI0.size,←pure_size,hp0];decide
 have HP0:=kI (print_txt hI0 hT0 hF0 (HTB.out.below hw7) hp0 xM_txt)
 have H7:=kI (aI hw7 (aI hf1 (aI hp1 (aI q5 (aI q6 q7)))))
 clear hS0 hS1 hS2 hS3 hS4 hS5 hS6 hS7 hb1 hb2 hb3 hb4 hb5 hb6 hb7 h3 hw3 h6 hw6 EX hF4 HAR hI hT hlo hlu hEq hWq hFs HSV hpost hw7 q5 q6 q7 hI0 hT0 hF0 hf0 hf1 hp0 hp1 ho7
 dsimp only [tyVal,slv,strB] at HP0
 go_wp2_with fail
 refine HP0.out.mono ?_
 clear HP0
 rintro e w8 ⟨rfl,hb8⟩
 have hw8:=H7.out.1.trans (hb8.mono H7.out.1.size)
 have r5:w8.cell? ⟨g7,5,none⟩=some (.int .i64 3):=(hb8.cell (World.block_lt_of_cell? _ _ H7.out.2.2.2.1)).trans H7.out.2.2.2.1
 have r6:w8.cell? ⟨g7,6,none⟩=some (.int .i64 0):=(hb8.cell (World.block_lt_of_cell? _ _ H7.out.2.2.2.2.1)).trans H7.out.2.2.2.2.1
 have r7:w8.cell? ⟨g7,7,none⟩=some (.slice b1 b2 b3):=(hb8.cell (World.block_lt_of_cell? _ _ H7.out.2.2.2.2.2)).trans H7.out.2.2.2.2.2
 obtain ⟨F1,hI1,hT1⟩:=(H7.out.2.1.below hb8).now
 have hF1:F1.size<100000:=by rw [hI1.size,←pure_size,H7.out.2.2.1];decide
 have HP1:=kI (print_txt hI1 hT1 hF1 (HTB.out.below hw8) H7.out.2.2.1 x3_txt)
 have H8:=kI hw8
 clear hw8 hb8 hI1 hT1 hF1 q1 q2 q3
 dsimp only [tyVal,slv,strB] at HP1
 go_wp2_with fail
 refine HP1.out.mono ?_
 clear HP1
 rintro e w9 ⟨rfl,hb9⟩
 have H9:=kI (H8.out.trans (hb9.mono H8.out.size))
 clear hb9 r5 r6 r7
 go_wp2_with fail
 exact bodyPost_ret (results_tmp rfl _ _ _) rfl ⟨rfl,H9.out⟩
end
section
open Go.RowKit
open Un (Else own_else wp_world)
attribute [local go_sem] Oper.semAt_some
attribute [local go_sem ↓] builtin_app
set_option maxRecDepth 100000
end
end Go.Proofs.YtmamdiggjghjkaaGreatDoor
