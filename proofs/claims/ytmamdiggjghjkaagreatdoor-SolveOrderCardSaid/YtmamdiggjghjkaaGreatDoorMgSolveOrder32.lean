/- Texts of one proof, one behind the other. -/
import Derived.Test.YtmamdiggjghjkaaGreatDoorMgSolveOrder1
import Derived.Test.YtmamdiggjghjkaaGreatDoorMgSolveOrder31
import Derived.Test.YtmamdiggjghjkaaGreatDoorMgSolveOrder6
import Derived.Test.YtmamdiggjghjkaaGreatDoorMgSolveOrder17
set_option linter.unusedVariables false
namespace Go.Proofs.YtmamdiggjghjkaaGreatDoor
section
open Go.RowKit
open Un (Else StM rowI UFo own_else dg swp wp_world paint)
attribute [local go_sem] Oper.semAt_some
attribute [local go_sem ↓] builtin_app
set_option maxRecDepth 100000
theorem field_mn0 (a b c d:Value) (W:World):(Instr.field 139 (.agg #[a,b,c,d]) 0).run Tryz.prog W = .ok (.agg #[a,b,c]) W:=by kernel_rfl
theorem field_mn1 (a b c d:Value) (W:World):(Instr.field 139 (.agg #[a,b,c,d]) 1).run Tryz.prog W = .ok d W:=by kernel_rfl
noncomputable abbrev mnV_ (G:List Gn) (ro:Nat→Nat) (v:Int):Tp:=meanV G ro (lvC G ro) v
noncomputable def bnd1 (G:List Gn) (ro:Nat→Nat) (v:Int):Option Pb:=@ite _ (mnV_ G ro v=(1,v,.nil)) (Classical.propDecidable _) none (some (v,mnV_ G ro v))
noncomputable def bndL (G:List Gn) (ro:Nat→Nat) (V:List Int):List Pb:=V.filterMap (bnd1 G ro)
theorem bndL_step (G:List Gn) (ro:Nat→Nat) (V:List Int) (j:Nat) {v:Int}(hv:V[j]? = some v):bndL G ro (V.take (j+1))=bndL G ro (V.take j)++(bnd1 G ro v).toList:=by
 unfold bndL
 rw [List.take_add_one,hv,List.filterMap_append]
 cases h:bnd1 G ro v<;>simp [h]
theorem bndL_len (G:List Gn) (ro:Nat→Nat) (V:List Int):(bndL G ro V).length≤V.length:=List.length_filterMap_le _ _
theorem KnM.keep {B:Nat}{W W':World}{kb:Nat}{G:List Gn}{ro:Nat→Nat}{D:List Nat}{S:Nat→Prop}(h:KnM B W kb G ro D) (he:Else S W W') (h1:¬ S kb) (h2:∀k,S k→B≤k→∀cs:Array Value,W.heap[k]?≠some (Obj.cells cs 25)):KnM B W' kb G ro D:=by
 obtain ⟨tt,Sz,hm,hf⟩:=h
 exact ⟨tt,Sz,hm.block (he.block kb hm.lt h1),fun r hr=>⟨(hf r hr).1,(hf r hr).2.to he.size fun b cs hb hc=>(he.block b (gL hc).1 fun hs=>h2 b hs hb cs hc).trans hc⟩⟩
theorem KnM.below {B:Nat}{W W':World}{kb:Nat}{G:List Gn}{ro:Nat→Nat}{D:List Nat}(h:KnM B W kb G ro D) (hb:Below W.heap.size W W'):KnM B W' kb G ro D:=h.keep (S:=fun _=>False) (Else.of_below hb) id fun _ e=>e.elim
theorem KnM.lt {B:Nat}{W:World}{kb:Nat}{G:List Gn}{ro:Nat→Nat}{D:List Nat}(h:KnM B W kb G ro D):kb<W.heap.size:=by obtain ⟨_,_,hm,_⟩:=h;exact hm.lt
def BnM (B:Nat) (W:World) (l:List Bnd) (P:List Pb):Prop:=l.map pb=P∧∀x∈l,FreshT 25 B W idn x.2.2.2.2 x.2.2.2.1
theorem BnM.keep {B:Nat}{W W':World}{l:List Bnd}{P:List Pb}{S:Nat→Prop}(h:BnM B W l P) (he:Else S W W') (h2:∀k,S k→B≤k→∀cs:Array Value,W.heap[k]?≠some (Obj.cells cs 25)):BnM B W' l P:=
 ⟨h.1,fun x hx=>(h.2 x hx).to he.size fun b cs hb hc=>(he.block b (gL hc).1 fun hs=>h2 b hs hb cs hc).trans hc⟩
def BnPost (O:Nat→Prop) (cb:Nat) (A:Adr) (st:Int) (G:List Gn) (kn:Kn) (nx col ro:Nat→Nat) (fs:Int) (V:List Int) (B kb:Nat) (D:List Nat) (w:World) (x:Ending) (w':World):Prop:=
 ∃(f:Nat) (l:List Bnd) (v:Value),x = .returned v∧ClM O w' cb A st false G.length G kn nx col ro (fs+f)∧f≤21*V.length∧w'.ownsRow w.heap.size 44 4 v l.length (bds l)∧BnM B w' l (bndL G ro V)∧KnM B w' kb G ro D∧Else A.S w w'
section SvJs
variable {O:Nat→Prop}{w:World}{cb:Nat}{A:Adr}{st fs:Int}{G:List Gn}{kn:Kn}{nx col ro:Nat→Nat}{E:List (Nat×Nat)}{B kb:Nat}{D:List Nat}
set_option maxHeartbeats 16000000 in
theorem binds_any (hC:ClM O w cb A st false G.length G kn nx col ro fs) (hfs:0≤fs∧fs≤800000000) (hB:Both G col ro kn E ro) (ha:∀i,i<G.length→AccC G ro (ro i)) (hro:∀i,i<G.length→ro i<G.length) (hG:G.length≤70000)
  (hK:KnM B w kb G ro D) (hBB:∀k,A.D k∨A.F cb k→k<B) (hkb:B≤kb)
  (V:List Int) (v:Value) (hV:RdD (fun k=>¬ A.S k) w 1 v V.length (ints V)) (hVl:V.length≤20000) (hVw:∀x∈V,(Lit.int .i64 x).wf=true) (hin:∀x∈rootsOf G ro V,x∈D):
  Calls Tryz.prog 44 #[.agg #[.pointer (some ⟨cb,0,none⟩),.map (some kb)],v] w (BnPost O cb A st G kn nx col ro fs V B kb D w):=by
 obtain ⟨Av,cv,rfl⟩:=hV.1.form
 have hdg:dg G.length≤21:=Un.dg_le (by omega)
 have hBw:B≤w.heap.size:=by have:=hK.lt;omega
 have H:=kI (aI hC (aI hfs (aI hro (aI hdg (aI hBB (aI hkb (aI hK hBw)))))))
 have HV:=kI (aI hV (aI hVl (aI hVw hin)))
 have HB:=kI (aI hB (aI ha hG))
 clear hC hfs hro hdg hBB hkb hK hV hVl hVw hin hB ha hG hBw
 go_enter Tryz.func44,Tryz.ntmps44
 go_upto_region 2 with fail
 refine wp_world (fun Z=>Below w.heap.size w Z∧Z.heap.size=w.heap.size+1∧Z.heap[w.heap.size]? = some (Obj.cells #[.pointer (some ⟨cb,0,none⟩),.map (some kb)] 80)) ⟨(Below.refl _ _).alloc (Nat.le_refl _) _,by simp,heap_alloc_new w _⟩ ?_
 rintro Z ⟨hb,hz,hx⟩
 have HZ:=kI (aI hb (aI hz hx))
 clear hb hz hx
 go_wp2_with fail
 go_loopw [5,12] (fun s5 s12 wr=>∃(j k:Nat) (l:List Bnd),s12 = .int .i64 (j:Nat)∧j≤V.length∧k≤21*j∧ClM O wr cb A st false G.length G kn nx col ro (fs+k)∧wr.ownsRow (w.heap.size+1) 44 4 s5 l.length (bds l)∧BnM B wr l (bndL G ro (V.take j))∧Else A.S Z wr) (fun _ s _=>V.length-(intOf s).toNat)
 case atStart=>exact ⟨0,0,[],rfl,Nat.zero_le _,Nat.le_refl _,by simpa using H.out.1.below HZ.out.1,World.ownsRow_nil _ _ _ _,⟨rfl,fun x hx=>by cases hx⟩,Else.refl _ _⟩
 case round=>
  obtain ⟨j,k,l,rfl,hj,hk,hC,ho,hM,hE⟩:=hrel
  have hEw:Else A.S w wr:=((Else.of_below HZ.out.1).trans hE)
  have hVr:=HV.out.1.to hEw.size fun b hb hlt=>hEw.block b hlt hb
  obtain ⟨As,cs,rfl,_,_⟩:=Un.own_form ho
  have hlr:l.length≤20000:=by
   have h1:=bndL_len G ro (V.take j)
   rw [←hM.1,List.length_map] at h1
   have h2:=HV.out.2.1
   have h3:(V.take j).length≤V.length:=by rw [List.length_take];omega
   omega
  have hKr:KnM B wr kb G ro D:=H.out.2.2.2.2.2.2.1.keep hEw (fun h=>by have:=H.out.2.2.2.2.1 _ (.inr (.inl h));have:=H.out.2.2.2.2.2.1;omega) fun k h h2=>by have:=H.out.2.2.2.2.1 k (.inr (.inl h));omega
  have hxr:=(hE.block _ (gL HZ.out.2.2).1 (fun h=>by have:=H.out.1.lt (.inr (.inl h));omega)).trans HZ.out.2.2
  have HT:=kI (aI hC (aI ho (aI hE (aI hk (aI hM (aI hlr (aI hVr (aI hKr hxr))))))))
  have s0:wr.cell? ⟨w.heap.size,0,none⟩=some (.pointer (some ⟨cb,0,none⟩)):=cell_of_row wr _ 0 _ _ (0,0) hxr
  clear hC ho hE hk hlr hEw hM hKr hxr
  by_cases hjl:j<V.length
  ·have f1:decide ((j:Int)<(V.length:Int))=true:=decide_eq_true (by omega)
   have f2:decide (j<V.length)=true:=decide_eq_true hjl
   obtain ⟨a,haj⟩:∃a,V[j]? = some a:=⟨_,List.getElem?_eq_getElem hjl⟩
   have haw:=HV.out.2.2.1 a (List.mem_of_getElem? haj)
   obtain ⟨bv,ov,hA,_,hbl,_,z1⟩:=hVr.getI haj
   subst hA
   have HPT:=cpart_cl HT.out.1 (by have:=H.out.2.1;have:=HT.out.2.2.2.1;have:=HV.out.2.1;omega) a haw (fun z hz=>gvar_lt hz)
   have hst:=bndL_step G ro V j haj
   obtain ⟨og,hog⟩:∃o,gvar G a=o:=⟨_,rfl⟩
   rw [hog] at HPT
   have HPT:=kI HPT
   have HJL:=kI (aI hjl (aI haj (aI hst hog)))
   have hjb:j≤20000:=by have:=HV.out.2.1;omega
   clear hVr haj haw hbl hst hog
   go_wp2_with fail
   refine HPT.out.mono ?_
   clear HPT
   rintro x w3 ⟨k3,rfl,hk3,hC3,hE3⟩
   clear s0 z1
   have hl3:=HT.out.2.2.2.1
   have hdg:=H.out.2.2.2.1
   have hkk:k+k3≤21*(j+1):=by omega
   cases og with
   | none=>
    unfold ptV
    dsimp only [Option.map_none]
    go_upto_region 6 with fail
    refine wp_world (fun Y=>Below w3.heap.size w3 Y) ((Below.refl _ _).alloc (Nat.le_refl _) _) ?_
    intro Y hY
    have HF:=kI (aI hkk (aI (hC3.below hY) (hE3.trans (Else.of_below hY))))
    clear hk3 hC3 hE3 hY hkk hl3 hdg
    go_wp2_with fail
    go_roundw
    case rel=>
     have hst:=HJL.out.2.2.1
     have hnone:bnd1 G ro a=none:=by
      unfold bnd1 mnV_ meanV
      rw [HJL.out.2.2.2]
      simp
     rw [hnone] at hst
     simp only [Option.toList_none,List.append_nil] at hst
     refine ⟨j+1,k+k3,l,by go_num,HJL.out.1,HF.out.1,?_,?_,?_,HT.out.2.2.1.trans HF.out.2.2⟩
     ·have e2:fs+((k+k3:Nat):Int)=fs+(k:Nat)+(k3:Nat):=by push_cast;omega
      rw [e2]
      exact HF.out.2.1
     ·exact own_else HT.out.2.1 HF.out.2.2 fun g hg hS=>by have h1:=(HT.out.2.1.lt g hg).1;have:=H.out.1.lt (.inr (.inl hS));omega
     ·rw [hst]
      exact HT.out.2.2.2.2.1.keep HF.out.2.2 fun k h h2=>by have:=H.out.2.2.2.2.1 k (.inr (.inl h));omega
    case measure=>have:=HJL.out.1;simp [intOf];omega
   | some i=>
    unfold ptV
    dsimp only [Option.map_some]
    obtain ⟨r,hr⟩:∃r,ro i=r:=⟨_,rfl⟩
    rw [hr]
    have hil:i<G.length:=gvar_lt HJL.out.2.2.2
    have hrn:r<G.length:=by rw [←hr];exact H.out.2.2.1 i hil
    have hrD:r∈D:=HV.out.2.2.2 r (by
     unfold rootsOf
     exact List.mem_filterMap.2 ⟨a,List.mem_of_getElem? HJL.out.2.1,by rw [HJL.out.2.2.2,Option.map_some,hr]⟩)
    have hma:mnV_ G ro a=mnR G ro r:=by
     unfold mnV_ meanV
     rw [HJL.out.2.2.2,←hr]
    obtain ⟨kd,hkd⟩:∃k,kindO G (kn r).1=k:=⟨_,rfl⟩
    go_upto_region 6 with fail
    refine wp_world (fun Y=>Below w3.heap.size w3 Y∧Y.heap[w3.heap.size]? = some (Obj.cells #[.pointer (some ⟨cb,0,none⟩),.int .i64 (r:Nat)] 136)) ⟨(Below.refl _ _).alloc (Nat.le_refl _) _,heap_alloc_new w3 _⟩ ?_
    rintro Y ⟨hY,hx⟩
    have hEY:=hE3.trans (Else.of_below hY)
    have y0:Y.cell? ⟨w3.heap.size,0,none⟩=some (.pointer (some ⟨cb,0,none⟩)):=cell_of_row Y _ 0 _ _ (0,0) hx
    have y1:Y.cell? ⟨w3.heap.size,1,none⟩=some (.int .i64 (r:Nat)):=cell_of_row Y _ 1 _ _ (0,0) hx
    have HKD:=kI (pkind_cl (hC3.below hY) r hrn)
    rw [hkd] at HKD
    have hvar:kd=0→mnR G ro r=(1,leastV G (kn r).2,.nil)∧∀l,(kn r).2=some l→∃p,G[l]? = some p∧p.1=1:=fun h0=>by
     obtain ⟨a1,a2,l',a3,a4⟩:=mn_var HB.out.1 hil (HB.out.2.1 i hil) (by rw [hr,hkd];exact h0)
     rw [hr] at a1 a3
     exact ⟨a1,fun l2 h2=>by rw [a3] at h2;cases h2;exact a4⟩
    have hnod:kd≠0→(mnR G ro r).1≠1:=fun h0=>by
     obtain ⟨a1,a2⟩:=mn_node HB.out.1 hil (HB.out.2.1 i hil) (by rw [hr,hkd];exact h0)
     rw [hr,hkd] at a1 a2
     rw [a2]
     exact a1
    have HF:=kI (aI hkk (aI (hC3.below hY) (aI hEY hx)))
    have HR:=kI (aI hrn (aI hrD (aI hma (aI hvar hnod))))
    clear hk3 hC3 hE3 hY hkk hl3 hdg hx hEY hil hrn hrD hma hkd hvar hnod hr
    go_wp2_with fail
    refine (show Calls _ _ #[.agg #[.pointer (some ⟨cb,0,none⟩),.int .i64 (r:Nat)]] _ _ from HKD.out).mono ?_
    clear HKD
    rintro x w4 ⟨rfl,hb4⟩
    have hx4:=(hb4.block _ (gL HF.out.2.2.2).1).trans HF.out.2.2.2
    have y0:w4.cell? ⟨w3.heap.size,0,none⟩=some (.pointer (some ⟨cb,0,none⟩)):=cell_of_row w4 _ 0 _ _ (0,0) hx4
    have y1:w4.cell? ⟨w3.heap.size,1,none⟩=some (.int .i64 (r:Nat)):=cell_of_row w4 _ 1 _ _ (0,0) hx4
    have H4:=kI (aI (HF.out.2.1.below hb4) (aI (HF.out.2.2.1.trans (Else.of_below hb4)) hx4))
    clear hb4 hx4
    rcases Classical.em (kd=0) with h0|h0
    have g1:(kd != 0)=false:=by simp [h0]
    obtain ⟨lv,hlv⟩:∃lv,leastV G (kn r).2=lv:=⟨_,rfl⟩
    obtain ⟨hv1,hv2⟩:=HR.out.2.2.2.1 h0
    have HPV:=kI (pvar_cl H4.out.1 r HR.out.1 hv2)
    rw [hlv] at HPV hv1
    have HMV:=kI hv1
    clear h0 hlv hv1 hv2
    go_wp2_with fail
    refine (show Calls _ _ #[.agg #[.pointer (some ⟨cb,0,none⟩),.int .i64 (r:Nat)]] _ _ from HPV.out).mono ?_
    clear HPV
    rintro x w5 ⟨rfl,hb5⟩
    have hx5:=(hb5.block _ (gL H4.out.2.2).1).trans H4.out.2.2
    have H5:=kI (aI (H4.out.1.below hb5) (aI (H4.out.2.1.trans (Else.of_below hb5)) hx5))
    clear hb5 hx5 y0 y1
    rcases Classical.em (lv=a) with hla|hla
    ·have g2:(lv != a)=false:=by simp [hla]
     have HLA:=kI hla
     clear hla
     go_wp2_with fail
     go_roundw
     case rel=>
      have hst:=HJL.out.2.2.1
      have hnone:bnd1 G ro a=none:=by
       unfold bnd1
       exact @if_pos _ (Classical.propDecidable _) (by rw [HR.out.2.2.1,HMV.out,HLA.out]) _ _ _
      rw [hnone] at hst
      simp only [Option.toList_none,List.append_nil] at hst
      refine ⟨j+1,k+k3,l,by go_num,HJL.out.1,HF.out.1,?_,?_,?_,HT.out.2.2.1.trans H5.out.2.1⟩
      ·have e2:fs+((k+k3:Nat):Int)=fs+(k:Nat)+(k3:Nat):=by push_cast;omega
       rw [e2]
       exact H5.out.1
      ·exact own_else HT.out.2.1 H5.out.2.1 fun g hg hS=>by have h1:=(HT.out.2.1.lt g hg).1;have:=H.out.1.lt (.inr (.inl hS));omega
      ·rw [hst]
       exact HT.out.2.2.2.2.1.keep H5.out.2.1 fun k h h2=>by have:=H.out.2.2.2.2.1 k (.inr (.inl h));omega
     case measure=>have:=HJL.out.1;simp [intOf];omega
    have g2:(lv != a)=true:=by simp [hla]
    have HSM:Hid (bnd1 G ro a=some (a,mnR G ro r)):=kI (by
     unfold bnd1
     rw [HR.out.2.2.1]
     exact @if_neg _ (Classical.propDecidable _) (by rw [HMV.out];intro e;exact hla (Prod.mk.inj (Prod.mk.inj e).2).1) _ _ _)
    clear hla
    obtain ⟨Y6,rfl⟩:∃Y6:World,Y6=w5:=⟨_,rfl⟩
    have H6:=H5
    clear H5
    rotate_left
    have g1:(kd != 0)=true:=by simp [h0]
    have HSM:Hid (bnd1 G ro a=some (a,mnR G ro r)):=kI (by
     unfold bnd1
     rw [HR.out.2.2.1]
     exact @if_neg _ (Classical.propDecidable _) (by intro e;exact HR.out.2.2.2.2 h0 (by rw [e])) _ _ _)
    clear h0 y0 y1
    obtain ⟨Y6,rfl⟩:∃Y6:World,Y6=w4:=⟨_,rfl⟩
    have H6:=H4
    clear H4
    all_goals
     obtain ⟨tt,Sz,hm,hft⟩:=HT.out.2.2.2.2.2.2.2.1
     obtain ⟨⟨k1,n1,⟨u1,u2,u3⟩,ps1⟩,htx⟩:∃t,tt r=t:=⟨_,rfl⟩
     obtain ⟨q,hq⟩:∃q,tsz (mnR G ro r)=q:=⟨_,rfl⟩
     have hft1:=hft r HR.out.2.1
     rw [htx] at hft1
     have hrw:(Lit.int .i64 (r:Nat)).wf=true:=by have h:=wrap64_wf (r:Nat);rwa [IntWalk.wrap64_in _ (by have:=HR.out.1;have:=HB.out.2.2;omega)] at h
     have hkS:∀k,A.S k→k≠kb∧k<w.heap.size:=fun k h=>⟨fun e=>by have:=H.out.2.2.2.2.1 k (.inr (.inl h));have:=H.out.2.2.2.2.2.1;omega,H.out.1.lt (.inr (.inl h))⟩
     have hm6:MapF (knF D tt fun r=>tsz (mnR G ro r)) Sz D.length kb Y6:=hm.block (H6.out.2.1.block _ hm.lt fun h=>(hkS _ h).1 rfl)
     have hx6:=(H6.out.2.1.block _ (gL HT.out.2.2.2.2.2.2.2.2).1 (fun h=>by have:=hkS _ h;omega)).trans HT.out.2.2.2.2.2.2.2.2
     have ho6:=own_else HT.out.2.1 H6.out.2.1 fun g hg hS=>by have h1:=(HT.out.2.1.lt g hg).1;have:=hkS g hS;omega
     have hf6:FreshT 25 B Y6 idn ps1 (u1,u2,u3):=hft1.2.to H6.out.2.1.size fun b cs hb hc=>(H6.out.2.1.block b (gL hc).1 fun h=>by have:=H.out.2.2.2.2.1 b (.inr (.inl h));omega).trans hc
     obtain ⟨SS,hSS⟩:∃SS:World→Prop,(fun W=>Else (fun k=>some k=(Value.slice As l.length cs).ownBlock) Y6 W)=SS:=⟨_,rfl⟩
     have hro_:∀k,some k=(Value.slice As l.length cs).ownBlock→w.heap.size+1≤k∧(∀c:Array Value,Y6.heap[k]?≠some (Obj.cells c 136))∧k≠kb:=fun k hk=>⟨(ho6.lt k hk.symm).1,row_not ho6 (by decide) k hk.symm,fun e=>by have h1:=(ho6.lt k hk.symm).1;have:=H.out.2.2.2.2.2.2.1.lt;omega⟩
     have EX:Hid (∀W',SS W'→W'.cell? ⟨w.heap.size,1,none⟩=some (.map (some kb))∧W'.cell? ⟨w3.heap.size,0,none⟩=some (.pointer (some ⟨cb,0,none⟩))∧W'.cell? ⟨w3.heap.size,1,none⟩=some (.int .i64 (r:Nat))∧(Instr.lookup 78 (.map (some kb)) (.int .i64 (r:Nat)) false).run Tryz.prog W' = .ok (.agg #[.int .i64 k1,.int .i64 n1,.slice u1 u2 u3,.int .i64 (q:Nat)]) W'):=kI fun W' hW=>by
      rw [←hSS] at hW
      have hb:=(hW.block _ (gL H6.out.2.2).1 (fun h=>(hro_ _ h).2.1 _ H6.out.2.2)).trans H6.out.2.2
      have hs:=(hW.block _ (gL hx6).1 (fun h=>by have:=(hro_ _ h).1;omega)).trans hx6
      have hl:=(hm6.block (hW.block _ hm6.lt fun h=>(hro_ _ h).2.2 rfl)).look mnTy (r:Nat) hrw
      rw [knF_at HR.out.2.1] at hl
      simp only [htx,hq] at hl
      exact ⟨cell_of_row W' _ 1 _ _ (0,0) hs,cell_of_row W' _ 0 _ _ (0,0) hb,cell_of_row W' _ 1 _ _ (0,0) hb,hl⟩
     have HID:=kI (pid_cl (H6.out.1.below (Below.refl _ Y6).drew) r)
     have HSS:=kI hSS
     have H7:=kI (aI htx (aI hft1 (aI hkS (aI ho6 (aI hf6 hro_)))))
     clear hm hft htx hq hft1 hrw hm6 hx6 ho6 hf6 hkS hro_ hSS
     go_wp2_with fail
     have hB0:Below Y6.heap.size Y6 Y6.drew:=(Below.refl _ _).drew
     have hS:SS Y6.drew:=by rw [←HSS.out];exact Else.of_below hB0
     refine wp_region_held (S:=SS) (by kernel_rfl) ?_
     change wpAnyH _ _ _ _ _ 12 (List.replicate 12 false).toArray _ Y6.drew
     simp only [List.replicate_succ,List.replicate_zero]
     refine tj (i:=0) (some 35) (.slice As l.length cs) rfl hS ?_
     simp only [Act.put,zA,zB,zC]
     refine tj (i:=1) (some 36) (.int .i64 a) rfl hS ?_
     simp only [Act.put,zA,zB,zC]
     refine tj (i:=2) (some 37) (.pointer (some ⟨w.heap.size,1,none⟩)) rfl hS ?_
     simp only [Act.put,zA,zB,zC]
     refine tk (i:=3) (some 38) (.map (some kb)) rfl (fun W hw=>by obtain ⟨n0_,n1_,n2_,n3_⟩:=EX.out W hw;clear hw;go_simp) hS ?_
     simp only [Act.put,zA,zB,zC]
     refine tk (i:=4) (some 39) (.agg #[.pointer (some ⟨cb,0,none⟩),.int .i64 (r:Nat)]) rfl (fun W hw=>by obtain ⟨n0_,n1_,n2_,n3_⟩:=EX.out W hw;clear hw;go_simp) hS ?_
     simp only [Act.put,zA,zB,zC]
     refine aK 5 ?_
     refine ops_call (d:=some 40) rfl (by rfl) (by kernel_rfl) (by go_simp) ((show Calls _ _ #[.agg #[.pointer (some ⟨cb,0,none⟩),.int .i64 (r:Nat)]] _ _ from HID.out).mono ?_)
     rintro y wi ⟨rfl,hbi⟩
     have hBi:Below Y6.heap.size Y6 wi:=hB0.trans hbi
     have hSi:SS wi:=by rw [←HSS.out];exact Else.of_below hBi
     refine ⟨_,rfl,hSi,?_⟩
     simp only [Act.put,zA,zB,zC]
     refine tk (i:=6) (some 41) (.agg #[.int .i64 k1,.int .i64 n1,.slice u1 u2 u3,.int .i64 (q:Nat)]) rfl (fun W hw=>by obtain ⟨n0_,n1_,n2_,n3_⟩:=EX.out W hw;clear hw;go_simp) hSi ?_
     simp only [Act.put,zA,zB,zC]
     refine tk (i:=7) (some 42) (.agg #[.int .i64 k1,.int .i64 n1,.slice u1 u2 u3]) rfl (fun W hw=>by clear hw;have hfl:=field_mn0 (.int .i64 k1) (.int .i64 n1) (.slice u1 u2 u3) (.int .i64 (q:Nat)) W;go_simp) hSi ?_
     simp only [Act.put,zA,zB,zC]
     refine tj (i:=8) (some 43) (.agg #[.int .i64 a,.int .i64 k1,.int .i64 n1,.slice u1 u2 u3]) rfl hSi ?_
     simp only [Act.put,zA,zB,zC]
     have hB2:Below Y6.heap.size Y6 (wi.alloc (.cells #[.int .i64 a,.int .i64 k1,.int .i64 n1,.slice u1 u2 u3] 44)):=hBi.alloc hBi.size _
     have hS2:SS (wi.alloc (.cells #[.int .i64 a,.int .i64 k1,.int .i64 n1,.slice u1 u2 u3] 44)):=by rw [←HSS.out];exact Else.of_below hB2
     refine aK 9 ?_
     refine ops_val (d:=some 44) (v:=.slice (some ⟨wi.heap.size,0,none⟩) 1 1) (w':=wi.alloc (.cells #[.int .i64 a,.int .i64 k1,.int .i64 n1,.slice u1 u2 u3] 44)) rfl (by rfl) (by kernel_rfl) (by clear hS hSi hS2 EX;go_simp) hS2 ?_
     simp only [Act.put,zA,zB,zC]
     have hoi:=own_below H7.out.2.2.2.1 hB2
     obtain ⟨v6,w6,hrun,ho6,hb6,hkt6,hgr6,hat6⟩:=app_bd (wi.alloc (.cells #[.int .i64 a,.int .i64 k1,.int .i64 n1,.slice u1 u2 u3] 44)) (w.heap.size+1) (.slice As l.length cs) l hoi (.slice (some ⟨wi.heap.size,0,none⟩) 1 1) [(a,k1,n1,(u1,u2,u3),ps1)] (rd_new wi [.int .i64 a,.int .i64 k1,.int .i64 n1,.slice u1 u2 u3] 44 4 1 rfl (by unfold maxLen;omega)) (by have:=HT.out.2.2.2.2.2.1;simp;omega) (by have:=(HT.out.2.2.1.size);have:=H6.out.2.1.size;have:=hB2.size;have:=HZ.out.2.1;omega)
     have hE6:Else (fun k=>some k=(Value.slice As l.length cs).ownBlock) Y6 w6:=(Else.of_below hB2).trans (Else.grown hgr6 fun k hk=>hk.symm)
     have hS6:SS w6:=by rw [←HSS.out];exact hE6
     obtain ⟨A6,c6,rfl,_,_⟩:=Un.own_form ho6
     have H8:=kI (aI hE6 (aI ho6 hkt6))
     have HBI:=kI hB2
     clear ho6 hb6 hkt6 hgr6 hat6 hoi hE6
     refine aK 10 ?_
     refine ops_val (d:=some 45) (v:=.slice A6 (l ++ [(a,k1,n1,(u1,u2,u3),ps1)]).length c6) (w':=w6) rfl (by rfl) (by kernel_rfl) (exec_append rfl rfl rfl hrun) hS6 ?_
     simp only [Act.put,zA,zB,zC]
     clear hrun hS hSi hS2 hB0 hBi hB2 hbi
     refine tj (i:=11) (some 5) (.slice A6 (l ++ [(a,k1,n1,(u1,u2,u3),ps1)]).length c6) rfl hS6 ?_
     simp only [Act.put,zA,zB,zC]
     refine wpAnyH_done (by kernel_rfl) ?_ _
     clear hS6 EX HID
     go_wp2_with fail
     go_roundw
     case rel=>
      have hst:=HJL.out.2.2.1
      rw [HSM.out] at hst
      simp only [Option.toList_some] at hst
      obtain ⟨hE6,ho6,hkt6⟩:=H8.out
      obtain ⟨htx,hft1,hkS,ho0,hf6,hro_⟩:=H7.out
      have hnT:∀k,some k=(Value.slice As l.length cs).ownBlock→B≤k→∀c:Array Value,Y6.heap[k]?≠some (Obj.cells c 25):=fun k hk _=>row_not ho0 (by decide) k hk.symm
      refine ⟨j+1,k+k3,l ++ [(a,k1,n1,(u1,u2,u3),ps1)],by go_num,HJL.out.1,HF.out.1,?_,ho6,⟨?_,fun x hx=>?_⟩,?_⟩
      ·have e2:fs+((k+k3:Nat):Int)=fs+(k:Nat)+(k3:Nat):=by push_cast;omega
       rw [e2]
       exact H6.out.1.aside hE6 fun k hk e=>by have:=H.out.1.lt hk;have:=(hro_ k e).1;omega
      ·rw [hst,List.map_append,HT.out.2.2.2.2.1.1,←hft1.1]
       rfl
      ·rcases List.mem_append.1 hx with hx|hx
       ·exact ((HT.out.2.2.2.2.1.keep H6.out.2.1 fun k h h2=>by have:=H.out.2.2.2.2.1 k (.inr (.inl h));omega).keep hE6 hnT).2 x hx
       ·obtain rfl:x=_:=by simpa using hx
        exact hf6.to hE6.size fun b cs hb hc=>(hE6.block b (gL hc).1 fun h=>hnT b h hb cs hc).trans hc
      ·exact (((HT.out.2.2.1.trans H6.out.2.1).mono fun k hk=>.inl hk).trans (hE6.mono fun k hk=>.inr hk)).old (T:=fun k=>A.S k∨some k=(Value.slice As l.length cs).ownBlock) fun k hk=>hk.imp id fun h=>by have:=(hro_ k h).1;have:=HZ.out.2.1;omega
     case measure=>have:=HJL.out.1;simp [intOf];omega
  ·have f1:decide ((j:Int)<(V.length:Int))=false:=decide_eq_false (by omega)
   have f2:decide (j<V.length)=false:=decide_eq_false hjl
   have hje:j=V.length:=by omega
   have HJE:=kI hje
   clear hje hVr s0
   go_wp2_with fail
   obtain ⟨hC,ho,hE,hk,hM,hlr,hVr,hKr,hxr⟩:=HT.out
   rw [HJE.out,List.take_length] at hM
   exact bodyPost_ret (results_tmp rfl _ _ _) rfl ⟨k,l,_,rfl,hC,by have:=HJE.out;omega,own_mono ho (by omega),hM,hKr,(Else.of_below HZ.out.1).trans hE⟩
end SvJs
end
section
open Go.RowKit
open Un (Else StM rowI UFo own_else dg swp wp_world paint)
attribute [local go_sem] Oper.semAt_some
set_option maxRecDepth 100000
theorem tgreat_any (w:World) (s:Nat) (most:Int) (hs:s≤1000000):Calls Tryz.prog 45 #[.int .i64 (s:Nat),.int .i64 most] w fun e w'=>e = .returned (.bool (decide (most<(s:Int))))∧w'=w:=by
 have hne:((s:Int) == 2147483648)=false:=by simp;omega
 obtain ⟨b,hb⟩:∃b,decide (most<(s:Int))=b:=⟨_,rfl⟩
 rw [hb]
 clear hs
 go_enter Tryz.func45,Tryz.ntmps45
 cases b<;>(go_wp2_with fail;exact bodyPost_ret (results_tmp rfl _ _ _) rfl ⟨rfl,rfl⟩)
def SzPost (O:Nat→Prop) (cb:Nat) (A:Adr) (st:Int) (G:List Gn) (kn:Kn) (nx col ro:Nat→Nat) (fs:Int) (B kb:Nat) (D:List Nat) (a:Int) (w:World) (x:Ending) (w':World):Prop:=
 ∃f:Nat,x = .returned (.int .i64 (tsz (mnV_ G ro a):Nat))∧f≤21∧ClM O w' cb A st false G.length G kn nx col ro (fs+f)∧KnM B w' kb G ro D∧Else A.S w w'
section SvKs
variable {O:Nat→Prop}{w:World}{cb:Nat}{A:Adr}{st fs:Int}{G:List Gn}{kn:Kn}{nx col ro:Nat→Nat}{E:List (Nat×Nat)}{B kb:Nat}{D:List Nat}
set_option maxHeartbeats 4000000 in
theorem size_sv (hC:ClM O w cb A st false G.length G kn nx col ro fs) (hfs:0≤fs∧fs≤8000000000000) (hro:∀i,i<G.length→ro i<G.length) (hG:G.length≤70000)
  (hK:KnM B w kb G ro D) (hBB:∀k,A.D k∨A.F cb k→k<B) (hkb:B≤kb) (a:Int) (haw:(Lit.int .i64 a).wf=true) (hin:∀i,gvar G a=some i→ro i∈D):
  Calls Tryz.prog 46 #[.agg #[.pointer (some ⟨cb,0,none⟩),.map (some kb)],.int .i64 a] w (SzPost O cb A st G kn nx col ro fs B kb D a w):=by
 have hdg:dg G.length≤21:=Un.dg_le (by omega)
 have hb0:Below w.heap.size w (w.alloc (.cells #[.pointer (some ⟨cb,0,none⟩),.map (some kb)] 80)):=(Below.refl _ _).alloc (Nat.le_refl _) _
 have hx0:=heap_alloc_new w (.cells #[.pointer (some ⟨cb,0,none⟩),.map (some kb)] 80)
 have HPT:=cpart_cl (hC.below hb0) (by omega) a haw (fun z hz=>gvar_lt hz)
 obtain ⟨og,hog⟩:∃o,gvar G a=o:=⟨_,rfl⟩
 rw [hog] at HPT
 have HPT:=kI HPT
 have hAS:∀k,A.S k→k<w.heap.size∧k<B:=fun k hk=>⟨hC.lt (.inr (.inl hk)),hBB k (.inr (.inl hk))⟩
 have H:=kI (aI hC (aI hro (aI hdg (aI hK (aI hAS (aI hkb (aI hin hog)))))))
 have H0:=kI (aI hb0 hx0)
 have HG:=kI hG
 clear hC hfs hro hdg hK hAS hkb hin hog hb0 hx0 hBB haw hG
 go_enter Tryz.func46,Tryz.ntmps46
 go_wp2_with fail
 refine HPT.out.mono ?_
 clear HPT
 rintro x w3 ⟨k3,rfl,hk3,hC3,hE3⟩
 have hE03:Else A.S w w3:=(Else.of_below H0.out.1).trans hE3
 have hK3:KnM B w3 kb G ro D:=H.out.2.2.2.1.keep hE03 (fun h=>by have:=H.out.2.2.2.2.1 _ h;have:=H.out.2.2.2.2.2.1;omega) fun k h h2=>by have:=H.out.2.2.2.2.1 k h;omega
 have hx3:=(hE3.block _ (gL H0.out.2).1 (fun h=>by have:=H.out.2.2.2.2.1 _ h;omega)).trans H0.out.2
 cases og with
 | none=>
  unfold ptV
  dsimp only [Option.map_none]
  go_upto_region 2 with fail
  refine wp_world (fun Y=>Below w3.heap.size w3 Y) ((Below.refl _ _).alloc (Nat.le_refl _) _) ?_
  intro Y hY
  have HF:=kI (aI (hC3.below hY) (aI (hE03.trans (Else.of_below hY)) (aI (hK3.below hY) hk3)))
  clear hC3 hE3 hE03 hK3 hk3 hY hx3
  go_wp2_with fail
  refine bodyPost_ret (results_tmp rfl _ _ _) rfl ⟨k3,?_,by have:=HF.out.2.2.2;have:=H.out.2.2.1;omega,HF.out.1,HF.out.2.2.1,HF.out.2.1⟩
  unfold mnV_ meanV
  rw [H.out.2.2.2.2.2.2.2]
  rfl
 | some i=>
  unfold ptV
  dsimp only [Option.map_some]
  obtain ⟨r,hr⟩:∃r,ro i=r:=⟨_,rfl⟩
  rw [hr]
  have hil:i<G.length:=gvar_lt H.out.2.2.2.2.2.2.2
  have hrn:r<G.length:=by rw [←hr];exact H.out.2.1 i hil
  have hrD:r∈D:=by rw [←hr];exact H.out.2.2.2.2.2.2.1 i H.out.2.2.2.2.2.2.2
  have hma:mnV_ G ro a=mnR G ro r:=by
   unfold mnV_ meanV
   rw [H.out.2.2.2.2.2.2.2,←hr]
  go_upto_region 2 with fail
  refine wp_world (fun Y=>Below w3.heap.size w3 Y∧Y.heap[w3.heap.size]? = some (Obj.cells #[.pointer (some ⟨cb,0,none⟩),.int .i64 (r:Nat)] 136)) ⟨(Below.refl _ _).alloc (Nat.le_refl _) _,heap_alloc_new w3 _⟩ ?_
  rintro Y ⟨hY,hxY⟩
  obtain ⟨tt,Sz,hm,hft⟩:=hK3.below hY
  obtain ⟨⟨k1,n1,⟨u1,u2,u3⟩,ps1⟩,htx⟩:∃t,tt r=t:=⟨_,rfl⟩
  obtain ⟨q,hq⟩:∃q,tsz (mnR G ro r)=q:=⟨_,rfl⟩
  have hrw:(Lit.int .i64 (r:Nat)).wf=true:=by have h:=wrap64_wf (r:Nat);rwa [IntWalk.wrap64_in _ (by have:=HG.out;omega)] at h
  have hxs:=(hY.block _ (gL hx3).1).trans hx3
  have EX:Hid (∀W',Below Y.heap.size Y W'→W'.cell? ⟨w.heap.size,1,none⟩=some (.map (some kb))∧W'.cell? ⟨w3.heap.size,0,none⟩=some (.pointer (some ⟨cb,0,none⟩))∧W'.cell? ⟨w3.heap.size,1,none⟩=some (.int .i64 (r:Nat))∧(Instr.lookup 78 (.map (some kb)) (.int .i64 (r:Nat)) false).run Tryz.prog W' = .ok (.agg #[.int .i64 k1,.int .i64 n1,.slice u1 u2 u3,.int .i64 (q:Nat)]) W'):=kI fun W' hW=>by
   have hb:=(hW.block _ (gL hxY).1).trans hxY
   have hs:=(hW.block _ (gL hxs).1).trans hxs
   have hl:=(hm.below hW).look mnTy (r:Nat) hrw
   rw [knF_at hrD] at hl
   simp only [htx,hq] at hl
   exact ⟨cell_of_row W' _ 1 _ _ (0,0) hs,cell_of_row W' _ 0 _ _ (0,0) hb,cell_of_row W' _ 1 _ _ (0,0) hb,hl⟩
  have HID:=kI (pid_cl ((hC3.below hY).below (Below.refl _ Y).drew) r)
  have HF:=kI (aI (hC3.below hY) (aI (hE03.trans (Else.of_below hY)) (aI (hK3.below hY) (aI hk3 (aI hq hma)))))
  clear hC3 hE3 hE03 hK3 hk3 hY hx3 hxY hm hft htx hq hrw hxs hil hrn hrD hma hr
  go_wp2_with fail
  have hS:Below Y.heap.size Y Y.drew:=(Below.refl _ _).drew
  refine wp_region_held (S:=(fun W=>Below Y.heap.size Y W)) (by kernel_rfl) ?_
  change wpAnyH _ _ _ _ _ 7 (List.replicate 7 false).toArray _ Y.drew
  simp only [List.replicate_succ,List.replicate_zero]
  refine tj (i:=0) (some 16) (.pointer (some ⟨w.heap.size,1,none⟩)) rfl hS ?_
  simp only [Act.put,zA,zB,zC]
  refine tk (i:=1) (some 17) (.map (some kb)) rfl (fun W hw=>by obtain ⟨n0_,n1_,n2_,n3_⟩:=EX.out W hw;clear hw;go_simp) hS ?_
  simp only [Act.put,zA,zB,zC]
  refine tk (i:=2) (some 18) (.agg #[.pointer (some ⟨cb,0,none⟩),.int .i64 (r:Nat)]) rfl (fun W hw=>by obtain ⟨n0_,n1_,n2_,n3_⟩:=EX.out W hw;clear hw;go_simp) hS ?_
  simp only [Act.put,zA,zB,zC]
  refine aK 3 ?_
  refine ops_call (d:=some 19) rfl (by rfl) (by kernel_rfl) (by go_simp) ((show Calls _ _ #[.agg #[.pointer (some ⟨cb,0,none⟩),.int .i64 (r:Nat)]] _ _ from HID.out).mono ?_)
  rintro y wi ⟨rfl,hbi⟩
  have hSi:Below Y.heap.size Y wi:=hS.trans hbi
  refine ⟨_,rfl,hSi,?_⟩
  simp only [Act.put,zA,zB,zC]
  refine tk (i:=4) (some 20) (.agg #[.int .i64 k1,.int .i64 n1,.slice u1 u2 u3,.int .i64 (q:Nat)]) rfl (fun W hw=>by obtain ⟨n0_,n1_,n2_,n3_⟩:=EX.out W hw;clear hw;go_simp) hSi ?_
  simp only [Act.put,zA,zB,zC]
  refine tk (i:=5) (some 21) (.int .i64 (q:Nat)) rfl (fun W hw=>by clear hw;have hfl:=field_mn1 (.int .i64 k1) (.int .i64 n1) (.slice u1 u2 u3) (.int .i64 (q:Nat)) W;go_simp) hSi ?_
  simp only [Act.put,zA,zB,zC]
  refine tj (i:=6) (some 4) (.int .i64 (q:Nat)) rfl hSi ?_
  simp only [Act.put,zA,zB,zC]
  refine wpAnyH_done (by kernel_rfl) ?_ _
  have HSI:=kI hSi
  clear hS hSi hbi EX HID
  go_wp2_with fail
  obtain ⟨hC,hE,hK,hk,hq,hma⟩:=HF.out
  refine bodyPost_ret (results_tmp rfl _ _ _) rfl ⟨k3,by rw [hma,hq];rfl,by have:=H.out.2.2.1;omega,hC.below HSI.out,hK.below HSI.out,hE.trans (Else.of_below HSI.out)⟩
end SvKs
end
section
open Go.RowKit
theorem own_put {w:World}{base:Nat}{e:TypeId}{size g n c:Nat}{xs:List Value}(h:w.ownsRow base e size (.slice (some ⟨g,0,none⟩) n c) n xs) (i:Nat) (u:Value):(w.setCell ⟨g,i,none⟩ u).ownsRow base e size (.slice (some ⟨g,0,none⟩) n c) n (xs.set i u):=by
 refine ⟨by rw [List.length_set];exact h.1,?_⟩
 rcases h.2 with ⟨h0,h1⟩|⟨g',cap,cur,h0,hb,hg,hnc,hcm,hcs,htake⟩
 ·cases h0
 ·injection h0 with h2 h3 h4
  injection h2 with h2
  injection h2 with h2
  subst h2;subst h4
  refine .inr ⟨g,c,cur.setIfInBounds i u,rfl,hb,heap_setCell_same w g i cur e u hg,hnc,hcm,by simpa using hcs,?_⟩
  rw [Array.toList_setIfInBounds,List.take_set,htake]
theorem bds_cons (b:Bnd) (L:List Bnd):bds (b :: L) = .int .i64 b.1 :: .int .i64 b.2.1 :: .int .i64 b.2.2.1 :: slv b.2.2.2.1 :: bds L:=rfl
theorem bds_set (L:List Bnd):∀(j:Nat) (b:Bnd),L[j]? = some b→∀(k n:Int) (u:Sl) (ps:Fo),(((bds L).set (j*4+1) (.int .i64 k)).set (j*4+2) (.int .i64 n)).set (j*4+3) (slv u)=bds (L.set j (b.1,k,n,u,ps)):=by
 induction L with
 | nil=>intro j b h;simp at h
 | cons x L ih=>
  intro j b h k n u ps
  cases j with
  | zero=>
   obtain rfl:x=b:=by simpa using h
   rfl
  | succ j=>
   have h:L[j]? = some b:=by simpa using h
   rw [List.set_cons_succ,bds_cons,bds_cons,←ih j b h k n u ps]
   rw [show (j+1)*4+1=j*4+1+4 by omega,show (j+1)*4+2=j*4+2+4 by omega,show (j+1)*4+3=j*4+3+4 by omega]
   simp only [List.set_cons_succ]
theorem map_set_same {α β:Type}(f:α→β) (L:List α):∀(j:Nat) (b x:α),L[j]? = some b→f x=f b→(L.set j x).map f=L.map f:=by
 induction L with
 | nil=>intro j b x h;simp at h
 | cons y L ih=>
  intro j b x h hf
  cases j with
  | zero=>
   obtain rfl:y=b:=by simpa using h
   simp [hf]
  | succ j=>
   have h:L[j]? = some b:=by simpa using h
   rw [List.set_cons_succ,List.map_cons,List.map_cons,ih j b x h hf]
theorem mem_set_of {α:Type}{L:List α}{j:Nat}{x y:α}(h:y∈L.set j x):y∈L∨y=x:=by
 rcases List.mem_or_eq_of_mem_set h with h|h
 ·exact .inl h
 ·exact .inr h
theorem pure_size (F:Fo):F.pure.size=F.size:=by
 induction F with
 | nil=>rfl
 | cons k n u ps r i1 i2=>
  show 1+ps.pure.size+r.pure.size=1+ps.size+r.size
  rw [i1,i2]
end
end Go.Proofs.YtmamdiggjghjkaaGreatDoor
