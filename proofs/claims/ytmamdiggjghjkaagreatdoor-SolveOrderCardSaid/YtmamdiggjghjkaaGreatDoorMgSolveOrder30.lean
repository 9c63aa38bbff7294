/- Texts of one proof, one behind the other. -/
import Derived.Test.YtmamdiggjghjkaaGreatDoorMgSolveOrder1
import Derived.Test.YtmamdiggjghjkaaGreatDoorMgSolveOrder29
import Derived.Deep.LoopGhost
import Derived.Deep.QuietTactic
import Derived.BigQuiet
import Derived.WalkMore
import Derived.Shelf.AbstractIn
import Derived.Test.YtmamdiggjghjkaaGreatDoorMgSolveOrder28
import Derived.Test.YtmamdiggjghjkaaGreatDoorMgSolveOrder23
import Derived.Test.YtmamdiggjghjkaaGreatDoorMgSolveOrder2
set_option linter.unusedVariables false
namespace Go.Proofs.YtmamdiggjghjkaaGreatDoor
section
open Go.RowKit
open Un (Else StM rowI UFo own_else dg swp wp_world paint)
attribute [local go_sem] Oper.semAt_some
attribute [local go_sem ↓] builtin_app
set_option maxRecDepth 100000
section SvFs
variable {O:Nat→Prop}{w:World}{cb:Nat}{A:Adr}{st:Int}{n:Nat}{G:List Gn}{kn:Kn}{nx col ro:Nat→Nat}{fs:Int}{gf:FuncId}{lb:Array Value}{T:Nat→Prop}{J:List Nat→World→Prop}
theorem roots_step (V:List Int) (j:Nat) {v:Int}(hv:V[j]? = some v):rootsOf G ro (V.take (j+1))=rootsOf G ro (V.take j)++((gvar G v).map ro).toList:=by
 unfold rootsOf
 rw [List.take_add_one,hv,List.filterMap_append]
 cases h:(gvar G v).map ro<;>simp [h]
theorem ptC_len_ (cb:Nat) (L:List Nat):(ptC cb L).length=L.length*2:=by
 induction L with
 | nil=>rfl
 | cons x L ih=>
  unfold ptC at ih ⊢
  rw [List.flatMap_cons,List.length_append,ih,List.length_cons]
  simp
  omega
theorem roots_len (V:List Int):(rootsOf G ro V).length≤V.length:=List.length_filterMap_le _ _
def EaPost (O:Nat→Prop) (cb:Nat) (A:Adr) (st:Int) (n:Nat) (G:List Gn) (kn:Kn) (nx col ro:Nat→Nat) (T:Nat→Prop) (J:List Nat→World→Prop) (fs:Int) (V:List Int) (w:World) (x:Ending) (w':World):Prop:=
 ∃(D:List Nat) (f:Nat),x = .returned (.tuple #[])∧ClM O w' cb A st false n G kn nx col ro (fs+f)∧f≤21*V.length+168*(2*n+V.length)∧J D w'∧Else (fun k=>A.S k∨T k) w w'∧(∀x∈rootsOf G ro V,x∈D)∧(∀x∈D,x<n)∧D.length≤n
set_option maxHeartbeats 16000000 in
theorem each_any (eg:∀args w,(callFunc gf args).run Tryz.prog w = .ok (.enter gf args) w) (hC:ClM O w cb A st false n G kn nx col ro fs) (hfs:0≤fs∧fs≤500000000) (hn:n≤70000) (hnG:n=G.length) (hP:∀p∈G,p.2.2.2.length≤8∧∀u∈p.2.2.2,u<n) (hro:∀i,i<n→ro i<n)
  (rk:Nat→Nat) (hrk:∀r,r<n→(∃i,i<n∧ro i=r)→∀y∈chR G kn ro r,rk y<rk r)
  (V:List Int) (v:Value) (hV:RdD (fun k=>¬ A.S k) w 1 v V.length (ints V)) (hVl:V.length≤20000) (hVw:∀x∈V,(Lit.int .i64 x).wf=true)
  (hT:VisOk (fun r=>∃i,i<n∧ro i=r) gf lb cb n (chR G kn ro) T J fun W=>∃f,ClM O W cb A st false n G kn nx col ro f) (hTd:∀k,T k→k<w.heap.size∧¬ (A.D k∨A.F cb k)) (hJs:∀D W W',J D W→KJ w A.S W W'→J D W') (hJ:J [] w):
  Calls Tryz.prog 80 #[.pointer (some ⟨cb,0,none⟩),v,.func (.func gf) #[] lb] w (EaPost O cb A st n G kn nx col ro T J fs V w):=by
 obtain ⟨Av,cv,rfl⟩:=hV.1.form
 have hdg:dg n≤21:=Un.dg_le (by omega)
 have hmm:=@run_makeMap Tryz.prog
 have H:=kI (aI hC (aI hfs (aI hn (aI hnG (aI hP (aI hro hdg))))))
 have HD:=kI (aI hT (aI hTd (aI hJs (aI hJ hrk))))
 have HV:=kI (aI hV (aI hVl hVw))
 clear hC hfs hn hnG hP hro hdg hT hTd hJs hJ hV hVl hVw hrk
 go_enter Tryz.func80,Tryz.ntmps80
 go_wp2_with fail
 go_step3
 go_upto_region 2 with fail
 refine wp_world (fun Z=>(∃S,MapF (doneF []) S 0 w.heap.size Z)∧Below w.heap.size w Z∧Z.heap.size=w.heap.size+1) ⟨⟨0,((MapF.made w).ext fun m _=>by unfold doneF;rw [if_neg (by simp)])⟩,(Below.refl _ _).alloc (Nat.le_refl _) _,by simp⟩ ?_
 rintro Z ⟨hm,hb,hz⟩
 have HZ:=kI (aI hm (aI hb hz))
 clear hm hb hz
 go_wp2_with fail
 go_loopw [7,20] (fun s7 s20 wr=>∃j k:Nat,s20 = .int .i64 (j:Nat)∧j≤V.length∧k≤21*j∧ClM O wr cb A st false n G kn nx col ro (fs+k)∧wr.ownsRow (w.heap.size+1) 136 2 s7 (rootsOf G ro (V.take j)).length (ptC cb (rootsOf G ro (V.take j)))∧Else A.S Z wr) (fun _ s _=>V.length-(intOf s).toNat)
 case atStart=>exact ⟨0,0,rfl,Nat.zero_le _,Nat.le_refl _,by simpa using H.out.1.below HZ.out.2.1,World.ownsRow_nil _ _ _ _,Else.refl _ _⟩
 case round=>
  obtain ⟨j,k,rfl,hj,hk,hC,ho,hE⟩:=hrel
  have hEw:Else A.S w wr:=((Else.of_below HZ.out.2.1).trans hE)
  have hVr:=HV.out.1.to hEw.size fun b hb hlt=>hEw.block b hlt hb
  obtain ⟨As,cs,rfl,_,_⟩:=Un.own_form ho
  have hlr:=roots_len (G:=G) (ro:=ro) (V.take j)
  obtain ⟨L,hL⟩:∃L,rootsOf G ro (V.take j)=L:=⟨_,rfl⟩
  rw [hL] at ho hlr ⊢
  have hlr:L.length≤20000:=Nat.le_trans hlr (by rw [List.length_take];have:=HV.out.2.1;omega)
  have HT:=kI (aI hC (aI ho (aI hE (aI hk (aI hL (aI hlr hVr))))))
  clear hC ho hE hk hL hlr hEw
  by_cases hjl:j<V.length
  ·have f1:decide ((j:Int)<(V.length:Int))=true:=decide_eq_true (by omega)
   have f2:decide (j<V.length)=true:=decide_eq_true hjl
   obtain ⟨a,ha⟩:∃a,V[j]? = some a:=⟨_,List.getElem?_eq_getElem hjl⟩
   have haw:=HV.out.2.2 a (List.mem_of_getElem? ha)
   obtain ⟨bv,ov,hA,_,hbl,_,z1⟩:=hVr.getI ha
   subst hA
   have HPT:=cpart_cl HT.out.1 (by have:=H.out.2.1;have:=HT.out.2.2.2.1;have:=HV.out.2.1;omega) a haw (fun z hz=>by rw [H.out.2.2.2.1];exact gvar_lt hz)
   have hst:=roots_step (G:=G) (ro:=ro) V j ha
   rw [HT.out.2.2.2.2.1] at hst
   obtain ⟨og,hog⟩:∃o,gvar G a=o:=⟨_,rfl⟩
   rw [hog] at HPT hst
   have HPT:=kI HPT
   have HJL:=kI (aI hjl (aI ha (aI hst hog)))
   have hjb:j≤20000:=by have:=HV.out.2.1;omega
   clear hVr ha haw hbl hst hog
   go_wp2_with fail
   refine HPT.out.mono ?_
   clear HPT
   rintro x w3 ⟨k3,rfl,hk3,hC3,hE3⟩
   cases og with
   | none=>
    unfold ptV
    dsimp only [Option.map_none]
    go_upto_region 6 with fail
    refine wp_world (fun Y=>Below w3.heap.size w3 Y) ((Below.refl _ _).alloc (Nat.le_refl _) _) ?_
    intro Y hY
    have HF:=kI (aI hk3 (aI (hC3.below hY) (hE3.trans (Else.of_below hY))))
    clear hk3 hC3 hE3 hY z1
    go_wp2_with fail
    go_roundw
    case rel=>
     have hst:=HJL.out.2.2.1
     simp only [Option.map_none,Option.toList_none,List.append_nil] at hst
     refine ⟨j+1,k+k3,by go_num,HJL.out.1,by have:=H.out.2.2.2.2.2.2;have:=HT.out.2.2.2.1;have:=HF.out.1;omega,?_,?_,HT.out.2.2.1.trans HF.out.2.2⟩
     ·have e2:fs+((k+k3:Nat):Int)=fs+(k:Nat)+(k3:Nat):=by push_cast;omega
      rw [e2]
      exact HF.out.2.1
     ·rw [hst]
      exact own_else HT.out.2.1 HF.out.2.2 fun g hg hS=>by have h1:=(HT.out.2.1.lt g hg).1;have:=H.out.1.lt (.inr (.inl hS));omega
    case measure=>have:=HJL.out.1;simp [intOf];omega
   | some i=>
    unfold ptV
    dsimp only [Option.map_some]
    go_upto_region 6 with fail
    refine wp_world (fun Y=>Below w3.heap.size w3 Y∧Y.heap[w3.heap.size]? = some (Obj.cells #[.pointer (some ⟨cb,0,none⟩),.int .i64 (ro i:Nat)] 136)) ⟨(Below.refl _ _).alloc (Nat.le_refl _) _,heap_alloc_new w3 _⟩ ?_
    rintro Y ⟨hY,hx⟩
    have hEY:=hE3.trans (Else.of_below hY)
    have hoY:=own_else HT.out.2.1 hEY fun g hg hS=>by have h1:=(HT.out.2.1.lt g hg).1;have:=H.out.1.lt (.inr (.inl hS));omega
    have y0:Y.cell? ⟨w3.heap.size,0,none⟩=some (.pointer (some ⟨cb,0,none⟩)):=cell_of_row Y _ 0 _ _ (0,0) hx
    have y1:Y.cell? ⟨w3.heap.size,1,none⟩=some (.int .i64 (ro i:Nat)):=cell_of_row Y _ 1 _ _ (0,0) hx
    obtain ⟨g6,c6,w6,hrun,ho6,hgr6,hat6⟩:=app_pt Y (.slice As L.length cs) cb L (w.heap.size+1) (by have:=HZ.out.2.2;have:=HT.out.2.2.1.size;have:=hEY.size;omega) hoY (ro i) (by have:=HT.out.2.2.2.2.2.1;omega)
    have hE6:Else (fun k=>w.heap.size+1≤k∧k<Y.heap.size) Y w6:=(Else.alloc _ _ _).trans (Else.grown hgr6 fun k hk=>(hoY.lt k hk))
    have hC6:=(hC3.below hY).aside hE6 fun q hq hS=>by have:=H.out.1.lt hq;omega
    have HF:=kI (aI hk3 (aI hC6 (aI ho6 (aI hEY hE6))))
    clear hk3 hC3 hE3 hY z1 hx hEY hoY ho6 hgr6 hat6 hE6 hC6
    go_wp2_with fail
    go_roundw
    case rel=>
     have hst:=HJL.out.2.2.1
     simp only [Option.map_some,Option.toList_some] at hst
     refine ⟨j+1,k+k3,by go_num,HJL.out.1,by have:=H.out.2.2.2.2.2.2;have:=HT.out.2.2.2.1;have:=HF.out.1;omega,?_,?_,?_⟩
     ·have e2:fs+((k+k3:Nat):Int)=fs+(k:Nat)+(k3:Nat):=by push_cast;omega
      rw [e2]
      exact HF.out.2.1
     ·rw [hst]
      exact HF.out.2.2.1
     ·refine (((HT.out.2.2.1.trans HF.out.2.2.2.1).mono fun k hk=>.inl hk).trans (HF.out.2.2.2.2.mono fun k hk=>.inr hk)).old (T:=fun k=>A.S k∨(w.heap.size+1≤k∧k<Y.heap.size)) fun k hk=>hk.imp id fun h=>by have:=HZ.out.2.2;omega
    case measure=>have:=HJL.out.1;simp [intOf];omega
  ·have f1:decide ((j:Int)<(V.length:Int))=false:=decide_eq_false (by omega)
   have hje:j=V.length:=by omega
   have HJE:=kI hje
   clear hje hVr
   obtain ⟨hm,hb,hz⟩:=HZ.out
   obtain ⟨hC,ho,hE,hk,hL,hlr,hVr⟩:=HT.out
   rw [HJE.out,List.take_length] at hL
   have hE0:Else A.S w wr:=(Else.of_below hb).trans hE
   have hAS:∀k,A.S k→k<w.heap.size:=fun k hk=>H.out.1.lt (.inr (.inl hk))
   have hin:∀x∈L,x<n∧∃i,i<n∧ro i=x:=fun x hx=>by
    rw [←hL] at hx
    obtain ⟨a,ha,hx⟩:=List.mem_filterMap.1 hx
    obtain ⟨i,hi,rfl⟩:=Option.map_eq_some_iff.1 hx
    have hil:i<n:=by rw [H.out.2.2.2.1];exact gvar_lt hi
    exact ⟨H.out.2.2.2.2.2.1 i hil,i,hil,rfl⟩
   have HI0:Hid (EaI (fun r=>∃i,i<n∧ro i=r) (chR G kn ro) rk n L [] L []∧EaW O cb A st n G kn nx col ro T J w fs (21*V.length+168*(2*n+V.length)) [] L (eaM n [] L []) (.slice As L.length cs) wr):=kI ⟨EaI.start hin,⟨⟨k,hC,by unfold eaM;have:L.length≤V.length:=(by rw [←hL];exact roots_len V);simp;omega⟩,ho,by obtain ⟨S,hm⟩:=hm;exact ⟨S,hm.block (hE.block _ (by omega) fun h=>by have:=hAS _ h;omega)⟩,HD.out.2.2.1 [] w wr HD.out.2.2.2.1 (KJ.of hE0 (Nat.le_refl _) (fun k h _=>h) fun k h1 h2=>by have:=hAS k h1;omega),hE0.mono fun k hk=>.inl hk⟩⟩
   have HL:=kI (aI hL (aI hin hlr))
   clear hm hb hz hC ho hE hk hL hlr hVr hE0 hin hAS HT HJE f1
   go_wp2_with fail
   go_step3
   go_wp2_with fail
   go_loopg [7] (eaM n [] L []) (fun nn s7 wr=>∃D B P:List Nat,EaI (fun r=>∃i,i<n∧ro i=r) (chR G kn ro) rk n L D B P∧EaW O cb A st n G kn nx col ro T J w fs (21*V.length+168*(2*n+V.length)) D (B++P) (eaM n D B P) s7 wr∧eaM n D B P=nn∧B.length≤L.length)
   case atStart=>exact ⟨[],L,[],HI0.out.1,by rw [List.append_nil];exact HI0.out.2,rfl,Nat.le_refl _⟩
   case round=>
    obtain ⟨D,B,P,hI,hW,hnn,hBl⟩:=hrel
    have HI:=kI (aI hI (aI hW (aI hnn hBl)))
    clear hI hW hnn hBl HI0
    rcases List.eq_nil_or_concat (B++P) with hBP|⟨L1,r,hBP⟩
    ·have hW:=HI.out.2.1
     rw [hBP] at hW
     obtain ⟨A7,c7,rfl,_,_⟩:=Un.own_form hW.row
     have HW:=kI hW
     have HBP:=kI hBP
     clear hW hBP
     simp only [List.length_nil]
     go_wp2_with fail
     rw [Exit.noGoto_normal]
     obtain ⟨⟨f,hC,hf⟩,hr,hm,hj,he⟩:=HW.out
     refine bodyPost_end (results_none rfl _ _ _) rfl ⟨D,f,rfl,hC,by omega,hj,he,fun x hx=>?_,HI.out.1.dl,by have:=HI.out.1.few;omega⟩
     rw [HL.out.1] at hx
     rcases HI.out.1.all x hx with h|h
     ·have h2:=HBP.out
      rw [List.append_eq_nil_iff] at h2
      rw [h2.1] at h
      cases h
     ·exact h
    ·rw [List.concat_eq_append] at hBP
     have hW:=HI.out.2.1
     rw [hBP] at hW
     have hl1:(L1 ++ [r]).length=L1.length+1:=by simp
     have hrow:=hW.row
     rw [hl1] at hrow
     obtain ⟨gs,css,rfl,hcss,hbl⟩:=Un.own_shape hrow (by omega)
     obtain ⟨gA,rfl⟩:∃g:Nat,g=gk:=⟨_,rfl⟩
     obtain ⟨wo,rfl⟩:∃wo:World,wo=wr:=⟨_,rfl⟩
     have htop:=HI.out.1.top (r:=r) (by rw [hBP];simp)
     have hll:L1.length+1≤100000:=by
      have h1:(B++P).length=L1.length+1:=by rw [hBP];simp
      rw [List.length_append] at h1
      have h2:=HI.out.1.few
      have h3:=HI.out.2.2.2
      have h4:=H.out.2.2.1
      have h5:=HL.out.2.2
      omega
     have hcs1:L1.length≤css:=by omega
     have hpc:=ptC_at cb (L1 ++ [r]) L1.length r (by simp)
     have z0:wo.cell? ⟨gs,L1.length*2,none⟩=some (.pointer (some ⟨cb,0,none⟩)):=(hrow.cellAt (L1.length*2) (by omega)).trans hpc.1
     have z1:wo.cell? ⟨gs,L1.length*2+1,none⟩=some (.int .i64 (r:Nat)):=(hrow.cellAt (L1.length*2+1) (by omega)).trans hpc.2
     obtain ⟨⟨f,hCo,hfo⟩,_,⟨So,hmo⟩,hjo,heo⟩:=hW
     have hfM:f≤21*V.length+168*(2*n+V.length):=by omega
     have hVb:=HV.out.2.1
     have hnb:=H.out.2.2.1
     have HO:=kI (aI hCo (aI hfo (aI hrow (aI hmo (aI hjo (aI heo (aI (hrow.lt gs rfl) (aI hBP (aI htop hfM)))))))))
     have HLL:=kI hll
     have f1:decide ((0:Int)<(L1.length:Int)+1)=true:=decide_eq_true (by omega)
     have f2:decide ((0:Int)<((L1.length+1:Nat):Int))=true:=decide_eq_true (by omega)
     clear hl1 hrow hbl htop hpc hCo hfo hmo hjo heo hBP hfM hVb hnb
     go_upto_region 12 with fail
     refine wp_world (fun Y=>Below wo.heap.size wo Y∧Y.heap[wo.heap.size]? = some (Obj.cells #[.pointer (some ⟨cb,0,none⟩),.int .i64 (r:Nat)] 136)) ⟨(Below.refl _ _).alloc (Nat.le_refl _) _,heap_alloc_new wo _⟩ ?_
     rintro Y ⟨hY,hx⟩
     have hrn:=HO.out.2.2.2.2.2.2.2.2.1.1
     have HPP:=kI (pparts_cl (HO.out.1.below hY) (by have:=H.out.2.1;have:=HO.out.2.2.2.2.2.2.2.2.2;have:=HV.out.2.1;have:=H.out.2.2.1;omega) H.out.2.2.2.2.2.2 r hrn H.out.2.2.2.2.1)
     have y0:Y.cell? ⟨wo.heap.size,0,none⟩=some (.pointer (some ⟨cb,0,none⟩)):=cell_of_row Y _ 0 _ _ (0,0) hx
     have y1:Y.cell? ⟨wo.heap.size,1,none⟩=some (.int .i64 (r:Nat)):=cell_of_row Y _ 1 _ _ (0,0) hx
     have HY:=kI (aI hY hx)
     clear hY hx z0 z1 hrn
     go_wp2_with fail
     refine (show Calls _ _ #[.agg #[.pointer (some ⟨cb,0,none⟩),.int .i64 (r:Nat)]] _ _ from HPP.out).mono ?_
     clear HPP
     rintro x w2 ⟨v2,k2,rfl,ho2,hk2,hC2,hE2⟩
     have hpl:(partsO G (kn r).1).length=(chR G kn ro r).length:=by simp [chR]
     have ho2:w2.ownsRow Y.heap.size 136 2 v2 (chR G kn ro r).length (ptC cb (chR G kn ro r)):=by rw [hpl] at ho2;exact ho2
     obtain ⟨C,hCC⟩:∃C,chR G kn ro r=C:=⟨_,rfl⟩
     rw [hCC] at ho2
     obtain ⟨A2,c2,rfl,_,_⟩:=Un.own_form ho2
     have hx2:=(hE2.block _ (gL HY.out.2).1 (fun h=>by have:=H.out.1.lt (.inr (.inl h));have:=HO.out.2.2.2.2.2.2.1;omega)).trans HY.out.2
     have hEo2:Else A.S wo w2:=(Else.of_below HY.out.1).trans hE2
     have hC8:C.length≤8:=by rw [←hCC];exact chR_le H.out.2.2.2.2.1 r
     have H2:=kI (aI ho2 (aI hk2 (aI hC2 (aI hEo2 (aI hx2 (aI hCC hC8))))))
     clear ho2 hk2 hC2 hE2 hEo2 hx2 hCC hpl y0 y1
     go_wp2_with fail
     go_loopg [7,50] C.length (fun nn s7 s50 wi=>∃j:Nat,s7 = .slice (some ⟨gs,0,none⟩) (L1.length+1) css∧s50 = .int .i64 (j:Nat)∧j≤C.length∧(∀(t y:Nat),t<j→C[t]? = some y→y∈D)∧Below w2.heap.size w2 wi∧C.length-j=nn)
     case atStart=>exact ⟨0,rfl,rfl,Nat.zero_le _,fun t y h=>by omega,Below.refl _ _,rfl⟩
     case round=>
      obtain ⟨j,rfl,rfl,hj,hdj,hbi,hjn⟩:=hrel
      obtain ⟨wi,rfl⟩:∃wi:World,wi=wr:=⟨_,rfl⟩
      have HJ:=kI (aI hdj (aI hbi hjn))
      clear hdj hbi hjn
      have hxi:=(HJ.out.2.1.block _ (gL H2.out.2.2.2.2.1).1).trans H2.out.2.2.2.2.1
      by_cases hjl:j<C.length
      ·have f3:decide ((j:Int)<(C.length:Int))=true:=decide_eq_true (by omega)
       have f4:decide (j<C.length)=true:=decide_eq_true hjl
       obtain ⟨x,hx⟩:∃x,C[j]? = some x:=⟨_,List.getElem?_eq_getElem hjl⟩
       have hro:=own_below H2.out.1 HJ.out.2.1
       obtain ⟨bp,cp,hsh,_,_⟩:=Un.own_shape hro (by omega)
       injection hsh with hA1 _ hcc1
       subst hA1;subst hcc1
       have hpc:=ptC_at cb C j x hx
       have z0:wi.cell? ⟨bp,j*2,none⟩=some (.pointer (some ⟨cb,0,none⟩)):=(hro.cellAt (j*2) (by omega)).trans hpc.1
       have z1:wi.cell? ⟨bp,j*2+1,none⟩=some (.int .i64 (x:Nat)):=(hro.cellAt (j*2+1) (by omega)).trans hpc.2
       have hxn:x<n:=chR_lt H.out.2.2.2.2.1 H.out.2.2.2.2.2.1 r x (by rw [H2.out.2.2.2.2.2.1];exact List.mem_of_getElem? hx)
       have HX:=kI (aI hx hxn)
       clear hx hro hpc hxn hxi
       go_upto_region 16 with fail
       refine wp_world (fun Yi=>Below wi.heap.size wi Yi∧Yi.heap[wi.heap.size]? = some (Obj.cells #[.pointer (some ⟨cb,0,none⟩),.int .i64 (x:Nat)] 136)) ⟨(Below.refl _ _).alloc (Nat.le_refl _) _,heap_alloc_new wi _⟩ ?_
       rintro Yi ⟨hYi,hxx⟩
       have hb2i:=HJ.out.2.1.trans (hYi.mono HJ.out.2.1.size)
       have HPI:=kI (pid_cl (H2.out.2.2.1.below hb2i) x)
       have y0:Yi.cell? ⟨wi.heap.size,0,none⟩=some (.pointer (some ⟨cb,0,none⟩)):=cell_of_row Yi _ 0 _ _ (0,0) hxx
       have y1:Yi.cell? ⟨wi.heap.size,1,none⟩=some (.int .i64 (x:Nat)):=cell_of_row Yi _ 1 _ _ (0,0) hxx
       have HYI:=kI (aI hb2i hxx)
       clear hYi hb2i hxx z0 z1
       go_wp2_with fail
       refine (show Calls _ _ #[.agg #[.pointer (some ⟨cb,0,none⟩),.int .i64 (x:Nat)]] _ _ from HPI.out).mono ?_
       clear HPI
       rintro y w3 ⟨rfl,hb3⟩
       have hb23:=HYI.out.1.trans (hb3.mono HYI.out.1.size)
       have hx3:=(hb3.block _ (gL HYI.out.2).1).trans HYI.out.2
       have hrw:(Lit.int .i64 (x:Nat)).wf=true:=by have h:=wrap64_wf (x:Nat);rwa [IntWalk.wrap64_in _ (by have:=HX.out.2;have:=H.out.2.2.1;omega)] at h
       have hm3:MapF (doneF D) So D.length w.heap.size w3:=HO.out.2.2.2.1.block ((hb23.block _ (by have:=HO.out.2.2.2.1.lt;have:=H2.out.2.2.2.1.size;omega)).trans (H2.out.2.2.2.1.block _ HO.out.2.2.2.1.lt fun h=>by have:=H.out.1.lt (.inr (.inl h));omega))
       obtain ⟨d,hd⟩:∃d,decide (x∈D)=d:=⟨_,rfl⟩
       have hlk:=hm3.look doneTy (x:Nat) hrw
       rw [doneF_at,hd] at hlk
       have y0:w3.cell? ⟨wi.heap.size,0,none⟩=some (.pointer (some ⟨cb,0,none⟩)):=cell_of_row w3 _ 0 _ _ (0,0) hx3
       have y1:w3.cell? ⟨wi.heap.size,1,none⟩=some (.int .i64 (x:Nat)):=cell_of_row w3 _ 1 _ _ (0,0) hx3
       have H3:=kI (aI hb23 (aI hx3 (aI hd hm3)))
       clear hb23 hx3 hd hm3 hb3 hrw
       cases d with
       | false=>
        have ho3:=own_else HO.out.2.2.1 (H2.out.2.2.2.1.trans (Else.of_below H3.out.1)) (fun g hg hS=>by have h1:=(HO.out.2.2.1.lt g hg).1;have:=H.out.1.lt (.inr (.inl hS));omega)
        have hl1:(L1 ++ [r]).length=L1.length+1:=by simp
        obtain ⟨g6,c6,w6,hrun,ho6,hgr6,hat6⟩:=app_pt w3 (.slice (some ⟨gs,0,none⟩) (L1.length+1) css) cb (L1 ++ [r]) (w.heap.size+1) (by have:=(HO.out.2.2.2.2.2.2.1);have:=H2.out.2.2.2.1.size;have:=H3.out.1.size;omega) (by rw [hl1];exact ho3) x (by rw [hl1];exact HLL.out)
        rw [hl1] at hrun
        have hE6:Else (fun k=>w.heap.size+1≤k∧k<w3.heap.size∧some k=(Value.slice (some ⟨gs,0,none⟩) (L1.length+1) css).ownBlock) w3 w6:=(Else.alloc _ _ _).trans (Else.grown hgr6 fun k hk=>⟨(ho3.lt k hk).1,(ho3.lt k hk).2,hk.symm⟩)
        have HF:=kI (aI ho6 (aI hE6 ho3))
        clear ho3 hl1 ho6 hgr6 hat6 hE6
        go_wp2_with fail
        go_roundg (eaM n D B (P ++ [x]))
        case measure=>
         have hp:=HI.out.1.push (r:=r) (x:=x) (by rw [HO.out.2.2.2.2.2.2.2.1];simp) (of_decide_eq_false H3.out.2.2.1) HX.out.2 (HD.out.2.2.2.2 r HO.out.2.2.2.2.2.2.2.2.1.1 HO.out.2.2.2.2.2.2.2.2.1.2.2.2 x (by rw [H2.out.2.2.2.2.2.1];exact List.mem_of_getElem? HX.out.1)) (by
          obtain ⟨u,hu,he⟩:=chR_ro H.out.2.2.2.2.1 r x (by rw [H2.out.2.2.2.2.2.1];exact List.mem_of_getElem? HX.out.1)
          exact ⟨u,hu,he.symm⟩)
         have h1:=eaM_push hp
         have h2:=HI.out.2.2.1
         omega
        case rel=>
         have hp:=HI.out.1.push (r:=r) (x:=x) (by rw [HO.out.2.2.2.2.2.2.2.1];simp) (of_decide_eq_false H3.out.2.2.1) HX.out.2 (HD.out.2.2.2.2 r HO.out.2.2.2.2.2.2.2.2.1.1 HO.out.2.2.2.2.2.2.2.2.1.2.2.2 x (by rw [H2.out.2.2.2.2.2.1];exact List.mem_of_getElem? HX.out.1)) (by
          obtain ⟨u,hu,he⟩:=chR_ro H.out.2.2.2.2.1 r x (by rw [H2.out.2.2.2.2.2.1];exact List.mem_of_getElem? HX.out.1)
          exact ⟨u,hu,he.symm⟩)
         have h1:=eaM_push hp
         obtain ⟨ho6,hE6,ho3⟩:=HF.out
         have hAS:∀k,A.S k→k<w.heap.size:=fun k hk=>H.out.1.lt (.inr (.inl hk))
         have hwo:w.heap.size≤wo.heap.size:=by have:=(HO.out.2.2.2.2.2.2.1);omega
         have hEo6:Else (fun k=>A.S k∨(w.heap.size+1≤k∧k<w3.heap.size∧some k=(Value.slice (some ⟨gs,0,none⟩) (L1.length+1) css).ownBlock)) wo w6:=((H2.out.2.2.2.1.trans (Else.of_below H3.out.1)).mono fun k hk=>.inl hk).trans (hE6.mono fun k hk=>.inr hk)
         refine ⟨D,B,P ++ [x],hp,⟨⟨f+k2,?_,?_⟩,?_,⟨So,?_⟩,?_,?_⟩,rfl,HI.out.2.2.2⟩
         ·have e2:fs+((f+k2:Nat):Int)=fs+(f:Nat)+(k2:Nat):=by push_cast;omega
          rw [e2]
          exact (H2.out.2.2.1.below H3.out.1).aside hE6 fun k hk he=>by have:=H.out.1.lt hk;omega
         ·have h2:=HO.out.2.1
          have h3:=H2.out.2.1
          omega
         ·have hl1:(L1 ++ [r]).length=L1.length+1:=by simp
          rw [hl1] at ho6
          rw [←List.append_assoc,HO.out.2.2.2.2.2.2.2.1]
          exact ho6
         ·exact H3.out.2.2.2.block (hE6.block _ H3.out.2.2.2.lt fun h=>by omega)
         ·refine HD.out.2.2.1 D wo w6 HO.out.2.2.2.2.1 (KJ.of hEo6 hwo (fun k h h2=>h.elim id fun h=>by omega) fun k h h2 cs=>?_)
          rcases h with h|⟨_,_,h⟩
          ·have:=hAS k h;omega
          ·exact row_not HO.out.2.2.1 (by decide) k h.symm cs
         ·exact ((HO.out.2.2.2.2.2.1.mono (T:=fun k=>(A.S k∨T k)∨w.heap.size≤k) fun k hk=>.inl hk).trans (hEo6.mono fun k hk=>hk.elim (fun h=>.inl (.inl h)) fun h=>.inr (by omega))).old fun k hk=>hk
       | true=>
        go_wp2_with fail
        go_roundg (C.length-(j+1))
        case measure=>have:=HJ.out.2.2;omega
        case rel=>
         refine ⟨j+1,rfl,by go_num,hjl,fun t y ht hy=>?_,H3.out.1,rfl⟩
         rcases Nat.lt_or_ge t j with h1|h1
         ·exact HJ.out.1 t y h1 hy
         ·obtain rfl:t=j:=by omega
          rw [HX.out.1] at hy
          cases hy
          exact of_decide_eq_true H3.out.2.2.1
      ·have f3:decide ((j:Int)<(C.length:Int))=false:=decide_eq_false (by omega)
       have f4:decide (j<C.length)=false:=decide_eq_false hjl
       have hje:j=C.length:=by omega
       have HJE:=kI hje
       have hcsI:(L1.length:Int)≤(css:Int):=by omega
       have hcs3:L1.length≤L1.length+1:=by omega
       have x0:wi.cell? ⟨wo.heap.size,0,none⟩=some (.pointer (some ⟨cb,0,none⟩)):=cell_of_row wi _ 0 _ _ (0,0) hxi
       have x1:wi.cell? ⟨wo.heap.size,1,none⟩=some (.int .i64 (r:Nat)):=cell_of_row wi _ 1 _ _ (0,0) hxi
       have HPI:=kI (pid_cl (H2.out.2.2.1.below HJ.out.2.1) r)
       have HXI:=kI hxi
       clear hje hxi
       go_wp2_with fail
       refine (show Calls _ _ #[.agg #[.pointer (some ⟨cb,0,none⟩),.int .i64 (r:Nat)]] _ _ from HPI.out).mono ?_
       clear HPI
       rintro y w3 ⟨rfl,hb3⟩
       have hb23:=HJ.out.2.1.trans (hb3.mono HJ.out.2.1.size)
       have hx3:=(hb3.block _ (gL HXI.out).1).trans HXI.out
       have hrw:(Lit.int .i64 (r:Nat)).wf=true:=by have h:=wrap64_wf (r:Nat);rwa [IntWalk.wrap64_in _ (by have:=HO.out.2.2.2.2.2.2.2.2.1.1;have:=H.out.2.2.1;omega)] at h
       have hm3:MapF (doneF D) So D.length w.heap.size w3:=HO.out.2.2.2.1.block ((hb23.block _ (by have:=HO.out.2.2.2.1.lt;have:=H2.out.2.2.2.1.size;omega)).trans (H2.out.2.2.2.1.block _ HO.out.2.2.2.1.lt fun h=>by have:=H.out.1.lt (.inr (.inl h));omega))
       obtain ⟨d,hd⟩:∃d,decide (r∈D)=d:=⟨_,rfl⟩
       have hlk:=hm3.look doneTy (r:Nat) hrw
       rw [doneF_at,hd] at hlk
       have x0:w3.cell? ⟨wo.heap.size,0,none⟩=some (.pointer (some ⟨cb,0,none⟩)):=cell_of_row w3 _ 0 _ _ (0,0) hx3
       have x1:w3.cell? ⟨wo.heap.size,1,none⟩=some (.int .i64 (r:Nat)):=cell_of_row w3 _ 1 _ _ (0,0) hx3
       have hall:∀y∈C,y∈D:=fun y hy=>by
        obtain ⟨t,ht,rfl⟩:=List.getElem_of_mem hy
        exact HJ.out.1 t _ (by have:=HJE.out;omega) (List.getElem?_eq_getElem ht)
       have H3:=kI (aI hb23 (aI hx3 (aI hd (aI hm3 (aI hrw hall)))))
       clear hb23 hx3 hd hm3 hb3 hrw hall
       have hAS:Hid (∀k,A.S k→k<w.heap.size):=kI fun k hk=>H.out.1.lt (.inr (.inl hk))
       have hwo:Hid (w.heap.size+1≤wo.heap.size):=kI (by have:=(HO.out.2.2.2.2.2.2.1);omega)
       have HPP:=kI (HI.out.1.pop (r:=r) (by rw [HO.out.2.2.2.2.2.2.2.1];simp) (by rw [H2.out.2.2.2.2.2.1];exact H3.out.2.2.2.2.2))
       have HdL:Hid ((B++P).dropLast=L1):=kI (by rw [HO.out.2.2.2.2.2.2.2.1];simp)
       have HCUT:Hid (wo.ownsRow (w.heap.size+1) 136 2 (.slice (some ⟨gs,0,none⟩) L1.length css) L1.length (ptC cb L1)):=kI (by
        have h:=HO.out.2.2.1
        rw [ptC_app] at h
        exact own_cut h L1.length (by omega) (ptC_len_ cb L1))
       cases d with
       | true=>
        go_wp2_with fail
        obtain ⟨B2,P2,hBP2,hp,hl,hB2⟩:=HPP.out.1 (of_decide_eq_true H3.out.2.2.1)
        go_roundg (eaM n D B2 P2)
        case measure=>
         have h1:=eaM_skip HI.out.1 hp hl
         have h2:=HI.out.2.2.1
         omega
        case rel=>
         have h1:=eaM_skip HI.out.1 hp hl
         have hE3:=H2.out.2.2.2.1.trans (Else.of_below H3.out.1)
         refine ⟨D,B2,P2,hp,⟨⟨f+k2,?_,?_⟩,?_,⟨So,H3.out.2.2.2.1⟩,?_,?_⟩,rfl,Nat.le_trans hB2 HI.out.2.2.2⟩
         ·have e2:fs+((f+k2:Nat):Int)=fs+(f:Nat)+(k2:Nat):=by push_cast;omega
          rw [e2]
          exact H2.out.2.2.1.below H3.out.1
         ·have h2:=HO.out.2.1
          have h3:=H2.out.2.1
          omega
         ·rw [hBP2,HdL.out]
          exact own_else HCUT.out hE3 fun g hg hS=>by have h1:=(HCUT.out.lt g hg).1;have:=hAS.out g hS;omega
         ·exact HD.out.2.2.1 D wo w3 HO.out.2.2.2.2.1 (KJ.of hE3 (by have:=hwo.out;omega) (fun k h _=>h) fun k h h2=>by have:=hAS.out k h;omega)
         ·exact HO.out.2.2.2.2.2.1.trans (hE3.mono fun k hk=>.inl hk)
       | false=>
        have HID:=kI (pid_cl (H2.out.2.2.1.below H3.out.1) r)
        have HX3:=kI (aI x0 x1)
        go_wp2_with fail
        refine (show Calls _ _ #[.agg #[.pointer (some ⟨cb,0,none⟩),.int .i64 (r:Nat)]] _ _ from HID.out).mono ?_
        clear HID
        rintro y w4 ⟨rfl,hb4⟩
        have hx4:=(hb4.block _ (gL H3.out.2.1).1).trans H3.out.2.1
        obtain ⟨w5,hput,hm5,hg5,hs5,_⟩:=(H3.out.2.2.2.1.below hb4).put doneTy (by have:=HI.out.1.few;have:=H.out.2.2.1;omega) (r:Nat) H3.out.2.2.2.2.1 (.bool true)
        rw [doneF_upd] at hm5
        have hE5:Else (fun k=>k=w.heap.size) w4 w5:=Else.grown hg5 fun k hk=>by cases hk;rfl
        have hx5:=(hE5.block _ (gL hx4).1 (fun h=>by have:=hwo.out;omega)).trans hx4
        have x0:w5.cell? ⟨wo.heap.size,0,none⟩=some (.pointer (some ⟨cb,0,none⟩)):=cell_of_row w5 _ 0 _ _ (0,0) hx5
        have x1:w5.cell? ⟨wo.heap.size,1,none⟩=some (.int .i64 (r:Nat)):=cell_of_row w5 _ 1 _ _ (0,0) hx5
        have hEo5:Else (fun k=>A.S k∨k=w.heap.size) wo w5:=(((H2.out.2.2.2.1.trans (Else.of_below H3.out.1)).trans (Else.of_below hb4)).mono fun k hk=>.inl hk).trans (hE5.mono fun k hk=>.inr hk)
        have hrd:r ∉ D:=of_decide_eq_false H3.out.2.2.1
        have hC5:ClM O w5 cb A st false n G kn nx col ro (fs+(f:Nat)+(k2:Nat)):=((H2.out.2.2.1.below H3.out.1).below hb4).aside hE5 fun k hk he=>by have:=H.out.1.lt hk;omega
        have hJ5:J D w5:=HD.out.2.2.1 D wo w5 HO.out.2.2.2.2.1 (KJ.of hEo5 (by have:=hwo.out;omega) (fun k h h2=>h.elim id fun h=>by omega) fun k h h2 cs=>by
         rcases h with h|h
         ·have:=hAS.out k h;omega
         ·subst h
          exact HO.out.2.2.2.1.not_cells _ cs)
        have hrow5:Rd w5 2 (slv (A2,C.length,c2)) (chR G kn ro r).length (ptC cb (chR G kn ro r)):=by
         rw [H2.out.2.2.2.2.2.1]
         refine Rd.of_own (own_else (own_below (own_below H2.out.1 H3.out.1) hb4) hE5 fun g hg he=>?_)
         have h1:=(H2.out.1.lt g hg).1
         have h2:=hwo.out
         have h3:=HY.out.1.size
         omega
        have HVI:=kI (HD.out.1 D w5 r (A2,C.length,c2) ⟨_,hC5⟩ hJ5 hrow5 (by rw [H2.out.2.2.2.2.2.1];exact H3.out.2.2.2.2.2) hrd HO.out.2.2.2.2.2.2.2.2.1.1 HO.out.2.2.2.2.2.2.2.2.1.2.2.2 (by have:=HI.out.1.few;omega))
        have H5:=kI (aI hm5 (aI hEo5 (aI hC5 hrd)))
        clear hb4 hx4 hm5 hg5 hs5 hE5 hx5 hEo5 hrd hC5 hJ5 hrow5 HX3
        go_wp2_with fail
        go_at_fn gf
        refine HVI.out.mono ?_
        clear HVI
        rintro y w6 ⟨rfl,hJ6,hE6⟩
        have H6:=kI (aI hJ6 hE6)
        clear hJ6 hE6
        go_wp2_with fail
        obtain ⟨B2,P2,hBP2,hp,hl,hB2⟩:=HPP.out.2 H5.out.2.2.2
        go_roundg (eaM n (D ++ [r]) B2 P2)
        case measure=>
         have h1:=eaM_pop HI.out.1 hp hl
         have h2:=HI.out.2.2.1
         omega
        case rel=>
         have h1:=eaM_pop HI.out.1 hp hl
         refine ⟨D ++ [r],B2,P2,hp,⟨⟨f+k2,?_,?_⟩,?_,?_,H6.out.1,?_⟩,rfl,Nat.le_trans hB2 HI.out.2.2.2⟩
         ·have e2:fs+((f+k2:Nat):Int)=fs+(f:Nat)+(k2:Nat):=by push_cast;omega
          rw [e2]
          exact H5.out.2.2.1.aside H6.out.2 fun k hk hT=>(HD.out.2.1 k hT).2 hk
         ·have h2:=HO.out.2.1
          have h3:=H2.out.2.1
          omega
         ·rw [hBP2,HdL.out]
          refine own_else (own_else HCUT.out H5.out.2.1 fun g hg hS=>?_) H6.out.2 fun g hg hT=>?_
          ·have h1:=(HCUT.out.lt g hg).1
           rcases hS with hS|hS
           ·have:=hAS.out g hS;omega
           ·omega
          ·have h1:=(HCUT.out.lt g hg).1
           have:=(HD.out.2.1 g hT).1
           omega
         ·rw [List.length_append]
          exact ⟨_,H5.out.1.block (H6.out.2.block _ H5.out.1.lt fun hT=>by have:=(HD.out.2.1 _ hT).1;omega)⟩
         ·refine ((HO.out.2.2.2.2.2.1.mono (T:=fun k=>(A.S k∨T k)∨w.heap.size≤k) fun k hk=>.inl hk).trans ((H5.out.2.1.mono fun k hk=>?_).trans (H6.out.2.mono fun k hk=>.inl (.inr hk)))).old fun k hk=>hk
          rcases hk with hk|hk
          ·exact .inl (.inl hk)
          ·exact .inr (by omega)
end SvFs
end
section
open Go.RowKit
def rowF:List Ty1→Fo
 | []=>.nil
 | t :: l=>.cons t.1 t.2.1 t.2.2.1 t.2.2.2 (rowF l)
def tyc (t:Ty1):List Value:=[.int .i64 t.1,.int .i64 t.2.1,slv t.2.2.1]
def rowC (L:List Ty1):List Value:=L.flatMap tyc
def tpOf (t:Ty1):Tp:=(t.1,t.2.1,t.2.2.2.pure)
theorem rowF_pure (L:List Ty1):(rowF L).pure=tpRow (L.map tpOf):=by
 induction L with
 | nil=>rfl
 | cons t L ih=>
  show Fo.cons _ _ _ _ _=Fo.cons _ _ _ _ _
  rw [ih]
  rfl
theorem rowF_len (L:List Ty1):(rowF L).len=L.length:=by
 induction L with
 | nil=>rfl
 | cons t L ih=>show (rowF L).len+1=_;rw [ih];rfl
theorem rowC_app (L M:List Ty1):rowC (L++M)=rowC L++rowC M:=by simp [rowC]
theorem row_reads {W:World}{b:Nat}(L:List Ty1) (off:Nat) (hc:∀j u,(rowC L)[j]? = some u→W.cell? ⟨b,off+j,none⟩=some u) (hp:∀p∈L,∃g,Img idn p.2.2.2 g∧TyV W.heap.size W g (slv p.2.2.1)):
  ∃G,Img idn (rowF L) G∧TyC W.heap.size W G b off:=by
 induction L generalizing off with
 | nil=>exact ⟨.nil,trivial,tyC_nil⟩
 | cons p r ih=>
  obtain ⟨g,hg,hv⟩:=hp p List.mem_cons_self
  simp only [rowC,List.flatMap_cons,tyc,List.cons_append,List.nil_append] at hc
  obtain ⟨G,hG,hC⟩:=ih (off+3) (fun j u hu=>by
   have:=hc (j+3) u (by simpa [rowC] using hu)
   rwa [show off+(j+3)=off+3+j by omega] at this) fun q hq=>hp q (List.mem_cons_of_mem _ hq)
  exact ⟨.cons p.1 p.2.1 p.2.2.1 g G,⟨rfl,(nm_idn _ _).symm,hg,hG⟩,tyC_cons.2 ⟨hc 0 _ rfl,hc 1 _ rfl,hc 2 _ rfl,hv,hC⟩⟩
theorem fresh_row {T:TypeId}{B:Nat}{w:World}{v:Sl}{L:List Ty1}(hr:w.ownsRow B T 3 (slv v) L.length (rowC L)) (hp:∀p∈L,FreshT T B w idn p.2.2.2 p.2.2.1):FreshT T B w idn (rowF L) v:=by
 intro W hs hc
 have hparts:∀p∈L,∃g,Img idn p.2.2.2 g∧TyV W.heap.size W g (slv p.2.2.1):=fun p hp'=>hp p hp' W hs hc
 rcases hr.2 with ⟨e,h0⟩|⟨g,cap,cur,e,hgB,hh,hnc,hcm,hcs,htake⟩
 ·have:L=[]:=List.eq_nil_of_length_eq_zero h0
  subst this
  exact ⟨.nil,trivial,by rw [e];exact tyV_nil.2 ⟨_,_,rfl⟩⟩
 ·have hW:=hc g cur hgB hh
  have hrow:W.ownsRow B T 3 (slv v) L.length (rowC L):=⟨hr.1,.inr ⟨g,cap,cur,e,hgB,hW,hnc,hcm,hcs,htake⟩⟩
  rw [e] at hrow ⊢
  obtain ⟨G,hG,hC⟩:=row_reads (W:=W) (b:=g) L 0 (fun j u hu=>by
   have:=hrow.cells (g:=g) rfl j u hu
   rwa [Addr.add_lit] at this) hparts
  have hGl:=hG.len
  rw [rowF_len] at hGl
  refine ⟨G,hG,?_⟩
  cases G with
  | nil=>
   simp only [Fo.len] at hGl
   rw [←hGl]
   exact tyV_nil.2 ⟨_,_,rfl⟩
  | cons k n u ps r=>
   simp only [Fo.len] at hGl
   refine tyV_cons.2 ⟨g,0,cap,by rw [←hGl],by omega,hcm,?_,hC⟩
   exact (gL hW).1
theorem Img.pure {f g:Fo}(h:Img idn f g):g.pure=f.pure:=by
 induction f generalizing g with
 | nil=>cases g with
  | nil=>rfl
  | cons _ _ _ _ _=>exact h.elim
 | cons k n u ps r i1 i2=>
  cases g with
  | nil=>exact h.elim
  | cons k' n' u' ps' r'=>
   obtain ⟨rfl,h2,h3,h4⟩:=h
   rw [nm_idn] at h2
   subst h2
   show Fo.cons _ _ _ _ _=Fo.cons _ _ _ _ _
   rw [i1 h3,i2 h4]
end
end Go.Proofs.YtmamdiggjghjkaaGreatDoor
