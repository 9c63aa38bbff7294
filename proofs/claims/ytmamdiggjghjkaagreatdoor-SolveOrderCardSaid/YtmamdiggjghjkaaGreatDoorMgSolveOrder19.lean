/- Texts of one proof, one behind the other. -/
import Derived.Test.YtmamdiggjghjkaaGreatDoorMgSolveOrder1
import Derived.Test.YtmamdiggjghjkaaGreatDoorMgSolveOrder18
import Derived.Deep.LoopGhost
import Derived.Deep.QuietTactic
import Derived.BigQuiet
import Derived.WalkMore
import Derived.Shelf.AbstractIn
set_option linter.unusedVariables false
namespace Go.Proofs.YtmamdiggjghjkaaGreatDoor
section
open Go.RowKit
open Un (Else StM rowI UFo own_else dg swp wp_world paint)
attribute [local go_sem] Oper.semAt_some
attribute [local go_sem ↓] builtin_app
set_option maxRecDepth 100000
section CyEs
variable {O:Nat→Prop}{w:World}{cb:Nat}{A:Adr}{st:Int}{n:Nat}{G:List Gn}{kn:Kn}{nx col ro:Nat→Nat}{fs:Int}{wb mb:Nat}{e:Nat→Option Bool}{sp:Int}{m:Nat}{D:List (Nat×Bool)}{gf:FuncId}{lb:Array Value}{T:Nat→Prop}{J:List (Nat×Bool)→Bool→World→Prop}
set_option maxHeartbeats 16000000 in
theorem from_any (eg:∀args w,(callFunc gf args).run Tryz.prog w = .ok (.enter gf args) w) (hC:ClM O w cb A st false n G kn nx col ro fs) (hW:WkM w wb mb e sp m) (hap:∀k,A.D k∨A.F cb k→k≠wb∧k≠mb) (hne:wb≠mb) (hst:0≤fs∧fs≤50000000000) (hsp:0≤sp∧sp≤10000000000) (hm:m≤10000000) (hdg:dg n≤21) (hn:n≤500000) (r:Nat) (hrn:r<n) (hP:∀p∈G,p.2.2.2.length≤8∧∀u∈p.2.2.2,u<n) (hro:∀i,i<n→ro i<n)
  (hd:Dfs (chR G kn ro) e []) (ht:Told e [] D) (hJ:J D true w) (hT:TellOk gf lb cb n (chR G kn ro) T J fun W=>∃f,ClM O W cb A st false n G kn nx col ro f) (hTd:∀k,T k→k<w.heap.size∧k≠wb∧k≠mb∧¬ (A.D k∨A.F cb k)) (hJs:∀D g (S:Nat→Prop) W W',J D g W→Else S W W'→(∀k,S k→¬ T k)→J D g W') (hlt:∀x b,(x,b)∈D→x<n) (hDn:(D.map (·.1)).Nodup):
  Calls Tryz.prog 139 #[.pointer (some ⟨wb,0,none⟩),.agg #[.pointer (some ⟨cb,0,none⟩),.int .i64 (r:Nat)],.func (.func gf) #[] lb] w (FrPost O cb A st n G kn nx col ro wb mb T J fs sp m D r w):=by
 have hb0:Below w.heap.size w (w.alloc (.cells #[.pointer (some ⟨cb,0,none⟩),.int .i64 (r:Nat)] 136)):=(Below.refl _ _).alloc (Nat.le_refl _) _
 have HSN:=kI (seen_any (hC.below hb0) (hW.keep (S:=fun _=>False) (Else.of_below hb0) id id) (fun k hk=>(hap k hk).1) hne (by omega) r (by omega))
 have hbx:=heap_alloc_new w (.cells #[.pointer (some ⟨cb,0,none⟩),.int .i64 (r:Nat)] 136)
 obtain ⟨ok,hok⟩:∃b,(e r).isSome=b:=⟨_,rfl⟩
 rw [hok] at HSN
 have H:=kI (aI hC (aI hW (aI hap (aI hne (aI hst (aI hsp (aI hm (aI hdg (aI hn (aI hrn (aI hP hro)))))))))))
 have HD:=kI (aI hd (aI ht (aI hJ (aI hT (aI hTd (aI hJs hok))))))
 have HB:=kI (aI hb0 hbx)
 have HU:=kI (aI hlt hDn)
 have HX:Hid (FxI w wb mb A cb T J):=kI ⟨fun k hk=>⟨hC.lt hk,hap k hk⟩,hne,hW.lt.1,hW.lt.2,hTd,hJs⟩
 clear hC hW hap hne hst hsp hm hdg hn hrn hP hro hd ht hJ hT hTd hJs hok hb0 hbx hlt hDn
 go_enter Tryz.func139,Tryz.ntmps139
 go_wp2_with fail
 go_step3
 go_wp2_with fail
 refine HSN.out.mono ?_
 clear HSN
 rintro x w1 ⟨rfl,hW1,hE1⟩
 have hx1:=(hE1.block _ (gL HB.out.2).1 (fun h=>by have:=H.out.2.1.lt;omega)).trans HB.out.2
 have z0:w1.cell? ⟨w.heap.size,0,none⟩=some (.pointer (some ⟨cb,0,none⟩)):=cell_of_row w1 _ 0 _ _ (0,0) hx1
 have z1:w1.cell? ⟨w.heap.size,1,none⟩=some (.int .i64 (r:Nat)):=cell_of_row w1 _ 1 _ _ (0,0) hx1
 have hC1:ClM O w1 cb A st false n G kn nx col ro fs:=(H.out.1.below HB.out.1).aside hE1 fun k hk he=>(H.out.2.2.1 k hk).1 he
 have hE1w:Else (fun k=>k=wb) w w1:=(Else.of_below HB.out.1).trans hE1
 have hJ1:=HD.out.2.2.2.2.2.1 D true _ _ _ HD.out.2.2.1 hE1w (fun k hk hT=>(HD.out.2.2.2.2.1 k hT).2.1 hk)
 have H1:=kI (aI hW1 (aI hC1 (aI hE1w (aI hJ1 hx1))))
 clear hW1 hE1 hx1 hC1 hE1w hJ1
 cases ok with
 | true=>
  go_wp2_with fail
  try rw [Exit.noGoto_ret]
  go_ret
  exact ⟨true,e,[],D,0,1,m,rfl,by simpa using H1.out.2.1,H1.out.1,⟨[],by simp⟩,by simp,by simp [payS],by simp,H1.out.2.2.2.1,H1.out.2.2.1.mono fun k hk=>.inr (.inl hk),HD.out.1,HD.out.2.1,(fun s hs=>by simp at hs),(fun _=>⟨rfl,HD.out.2.2.2.2.2.2⟩),HU.out.2,HU.out.1⟩
 | false=>
  have HBG:=kI (begin_any H1.out.2.1 H1.out.1 H.out.2.2.1 H.out.2.2.2.1 (by have:=H.out.2.2.2.2.1;omega) H.out.2.2.2.2.2.2.2.1 r H.out.2.2.2.2.2.2.2.2.2.1 (by have:=H.out.2.2.2.2.2.2.2.2.1;have:=H.out.2.2.2.2.2.2.2.2.2.1;omega) (by have:=H.out.2.2.2.2.2.2.1;omega) H.out.2.2.2.2.2.2.2.2.2.2.1)
  go_wp2_with fail
  refine HBG.out.mono ?_
  clear HBG
  rintro x w2 ⟨v2,k2,rfl,ho2,hW2,hk2,hC2,hE2⟩
  obtain ⟨A2,c2,rfl,_,_⟩:=Un.own_form ho2
  have hE2w:Else (fun k=>k=wb∨(A.S k∨k=mb)) w w2:=(H1.out.2.2.1.mono fun k hk=>.inl hk).trans (hE2.mono fun k hk=>.inr hk)
  have hJ2:=HD.out.2.2.2.2.2.1 D true _ _ _ H1.out.2.2.2.1 hE2 (fun k hk hT=>by
   obtain ⟨_,_,h3,h4⟩:=HD.out.2.2.2.2.1 k hT
   rcases hk with hk|hk
   ·exact h4 (.inr (.inl hk))
   ·exact h3 hk)
  have H2:=kI (aI ho2 (aI hW2 (aI hk2 (aI hC2 (aI hE2w hJ2)))))
  clear ho2 hW2 hk2 hC2 hE2 hE2w hJ2 z0 z1
  go_wp2_with fail
  refine wp_world (fun Z=>FrI O cb A st n G kn nx col ro wb mb T J w fs sp m D [(r,0,(A2,(partsO G (kn r).1).length,c2))] (upe e r false) D (.slice (some ⟨w2.heap.size,0,none⟩) 1 1) Z) ?_ ?_
  ·obtain ⟨ho2,hW2,hk2,hC2,hE2w,hJ2⟩:=H2.out
   have hbZ:Below w2.heap.size w2 (w2.alloc (.cells #[.pointer (some ⟨cb,0,none⟩),.int .i64 (r:Nat),.slice A2 (partsO G (kn r).1).length c2,.int .i64 0] 184)):=(Below.refl _ _).alloc (Nat.le_refl _) _
   have hw2:w.heap.size≤w2.heap.size:=hE2w.size
   have hen:e r=none:=by cases h:e r with
    | none=>rfl
    | some b=>have:=HD.out.2.2.2.2.2.2;rw [h] at this;cases this
   refine ⟨⟨k2,hC2.below hbZ,by rw [List.length_singleton];omega⟩,⟨1,m+1,hW2.keep (S:=fun _=>False) (Else.of_below hbZ) id id,by simp [payS],by rw [List.length_singleton];omega⟩,?_,?_,⟨[],by simp⟩,HU.out.2,HU.out.1,?_,?_,?_,?_,?_⟩
   ·exact Dfs.push (S:=[]) HD.out.1 (fun a ha=>by simp at ha) hen
   ·exact Told.push (S:=[]) HD.out.2.1 hen
   ·intro s hs
    obtain rfl:s=_:=by simpa using hs
    exact H.out.2.2.2.2.2.2.2.2.2.1
   ·exact ⟨rfl,.inr ⟨w2.heap.size,1,_,rfl,hw2,heap_alloc_new w2 _,Nat.le_refl _,by unfold maxLen;omega,rfl,rfl⟩⟩
   ·intro s hs
    obtain rfl:s=_:=by simpa using hs
    have hl:(chR G kn ro r).length=(partsO G (kn r).1).length:=by simp [chR]
    have h1:RdD (fun b=>w.heap.size≤b) w2 2 (.slice A2 (partsO G (kn r).1).length c2) (partsO G (kn r).1).length (ptC cb (chR G kn ro r)):=RdD.of_own ho2 fun b hb=>Nat.le_trans H1.out.2.2.1.size hb
    show RdD _ _ 2 _ (chR G kn ro r).length _
    rw [hl]
    exact (h1.imp fun b hlt hd=>⟨hd,fun e=>by have e:some w2.heap.size=some b:=e;injection e with e;omega⟩).to hbZ.size fun b _ hlt=>hbZ.block b hlt
   ·exact HD.out.2.2.2.2.2.1 D true (fun _=>False) _ _ hJ2 (Else.of_below hbZ) fun _ h=>h.elim
   ·exact (hE2w.trans (Else.of_below hbZ)).mono fun k hk=>by rcases hk with hk|hk|hk;exact .inr (.inl hk);exact .inl hk;exact .inr (.inr (.inl hk))
  rintro Z hF
  have HF:=kI hF
  clear hF
  go_step3
  go_wp2_with fail
  go_loopg [7,8,9,10,11] (2*open_ n (upe e r false)+1) (fun nn s7 _ _ _ _ wr=>∃(S:List Fr) (e':Nat→Option Bool) (D':List (Nat×Bool)),FrI O cb A st n G kn nx col ro wb mb T J w fs sp m D S e' D' s7 wr∧(e' r).isSome=true∧2*open_ n e'+S.length≤nn)
  case atStart=>exact ⟨_,_,_,HF.out,by simp [upe],by simp⟩
  case round=>
   obtain ⟨S,e',D',hF,her,hnn⟩:=hrel
   have HF:=kI (aI hF (aI her hnn))
   clear hF her hnn
   have hcat:S=[]∨∃S1 rr kk P,S=S1 ++ [(rr,kk,P)]:=by
    rcases List.eq_nil_or_concat S with h|⟨S1,⟨a,b,c⟩,h⟩
    ·exact .inl h
    ·exact .inr ⟨S1,a,b,c,by rw [h,List.concat_eq_append]⟩
   rcases hcat with rfl|⟨S1,rr,kk,⟨P1,L,P3⟩,rfl⟩
   ·obtain ⟨As,cs,rfl,_,_⟩:=Un.own_form HF.out.1.row
    simp only [List.length_nil]
    go_wp2_with fail
    try rw [Exit.noGoto_ret]
    go_ret
    obtain ⟨⟨f,hcl,hf⟩,⟨q,m2,hwk,hq,hm2⟩,hdfs,htold,hmore,hnd,hdlt,_,_,_,htl,hels⟩:=HF.out.1
    exact ⟨true,e',[],D',f,q,m2,rfl,hcl,hwk,hmore,by simpa using hf,by simpa [payS] using hq,by simpa using hm2,htl,hels,hdfs,htold,(fun s hs=>by simp at hs),(fun _=>⟨rfl,HF.out.2.1⟩),hnd,hdlt⟩
   ·obtain ⟨gs,css,hs7,hcss,_⟩:=Un.own_shape HF.out.1.row (by simp)
    have hl1:(S1 ++ [(rr,kk,(P1,L,P3))]).length=S1.length+1:=by simp
    rw [hl1] at hs7 hcss
    subst hs7
    have HCS:=kI hcss
    clear hcss
    have hSn:S1.length+1≤n:=by
     have:=stack_len HF.out.1.dfs HF.out.1.lt
     rwa [hl1] at this
    have hn5:n≤500000:=H.out.2.2.2.2.2.2.2.2.1
    have HSL:=kI hSn
    have f1:decide ((0:Int)<(S1.length:Int)+1)=true:=decide_eq_true (by omega)
    have f2:decide ((0:Int)<((S1.length+1:Nat):Int))=true:=decide_eq_true (by omega)
    clear hl1
    go_wp2_with fail
    obtain ⟨ob,hob⟩:∃ob,S1.length*4=ob:=⟨_,rfl⟩
    simp only [hob]
    have hLP:L=(chR G kn ro rr).length:=part_len (P:=(P1,L,P3)) (HF.out.1.rows (rr,kk,(P1,L,P3)) (by simp))
    have HOB:=kI (aI hob hLP)
    clear hob hLP
    obtain ⟨gA,rfl⟩:∃g:Nat,g=gk:=⟨_,rfl⟩
    obtain ⟨wo,rfl⟩:∃wo:World,wo=wr:=⟨_,rfl⟩
    go_loopg [7,10] L (fun nn s7 _ wr=>∃k':Nat,s7 = .slice (some ⟨gs,0,none⟩) (S1.length+1) css∧FrI O cb A st n G kn nx col ro wb mb T J w fs sp m D (S1 ++ [(rr,k',(P1,L,P3))]) e' D' s7 wr∧k'≤L∧L≤k'+nn)
    case atStart=>exact ⟨kk,rfl,HF.out.1,by have:=HF.out.1.dfs.le (rr,kk) (by simp);rw [HOB.out.2];exact this,by omega⟩
    case round=>
     obtain ⟨k',rfl,hF,hk1,hk2⟩:=hrel
     obtain ⟨q1,q2,q3,c0,c1,d2,c3⟩:=frs_cells hF.row ob HOB.out.1
     have hle:=HF.out.1.dfs.le (rr,kk) (by simp)
     have c2:wr.cell? ⟨gs,ob+2,none⟩=some (.slice P1 L P3):=d2
     clear d2
     have HCE:=kI (aI c0 (aI c1 (aI c2 c3)))
     have HI:=kI (aI hF (aI hk1 (aI hk2 (aI q1 (aI q2 q3)))))
     have h8:=chR_le (kn:=kn) (ro:=ro) H.out.2.2.2.2.2.2.2.2.2.2.1
     have hL8:L≤8:=by rw [HOB.out.2];exact h8 rr
     have hlen:(S1 ++ [(rr,k',((P1,L,P3):Sl))]).length=S1.length+1:=by simp
     obtain ⟨f,hcl,hf⟩:=hF.cl
     obtain ⟨q,m2,hwk,hq,hm2⟩:=hF.wk
     rw [payS_map] at hq
     have hq:q+payD (chR G kn ro) D≤1+payD (chR G kn ro) D'+(payS (S1.map fun x=>(x.1,x.2.1))+(2*k'+1)):=hq
     have hf2:fs+(f:Int)≤60000000000∧0≤fs+(f:Int)∧sp+(q:Int)≤20000000000∧0≤sp+(q:Int)∧m2≤90000000∧D'.length≤n:=by
      have b1:=HSL.out
      have b2:=payD_le h8 D'
      have b3:D'.length≤n:=by
       have:=nodup_len hF.nd (fun x hx=>by
        obtain ⟨s,hs,rfl⟩:=List.mem_map.1 hx
        exact hF.dlt s.1 s.2 hs)
       simpa using this
      have b4:payS (S1.map fun x=>(x.1,x.2.1))≤17*S1.length:=by
       have b4:=payS_le h8 (S1.map fun x=>(x.1,x.2.1)) (fun s hs=>by
       obtain ⟨z,hz,rfl⟩:=List.mem_map.1 hs
       exact hF.dfs.le (z.1,z.2.1) (List.mem_map_of_mem (f:=fun (x:Fr)=>(x.1,x.2.1)) (List.mem_append_left _ hz)))
       rw [List.length_map] at b4
       exact b4
      have b5:=H.out.2.2.2.2.1
      have b6:=H.out.2.2.2.2.2.1
      have b7:=H.out.2.2.2.2.2.2.1
      rw [hlen] at hf hm2
      omega
     rw [hlen] at hf hm2
     have HCW:=kI (aI hcl (aI hf (aI hwk (aI hq (aI hm2 hf2)))))
     clear hcl hf hwk hq hm2 hf2 h8 hlen
     clear hF hk2 hle q1 q2 q3
     by_cases hlt:k'<L
     ·have g1:decide ((k':Int)<(L:Int))=true:=decide_eq_true (by omega)
      have HLT:=kI hlt
      clear hlt
      go_wp2_with fail
      go_quiet (fail)
      go_wp2_with fail
      obtain ⟨bp,offp,x,hP1,hPL,hP3,hxk,hbp,e0,e1⟩:=part_cells (P:=(P1,L,P3)) (L:=chR G kn ro rr) (k:=k') (HI.out.1.rows (rr,k',(P1,L,P3)) (by simp)) (by rw [←HOB.out.2];exact HLT.out)
      have hP1:P1=some ⟨bp,offp,none⟩:=hP1
      clear hPL
      subst hP1
      refine wp_world (fun Z=>Below wr.heap.size wr Z) ⟨rfl,rfl,rfl,Nat.le_refl _,fun _ _=>rfl⟩ ?_
      intro Z hZ
      have hgs:=HI.out.2.2.2.1
      have EX:Hid (∀W,Below Z.heap.size Z W→W.cell? ⟨gs,ob+2,none⟩=some (.slice (some ⟨bp,offp,none⟩) L P3)∧W.cell? ⟨gs,ob+3,none⟩=some (.int .i64 (k':Nat))∧W.cell? ⟨bp,offp+k'*2,none⟩=some (.pointer (some ⟨cb,0,none⟩))∧W.cell? ⟨bp,offp+k'*2+1,none⟩=some (.int .i64 (x:Nat))):=kI fun W hW=>by
       have hb:Below wr.heap.size wr W:=hZ.trans (hW.mono hZ.size)
       exact ⟨(hb.cell (p:=⟨gs,ob+2,none⟩) hgs).trans c2,(hb.cell (p:=⟨gs,ob+3,none⟩) hgs).trans c3,(hb.cell (p:=⟨bp,offp+k'*2,none⟩) hbp).trans e0,(hb.cell (p:=⟨bp,offp+k'*2+1,none⟩) hbp).trans e1⟩
      have HZ:=kI (aI hZ (aI hxk (aI hbp hP3)))
      clear hZ hxk hbp hP3 e0 e1 c0 c1 c2 c3 hgs
      have hS:Below Z.heap.size Z Z.drew:=(Below.refl _ _).drew
      refine wp_region_held (S:=(fun W=>Below Z.heap.size Z W)) (by kernel_rfl) ?_
      change wpAnyH _ _ _ _ _ 12 (List.replicate 12 false).toArray _ Z.drew
      simp only [List.replicate_succ,List.replicate_zero]
      refine tj (i:=0) (some 45) (.pointer (some ⟨gs,ob,none⟩)) rfl hS ?_
      simp only [Act.put,zA,zB,zC]
      refine tj (i:=1) (some 46) (.pointer (some ⟨gs,ob,none⟩)) rfl hS ?_
      simp only [Act.put,zA,zB,zC]
      refine tj (i:=2) (some 47) (.pointer (some ⟨gs,ob+2,none⟩)) rfl hS ?_
      simp only [Act.put,zA,zB,zC]
      refine tk (i:=3) (some 48) (.slice (some ⟨bp,offp,none⟩) L P3) rfl (fun W hw=>by obtain ⟨n0_,n1_,n2_,n3_⟩:=EX.out W hw;clear hw;go_simp) hS ?_
      simp only [Act.put,zA,zB,zC]
      refine tj (i:=4) (some 49) (.pointer (some ⟨gs,ob,none⟩)) rfl hS ?_
      simp only [Act.put,zA,zB,zC]
      refine tj (i:=5) (some 50) (.pointer (some ⟨gs,ob,none⟩)) rfl hS ?_
      simp only [Act.put,zA,zB,zC]
      refine tj (i:=6) (some 51) (.pointer (some ⟨gs,ob+3,none⟩)) rfl hS ?_
      simp only [Act.put,zA,zB,zC]
      refine tk (i:=7) (some 52) (.int .i64 (k':Nat)) rfl (fun W hw=>by obtain ⟨n0_,n1_,n2_,n3_⟩:=EX.out W hw;clear hw;go_simp) hS ?_
      simp only [Act.put,zA,zB,zC]
      refine tk (i:=8) (some 53) (.pointer (some ⟨bp,offp+k'*2,none⟩)) rfl (fun W hw=>by clear hw;have hlt_:=HLT.out;go_simp) hS ?_
      simp only [Act.put,zA,zB,zC]
      refine tk (i:=9) (some 54) (.agg #[.pointer (some ⟨cb,0,none⟩),.int .i64 (x:Nat)]) rfl (fun W hw=>by obtain ⟨n0_,n1_,n2_,n3_⟩:=EX.out W hw;clear hw;go_simp) hS ?_
      simp only [Act.put,zA,zB,zC]
      have hS1:Below Z.heap.size Z (Z.drew.alloc (.cells #[.pointer none,.int .i64 0] 136)):=hS.alloc (Nat.le_refl _) _
      have hS2:Below Z.heap.size Z (Z.drew.alloc (.cells #[.pointer (some ⟨cb,0,none⟩),.int .i64 (x:Nat)] 136)):=hS.alloc (Nat.le_refl _) _
      refine aK 10 ?_
      refine ops_val (d:=some 10) (v:=.pointer (some ⟨Z.drew.heap.size,0,none⟩)) (w':=Z.drew.alloc (.cells #[.pointer none,.int .i64 0] 136)) rfl (by rfl) (by kernel_rfl) (by clear hS hS1 hS2 EX;go_simp) hS1 ?_
      simp only [Act.put,zA,zB,zC]
      refine aK 11 ?_
      obtain ⟨Y,hYe⟩:∃Y,Z.drew.alloc (.cells #[.pointer (some ⟨cb,0,none⟩),.int .i64 (x:Nat)] 136)=Y:=⟨_,rfl⟩
      have hbY:Below Z.heap.size Z Y:=by rw [←hYe];exact hS2
      have hbx:Y.heap[Z.heap.size]? = some (.cells #[.pointer (some ⟨cb,0,none⟩),.int .i64 (x:Nat)] 136):=by rw [←hYe];exact heap_alloc_new Z.drew _
      refine ops_skip (w':=Y) rfl (by kernel_rfl) (by rw [←hYe];clear hYe hbY hbx hS hS1 hS2 EX;go_simp) hbY rfl ?_
      refine wpAnyH_done (by kernel_rfl) ?_ _
      clear hYe
      have hbY0:Below wr.heap.size wr Y:=HZ.out.1.trans (hbY.mono HZ.out.1.size)
      have z0:Y.cell? ⟨Z.heap.size,0,none⟩=some (.pointer (some ⟨cb,0,none⟩)):=cell_of_row Y _ 0 _ _ (0,0) hbx
      have z1:Y.cell? ⟨Z.heap.size,1,none⟩=some (.int .i64 (x:Nat)):=cell_of_row Y _ 1 _ _ (0,0) hbx
      obtain ⟨ok2,hok2⟩:∃b,(e' x).isSome=b:=⟨_,rfl⟩
      have hxn:x<n:=chR_lt H.out.2.2.2.2.2.2.2.2.2.2.1 H.out.2.2.2.2.2.2.2.2.2.2.2 rr x (List.mem_of_getElem? HZ.out.2.1)
      have HSN:=kI (seen_any (HCW.out.1.below hbY0) (HCW.out.2.2.1.keep (S:=fun _=>False) (Else.of_below hbY0) id id) (fun k hk=>(H.out.2.2.1 k hk).1) H.out.2.2.2.1 (by have:=HCW.out.2.2.2.2.2;omega) x (by omega))
      rw [hok2] at HSN
      have HY:=kI (aI hbx (aI hbY0 (aI hok2 hxn)))
      clear hbx hbY hbY0 hok2 hxn hS hS1 hS2 EX
      go_wp2_with fail
      refine HSN.out.mono ?_
      clear HSN
      rintro y w5 ⟨rfl,hW5,hE5⟩
      have hb5:=(hE5.block _ (gL HY.out.1).1 (fun h=>by have:=HCW.out.2.2.1.lt;have:=HZ.out.1.size;omega)).trans HY.out.1
      have hC5:ClM O w5 cb A st false n G kn nx col ro (fs+f):=(HCW.out.1.below HY.out.2.1).aside hE5 fun k hk he=>(H.out.2.2.1 k hk).1 he
      have hE5w:Else (fun k=>k=wb) wr w5:=(Else.of_below HY.out.2.1).trans hE5
      have y0:w5.cell? ⟨Z.heap.size,0,none⟩=some (.pointer (some ⟨cb,0,none⟩)):=cell_of_row w5 _ 0 _ _ (0,0) hb5
      have y1:w5.cell? ⟨Z.heap.size,1,none⟩=some (.int .i64 (x:Nat)):=cell_of_row w5 _ 1 _ _ (0,0) hb5
      have H5:=kI (aI hW5 (aI hC5 (aI hE5w hb5)))
      clear hW5 hE5 hb5 hC5 hE5w z0 z1
      cases ok2 with
      | false=>
       have HBG:=kI (begin_any H5.out.2.1 H5.out.1 H.out.2.2.1 H.out.2.2.2.1 (by have:=HCW.out.2.2.2.2.2;omega) H.out.2.2.2.2.2.2.2.1 x HY.out.2.2.2 (by have:=HY.out.2.2.2;omega) (by have:=HCW.out.2.2.2.2.2;omega) H.out.2.2.2.2.2.2.2.2.2.2.1)
       go_wp2_with fail
       refine HBG.out.mono ?_
       clear HBG
       rintro y w6 ⟨v6,k6,rfl,ho6,hW6,hk6,hC6,hE6⟩
       obtain ⟨A6,c6,rfl,_,_⟩:=Un.own_form ho6
       have hE6w:Else (fun k=>k=wb∨(A.S k∨k=mb)) wr w6:=(H5.out.2.2.1.mono fun k hk=>.inl hk).trans (hE6.mono fun k hk=>.inr hk)
       have hlen:(S1 ++ [(rr,k',((some ⟨bp,offp,none⟩,L,P3):Sl))]).length=S1.length+1:=by simp
       have hrow6:=own_else HI.out.1.row hE6w fun k hk he=>by
        have hk:some gs=some k:=hk
        injection hk with hk
        have h1:=HI.out.2.2.2.2.1
        rcases he with he|he|he
        ·have:=HX.out.wl;omega
        ·have:=(HX.out.ap k (.inr (.inl he))).1;omega
        ·have:=HX.out.ml;omega
       have hchx:(chR G kn ro x).length=(partsO G (kn x).1).length:=by simp [chR]
       obtain ⟨g7,c7,w7,hrun,ho7,hg7,hat⟩:=app_fr w6 (.slice (some ⟨gs,0,none⟩) (S1.length+1) css) cb (S1 ++ [(rr,k',(some ⟨bp,offp,none⟩,L,P3))]) w.heap.size (Nat.le_trans HI.out.1.els.size hE6w.size) hrow6 (x,0,(A6,(partsO G (kn x).1).length,c6)) (by rw [hlen];have:=HSL.out;omega)
       rw [hlen] at hrun ho7
       have hrun:(app_ #[222,222] 222 #[.slice (some ⟨gs,0,none⟩) (S1.length+1) css,.slice (some ⟨w6.heap.size,0,none⟩) 1 1]).run Tryz.prog (w6.alloc (.cells #[.pointer (some ⟨cb,0,none⟩),.int .i64 (x:Nat),.slice A6 (partsO G (kn x).1).length c6,.int .i64 0] 184)) = .ok (.slice (some ⟨g7,0,none⟩) (S1.length+1+1) c7) w7:=hrun
       have hen:e' x=none:=by
        have h1:=HY.out.2.2.1
        cases h:e' x with
        | none=>rfl
        | some b=>rw [h] at h1;cases h1
       have hF7:=HI.out.1.push HX.out (f:=f) (q:=q) (m2:=m2) hE6w hC6 hk6 HCW.out.2.1 hW6 HCW.out.2.2.2.1 HCW.out.2.2.2.2.1 hen HY.out.2.2.2 HZ.out.2.1 (P6:=(A6,(partsO G (kn x).1).length,c6)) (B6:=w5.heap.size) (by rw [hchx];exact ho6) H5.out.2.2.1.size ho7 hg7 (by
        rcases hat with h|h
        ·have h:some gs=some g7:=h
         injection h with h
         exact .inl h
        ·exact .inr h)
       have hop:=open_upe (n:=n) HY.out.2.2.2 hen false
       have H7:=kI (aI hF7 hop)
       clear hE6w hlen hrow6 hchx ho7 hg7 hat hen hF7 hop ho6 hW6 hk6 hC6 hE6
       go_wp2_with fail
       go_roundg (2*open_ n (upe e' x false)+(S1.length+1+1))
       case measure=>
        have h1:=HF.out.2.2
        have h2:=H7.out.2
        simp at h1
        omega
       case rel=>exact ⟨_,_,_,H7.out.1,by
        have h3:=HF.out.2.1
        unfold upe
        split
        ·rfl
        ·exact h3,by simp⟩
      | true=>
       obtain ⟨bx,hbx⟩:=Option.isSome_iff_exists.1 HY.out.2.2.1
       have HB12:=kI hbx
       clear hbx
       cases bx with
       | true=>
        obtain ⟨zz,hmap⟩:=H5.out.1.2
        have hrw:(Lit.int .i64 (x:Nat)).wf=true:=by have h:=wrap64_wf (x:Nat);rwa [IntWalk.wrap64_in _ (by have:=HY.out.2.2.2;omega)] at h
        have hw5:=H5.out.1.1
        have hb5:=H5.out.2.2.2
        have EX:Hid (∀W,Below w5.heap.size w5 W→W.cell? ⟨wb,0,none⟩=some (.map (some mb))∧W.cell? ⟨Z.heap.size,0,none⟩=some (.pointer (some ⟨cb,0,none⟩))∧W.cell? ⟨Z.heap.size,1,none⟩=some (.int .i64 (x:Nat))∧(Instr.lookup 100 (.map (some mb)) (.int .i64 (x:Nat)) false).run Tryz.prog W = .ok (.bool true) W):=kI fun W hW=>by
         have hw:=(hW.block _ (gL hw5).1).trans hw5
         have hb:=(hW.block _ (gL hb5).1).trans hb5
         have hl:=(hmap.below hW).look endsTy (x:Nat) hrw
         rw [endF_at,HB12.out] at hl
         exact ⟨cell_of_row W _ 0 _ _ (0,0) hw,cell_of_row W _ 0 _ _ (0,0) hb,cell_of_row W _ 1 _ _ (0,0) hb,hl⟩
        have hC5:=H5.out.2.1
        have HID:Hid (∀W,Below w5.heap.size w5 W→Calls Tryz.prog 84 #[.agg #[.pointer (some ⟨cb,0,none⟩),.int .i64 (x:Nat)]] W fun e w'=>e = .returned (.int .i64 (x:Nat))∧Below W.heap.size W w'):=kI fun W hW=>pid_cl (hC5.below hW) x
        clear hmap hrw hw5 hb5 hC5 y0 y1
        go_wp2_with fail
        have hS:Below w5.heap.size w5 w5.drew:=(Below.refl _ _).drew
        refine wp_region_held (S:=(fun W=>Below w5.heap.size w5 W)) (by kernel_rfl) ?_
        change wpAnyH _ _ _ _ _ 8 (List.replicate 8 false).toArray _ w5.drew
        simp only [List.replicate_succ,List.replicate_zero]
        refine tj (i:=0) (some 65) (.pointer (some ⟨wb,0,none⟩)) rfl hS ?_
        simp only [Act.put,zA,zB,zC]
        refine tj (i:=1) (some 66) (.pointer (some ⟨wb,0,none⟩)) rfl hS ?_
        simp only [Act.put,zA,zB,zC]
        refine tj (i:=2) (some 67) (.pointer (some ⟨wb,0,none⟩)) rfl hS ?_
        simp only [Act.put,zA,zB,zC]
        refine tk (i:=3) (some 68) (.map (some mb)) rfl (fun W hw=>by obtain ⟨n0_,n1_,n2_,n3_⟩:=EX.out W hw;clear hw;go_simp) hS ?_
        simp only [Act.put,zA,zB,zC]
        refine tk (i:=4) (some 69) (.agg #[.pointer (some ⟨cb,0,none⟩),.int .i64 (x:Nat)]) rfl (fun W hw=>by obtain ⟨n0_,n1_,n2_,n3_⟩:=EX.out W hw;clear hw;go_simp) hS ?_
        simp only [Act.put,zA,zB,zC]
        refine aK 5 ?_
        refine ops_call (d:=some 70) rfl (by rfl) (by kernel_rfl) (by go_simp) ((HID.out _ hS).mono ?_)
        rintro y w6 ⟨rfl,hb6⟩
        have hS6:Below w5.heap.size w5 w6:=hS.trans (hb6.mono hS.size)
        refine ⟨_,rfl,hS6,?_⟩
        simp only [Act.put,zA,zB,zC]
        refine tk (i:=6) (some 71) (.bool true) rfl (fun W hw=>by obtain ⟨n0_,n1_,n2_,n3_⟩:=EX.out W hw;clear hw;go_simp) hS6 ?_
        simp only [Act.put,zA,zB,zC]
        refine tj (i:=7) (some 72) (.bool false) rfl hS6 ?_
        simp only [Act.put,zA,zB,zC]
        refine wpAnyH_done (by kernel_rfl) ?_ _
        have hE6:Else (fun k=>k=wb) wr w6:=H5.out.2.2.1.trans (Else.of_below hS6)
        have hW6:=H5.out.1.keep (S:=fun _=>False) (Else.of_below hS6) id id
        have hC6:ClM O w6 cb A st false n G kn nx col ro (fs+f):=H5.out.2.1.below hS6
        have H6:=kI (aI hE6 (aI hW6 hC6))
        clear hE6 hW6 hC6 hS hS6 hb6 EX HID
        have hgsb:=H6.out.1.block gs HI.out.2.2.2.1 (fun h=>by have h1:=HX.out.wl;have h2:=HI.out.2.2.2.2.1;have h:gs=wb:=h;omega)
        have c3:w6.cell? ⟨gs,ob+3,none⟩=some (.int .i64 (k':Nat)):=(World.cell?_of_block hgsb).trans HCE.out.2.2.2
        have cf:w6.frozen? ⟨gs,ob+3,none⟩=false:=by
         have h:=HI.out.2.2.2.2.2
         simp only [World.frozen?] at h ⊢
         rw [hgsb]
         exact h
        have hk8:k'≤1000:=by have:=HLT.out;omega
        have hF6:=HI.out.1.step HX.out (f:=f) (q:=q) (m2:=m2) H6.out.1 H6.out.2.2 HCW.out.2.1 H6.out.2.1 HCW.out.2.2.2.1 HCW.out.2.2.2.2.1 HZ.out.2.1 HB12.out HOB.out.1
        have HF6:=kI hF6
        clear hF6 hgsb
        go_wp2_with fail
        go_roundg (L-(k'+1))
        case measure=>have h1:=HI.out.2.2.1;have h2:=HLT.out;omega
        case rel=>exact ⟨k'+1,rfl,HF6.out,HLT.out,by omega⟩
       | false=>
        obtain ⟨zz,hmap⟩:=H5.out.1.2
        have hrw:(Lit.int .i64 (x:Nat)).wf=true:=by have h:=wrap64_wf (x:Nat);rwa [IntWalk.wrap64_in _ (by have:=HY.out.2.2.2;omega)] at h
        have hw5:=H5.out.1.1
        have hb5:=H5.out.2.2.2
        have EX:Hid (∀W,Below w5.heap.size w5 W→W.cell? ⟨wb,0,none⟩=some (.map (some mb))∧W.cell? ⟨Z.heap.size,0,none⟩=some (.pointer (some ⟨cb,0,none⟩))∧W.cell? ⟨Z.heap.size,1,none⟩=some (.int .i64 (x:Nat))∧(Instr.lookup 100 (.map (some mb)) (.int .i64 (x:Nat)) false).run Tryz.prog W = .ok (.bool false) W):=kI fun W hW=>by
         have hw:=(hW.block _ (gL hw5).1).trans hw5
         have hb:=(hW.block _ (gL hb5).1).trans hb5
         have hl:=(hmap.below hW).look endsTy (x:Nat) hrw
         rw [endF_at,HB12.out] at hl
         exact ⟨cell_of_row W _ 0 _ _ (0,0) hw,cell_of_row W _ 0 _ _ (0,0) hb,cell_of_row W _ 1 _ _ (0,0) hb,hl⟩
        have hC5:=H5.out.2.1
        have HID:Hid (∀W,Below w5.heap.size w5 W→Calls Tryz.prog 84 #[.agg #[.pointer (some ⟨cb,0,none⟩),.int .i64 (x:Nat)]] W fun e w'=>e = .returned (.int .i64 (x:Nat))∧Below W.heap.size W w'):=kI fun W hW=>pid_cl (hC5.below hW) x
        clear hmap hrw hw5 hb5 hC5 y0 y1
        go_wp2_with fail
        have hS:Below w5.heap.size w5 w5.drew:=(Below.refl _ _).drew
        refine wp_region_held (S:=(fun W=>Below w5.heap.size w5 W)) (by kernel_rfl) ?_
        change wpAnyH _ _ _ _ _ 8 (List.replicate 8 false).toArray _ w5.drew
        simp only [List.replicate_succ,List.replicate_zero]
        refine tj (i:=0) (some 65) (.pointer (some ⟨wb,0,none⟩)) rfl hS ?_
        simp only [Act.put,zA,zB,zC]
        refine tj (i:=1) (some 66) (.pointer (some ⟨wb,0,none⟩)) rfl hS ?_
        simp only [Act.put,zA,zB,zC]
        refine tj (i:=2) (some 67) (.pointer (some ⟨wb,0,none⟩)) rfl hS ?_
        simp only [Act.put,zA,zB,zC]
        refine tk (i:=3) (some 68) (.map (some mb)) rfl (fun W hw=>by obtain ⟨n0_,n1_,n2_,n3_⟩:=EX.out W hw;clear hw;go_simp) hS ?_
        simp only [Act.put,zA,zB,zC]
        refine tk (i:=4) (some 69) (.agg #[.pointer (some ⟨cb,0,none⟩),.int .i64 (x:Nat)]) rfl (fun W hw=>by obtain ⟨n0_,n1_,n2_,n3_⟩:=EX.out W hw;clear hw;go_simp) hS ?_
        simp only [Act.put,zA,zB,zC]
        refine aK 5 ?_
        refine ops_call (d:=some 70) rfl (by rfl) (by kernel_rfl) (by go_simp) ((HID.out _ hS).mono ?_)
        rintro y w6 ⟨rfl,hb6⟩
        have hS6:Below w5.heap.size w5 w6:=hS.trans (hb6.mono hS.size)
        refine ⟨_,rfl,hS6,?_⟩
        simp only [Act.put,zA,zB,zC]
        refine tk (i:=6) (some 71) (.bool false) rfl (fun W hw=>by obtain ⟨n0_,n1_,n2_,n3_⟩:=EX.out W hw;clear hw;go_simp) hS6 ?_
        simp only [Act.put,zA,zB,zC]
        refine tj (i:=7) (some 72) (.bool true) rfl hS6 ?_
        simp only [Act.put,zA,zB,zC]
        refine wpAnyH_done (by kernel_rfl) ?_ _
        have hE6:Else (fun k=>k=wb) wr w6:=H5.out.2.2.1.trans (Else.of_below hS6)
        have hW6:=H5.out.1.keep (S:=fun _=>False) (Else.of_below hS6) id id
        have hC6:ClM O w6 cb A st false n G kn nx col ro (fs+f):=H5.out.2.1.below hS6
        have H6:=kI (aI hE6 (aI hW6 hC6))
        clear hE6 hW6 hC6 hS hS6 hb6 EX HID
        have hk8:k'≤1000:=by have:=HLT.out;omega
        have hnacc:¬ Acc (Chl (chR G kn ro)) rr:=by
         have hm0:(S1 ++ [(rr,k',((some ⟨bp,offp,none⟩,L,P3):Sl))]).map (fun x:Fr=>(x.1,x.2.1))=S1.map (fun x:Fr=>(x.1,x.2.1)) ++ [(rr,k')]:=by simp
         have hd:=HI.out.1.dfs
         rw [hm0] at hd
         exact hd.stuck HZ.out.2.1 HB12.out
        have HW7:Hid (WkM w6 wb mb e' (sp+((q+1:Nat):Int)) m2∧Else (fun k=>k=wb) wr w6∧q+1+payD (chR G kn ro) D≤1+payD (chR G kn ro) D'+payS (S1.map fun x=>(x.1,x.2.1))+(2*(chR G kn ro rr).length+1)∧AcB (chR G kn ro) rr D' false):=kI ⟨by
          have e1:sp+((q+1:Nat):Int)=sp+q+1:=by push_cast;omega
          rw [e1]
          exact H6.out.2.1,H6.out.1,by have h1:=HCW.out.2.2.2.1;have h2:=HLT.out;have h3:=HOB.out.2;omega,⟨(fun h=>by cases h),(fun _=>hnacc),(fun h=>by cases h)⟩⟩
        clear hnacc
        obtain ⟨Y7,hY7⟩:∃Y7,Y7=w6:=⟨_,rfl⟩
        subst hY7
        have HKL:Hid (k'<L):=HLT
        go_wp2_with fail
        have hE7:=HW7.out.2.1
        have hgsb:=hE7.block gs HI.out.2.2.2.1 (fun h=>by have h1:=HX.out.wl;have h2:=HI.out.2.2.2.2.1;have h:gs=wb:=h;omega)
        have c0:Y7.cell? ⟨gs,ob,none⟩=some (.pointer (some ⟨cb,0,none⟩)):=(World.cell?_of_block hgsb).trans HCE.out.1
        have c1:Y7.cell? ⟨gs,ob+1,none⟩=some (.int .i64 (rr:Nat)):=(World.cell?_of_block hgsb).trans HCE.out.2.1
        have c2:Y7.cell? ⟨gs,ob+2,none⟩=some (.slice (some ⟨bp,offp,none⟩) L P3):=(World.cell?_of_block hgsb).trans HCE.out.2.2.1
        have c3:Y7.cell? ⟨gs,ob+3,none⟩=some (.int .i64 (k':Nat)):=(World.cell?_of_block hgsb).trans HCE.out.2.2.2
        have hgY:gs<Y7.heap.size:=Nat.lt_of_lt_of_le HI.out.2.2.2.1 hE7.size
        have HG:=kI (aI hE7 hgsb)
        clear hE7 hgsb
        have t1:((k':Int) == (L:Int))=false:=by have:=HKL.out;simp;omega
        have t2:(k' == L)=false:=by have:=HKL.out;simp;omega
        have t3:decide ((k':Int)=(L:Int))=false:=by have:=HKL.out;simp;omega
        go_quiet (fail)
        clear t1 t2 t3
        go_wp2_with fail
        refine wp_world (fun Z7=>Below Y7.heap.size Y7 Z7) ⟨rfl,rfl,rfl,Nat.le_refl _,fun _ _=>rfl⟩ ?_
        intro Z7 hZ7
        have hWZ:WkM Z7 wb mb e' (sp+((q+1:Nat):Int)) m2:=HW7.out.1.keep (S:=fun _=>False) (Else.of_below hZ7) id id
        have hEZ:Else (fun k=>k=wb) wr Z7:=HW7.out.2.1.trans (Else.of_below hZ7)
        have hCZ:ClM O Z7 cb A st false n G kn nx col ro (fs+f):=HCW.out.1.aside hEZ fun k hk he=>(H.out.2.2.1 k hk).1 he
        have d0:Z7.cell? ⟨gs,ob,none⟩=some (.pointer (some ⟨cb,0,none⟩)):=(hZ7.cell (p:=⟨gs,ob,none⟩) hgY).trans c0
        have d1:Z7.cell? ⟨gs,ob+1,none⟩=some (.int .i64 (rr:Nat)):=(hZ7.cell (p:=⟨gs,ob+1,none⟩) hgY).trans c1
        have d2:Z7.cell? ⟨gs,ob+2,none⟩=some (.slice (some ⟨bp,offp,none⟩) L P3):=(hZ7.cell (p:=⟨gs,ob+2,none⟩) hgY).trans c2
        have d3:Z7.cell? ⟨gs,ob+3,none⟩=some (.int .i64 (k':Nat)):=(hZ7.cell (p:=⟨gs,ob+3,none⟩) hgY).trans c3
        have hgZ:gs<Z7.heap.size:=Nat.lt_of_lt_of_le hgY hZ7.size
        have hgm:¬ gs=mb:=fun h=>by have h1:=HX.out.ml;have h2:=HI.out.2.2.2.2.1;omega
        have EX:Hid (∀W,Else (fun k=>k=mb) Z7 W→W.cell? ⟨wb,0,none⟩=some (.map (some mb))∧W.cell? ⟨gs,ob,none⟩=some (.pointer (some ⟨cb,0,none⟩))∧W.cell? ⟨gs,ob+1,none⟩=some (.int .i64 (rr:Nat))):=kI fun W hW=>by
         have hg:=hW.block gs hgZ hgm
         have hw:=(hW.block _ (gL hWZ.1).1 (fun h=>HX.out.ne h)).trans hWZ.1
         exact ⟨cell_of_row W _ 0 _ _ (0,0) hw,(World.cell?_of_block hg).trans d0,(World.cell?_of_block hg).trans d1⟩
        have HID:Hid (∀W,Below Z7.heap.size Z7 W→Calls Tryz.prog 84 #[.agg #[.pointer (some ⟨cb,0,none⟩),.int .i64 (rr:Nat)]] W fun e w'=>e = .returned (.int .i64 (rr:Nat))∧Below W.heap.size W w'):=kI fun W hW=>pid_cl (hCZ.below hW) rr
        have HZ7:=kI (aI hWZ (aI hEZ (aI hCZ (aI d0 (aI d1 (aI d2 (aI d3 (aI hgZ hgm))))))))
        clear hWZ hEZ hCZ d0 d1 d2 d3 hgZ hgm c0 c1 c2 c3 hgY hZ7
        have hB:Below Z7.heap.size Z7 Z7.drew:=(Below.refl _ _).drew
        have hS:Else (fun k=>k=mb) Z7 Z7.drew:=Else.of_below hB
        refine wp_region_held (S:=(fun W=>Else (fun k=>k=mb) Z7 W)) (by kernel_rfl) ?_
        change wpAnyH _ _ _ _ _ 11 (List.replicate 11 false).toArray _ Z7.drew
        simp only [List.replicate_succ,List.replicate_zero]
        refine tj (i:=0) (some 83) (.pointer (some ⟨wb,0,none⟩)) rfl hS ?_
        simp only [Act.put,zA,zB,zC]
        refine tj (i:=1) (some 84) (.pointer (some ⟨wb,0,none⟩)) rfl hS ?_
        simp only [Act.put,zA,zB,zC]
        refine tj (i:=2) (some 85) (.pointer (some ⟨wb,0,none⟩)) rfl hS ?_
        simp only [Act.put,zA,zB,zC]
        refine tk (i:=3) (some 86) (.map (some mb)) rfl (fun W hw=>by obtain ⟨n0_,n1_,n2_⟩:=EX.out W hw;clear hw;go_simp) hS ?_
        simp only [Act.put,zA,zB,zC]
        refine tj (i:=4) (some 87) (.pointer (some ⟨gs,ob,none⟩)) rfl hS ?_
        simp only [Act.put,zA,zB,zC]
        refine tj (i:=5) (some 88) (.pointer (some ⟨gs,ob,none⟩)) rfl hS ?_
        simp only [Act.put,zA,zB,zC]
        refine tj (i:=6) (some 89) (.pointer (some ⟨gs,ob,none⟩)) rfl hS ?_
        simp only [Act.put,zA,zB,zC]
        refine tk (i:=7) (some 90) (.agg #[.pointer (some ⟨cb,0,none⟩),.int .i64 (rr:Nat)]) rfl (fun W hw=>by obtain ⟨n0_,n1_,n2_⟩:=EX.out W hw;clear hw;go_simp) hS ?_
        simp only [Act.put,zA,zB,zC]
        refine tj (i:=9) (some 92) (.bool false) rfl hS ?_
        simp only [Act.put,zA,zB,zC]
        refine aK 8 ?_
        refine ops_call (d:=some 91) rfl (by rfl) (by kernel_rfl) (by go_simp) ((HID.out _ hB).mono ?_)
        rintro y w5 ⟨rfl,hb5⟩
        have hB5:Below Z7.heap.size Z7 w5:=hB.trans (hb5.mono hB.size)
        have hS5:Else (fun k=>k=mb) Z7 w5:=Else.of_below hB5
        refine ⟨_,rfl,hS5,?_⟩
        simp only [Act.put,zA,zB,zC]
        obtain ⟨qq,hmap⟩:=HZ7.out.1.2
        have hrrn:rr<n:=HI.out.1.lt (rr,k',((some ⟨bp,offp,none⟩),L,P3)) (by simp)
        have hrw:(Lit.int .i64 (rr:Nat)).wf=true:=by have h:=wrap64_wf (rr:Nat);rwa [IntWalk.wrap64_in _ (by omega)] at h
        obtain ⟨w8,hrun,hm8,hg8,_,_⟩:=(hmap.below hB5).put endsTy (by have:=HCW.out.2.2.2.2.2;omega) (rr:Nat) hrw (.bool false)
        rw [endF_upd] at hm8
        have hE8:Else (fun k=>k=mb) w5 w8:=Else.grown hg8 fun k hk=>by cases hk;rfl
        have hS8:Else (fun k=>k=mb) Z7 w8:=hS5.trans hE8
        have hm8':∃S,MapF (endF (upe e' rr false)) S (m2+1) mb w8:=⟨_,hm8⟩
        have HM8:=kI (aI hm8' (aI hS8 hrrn))
        clear hm8 hm8' hmap hg8 hE8 hrw hrrn
        refine aK 10 ?_
        refine ops_skip (w':=w8) rfl (by kernel_rfl) (by clear hS hS5 hB hB5 hb5;go_simp) hS8 rfl ?_
        refine wpAnyH_done (by kernel_rfl) ?_ _
        clear hrun hS hS5 hS8 hB hB5 hb5 EX HID
        have hW8:WkM w8 wb mb (upe e' rr false) (sp+((q+1:Nat):Int)) (m2+1):=⟨(HM8.out.2.1.block _ (gL HZ7.out.1.1).1 (fun h=>HX.out.ne h)).trans HZ7.out.1.1,HM8.out.1⟩
        have hEw8:Else (fun k=>k=wb∨k=mb) wr w8:=(HZ7.out.2.1.mono fun k hk=>.inl hk).trans (HM8.out.2.1.mono fun k hk=>.inr hk)
        have hC8:ClM O w8 cb A st false n G kn nx col ro (fs+f):=HZ7.out.2.2.1.aside HM8.out.2.1 fun k hk he=>(H.out.2.2.1 k hk).2 he
        have hg8:=HM8.out.2.1.block gs HZ7.out.2.2.2.2.2.2.2.1 HZ7.out.2.2.2.2.2.2.2.2
        have c0:w8.cell? ⟨gs,ob,none⟩=some (.pointer (some ⟨cb,0,none⟩)):=(World.cell?_of_block hg8).trans HZ7.out.2.2.2.1
        have c1:w8.cell? ⟨gs,ob+1,none⟩=some (.int .i64 (rr:Nat)):=(World.cell?_of_block hg8).trans HZ7.out.2.2.2.2.1
        have c2:w8.cell? ⟨gs,ob+2,none⟩=some (.slice (some ⟨bp,offp,none⟩) L P3):=(World.cell?_of_block hg8).trans HZ7.out.2.2.2.2.2.1
        have c3:w8.cell? ⟨gs,ob+3,none⟩=some (.int .i64 (k':Nat)):=(World.cell?_of_block hg8).trans HZ7.out.2.2.2.2.2.2.1
        have hJ8:J D' true w8:=HX.out.js D' true _ _ _ HI.out.1.tl hEw8 fun k hk hT=>by
         obtain ⟨_,t2,t3,_⟩:=HX.out.td k hT
         rcases hk with hk|hk
         ·exact t2 hk
         ·exact t3 hk
        have hrd:=(((HI.out.1.rows (rr,k',((some ⟨bp,offp,none⟩),L,P3)) (by simp)).to hEw8.size fun b hd hb=>hEw8.block b hb fun hk=>by
         have h1:=hd.1
         have h2:=HX.out.wl
         have h3:=HX.out.ml
         rcases hk with hk|hk<;>omega)).1
        have hm0:(S1 ++ [(rr,k',(((some ⟨bp,offp,none⟩),L,P3):Sl))]).map (fun x:Fr=>(x.1,x.2.1))=S1.map (fun x:Fr=>(x.1,x.2.1)) ++ [(rr,k')]:=by simp
        have hnew:=told_new (by have h:=HI.out.1.told;rw [hm0] at h;exact h)
        have HTL:=kI (HD.out.2.2.2.1 D' w8 rr false ((some ⟨bp,offp,none⟩),L,P3) k' ⟨_,hC8⟩ hJ8 hrd HW7.out.2.2.2.2.2 hnew HM8.out.2.2 HCW.out.2.2.2.2.2.2.2.2.2.2)
        have H8:=kI (aI hW8 (aI hEw8 hC8))
        clear hW8 hEw8 hC8 hg8 hJ8 hrd hm0 hnew
        go_wp2_with fail
        go_at_fn gf
        refine HTL.out.mono ?_
        clear HTL
        rintro y w9 ⟨g,rfl,hJ9,hE9⟩
        have hEw9:Else (fun k=>k=wb∨k=mb∨T k) wr w9:=(H8.out.2.1.mono fun k hk=>hk.elim .inl fun h=>.inr (.inl h)).trans (hE9.mono fun k hk=>.inr (.inr hk))
        have hC9:=H8.out.2.2.aside hE9 fun k hk hT=>(HX.out.td k hT).2.2.2 hk
        have hW9:=H8.out.1.keep hE9 (fun hT=>(HX.out.td _ hT).2.1 rfl) (fun hT=>(HX.out.td _ hT).2.2.1 rfl)
        have hF9:=HI.out.1.pop HX.out hEw9 hC9 HCW.out.2.1 false (q:=q+1) hW9 HW7.out.2.2.1 HCW.out.2.2.2.2.1 HW7.out.2.2.2.1 HW7.out.2.2.2.2.1 g hJ9
        have hop:=open_known (n:=n) (e:=e') (x:=rr) (by
         have h1:=HI.out.1.dfs.on (rr,k') (by simp)
         rw [h1]
         simp) false
        have H9:=kI (aI hF9 hop)
        clear hEw9 hC9 hW9 hF9 hop hJ9 hE9 c0 c1 c2 c3
        cases g with
        | true=>
         have hcs:(S1.length:Int)≤(css:Int):=by have:=HCS.out;omega
         have hcs2:S1.length≤css:=by have:=HCS.out;omega
         have hcs3:S1.length≤S1.length+1:=by omega
         go_wp2_with fail
         go_roundg (2*open_ n (upe e' rr false)+S1.length)
         case measure=>
          have h1:=HF.out.2.2
          have h2:=H9.out.2
          simp at h1
          omega
         case rel=>
          obtain ⟨h1,h2,h3,h4,h5,h6,h7,h8,h9,h10,h11,h12⟩:=H9.out.1
          exact ⟨_,_,_,⟨h1,h2,h3,h4,h5,h6,h7,h8,h9,h10,h11,h12⟩,by
           have h3:=HF.out.2.1
           unfold upe
           split
           ·rfl
           ·exact h3,Nat.le_refl _⟩
        | false=>
         have hz:((S1.length:Int)+1 == 0)=false:=by simp;omega
         have hz2:(((S1.length+1:Nat):Int) == 0)=false:=by simp;omega
         go_wp2_with fail
         try rw [Exit.noGoto_ret]
         go_ret
         obtain ⟨⟨f9,g1,g2⟩,⟨q9,m9,g3,g4,g5⟩,g6,g7,g8,g9,g10,g11,_,_,g12,g13⟩:=H9.out.1
         exact ⟨false,_,_,_,f9,q9,m9,by first|rfl|(congr 2;simp),g1,g3,g8,by rw [List.length_map];exact g2,g4,by rw [List.length_map];exact g5,g12,g13,g6,g7,(fun s hs=>by
          obtain ⟨z,hz,rfl⟩:=List.mem_map.1 hs
          exact g11 z hz),(fun h=>by cases h),g9,g10⟩
     ·have hkl:k'=L:=by omega
      have g1:decide ((k':Int)<(L:Int))=false:=decide_eq_false (by omega)
      have g2:decide (k'<L)=false:=decide_eq_false (by omega)
      have HKL:=kI hkl
      clear hkl hlt
      go_wp2_with fail
      go_quiet (fail)
      go_wp2_with fail
      have hacc:Acc (Chl (chR G kn ro)) rr∧∀y∈chR G kn ro rr,(y,true)∈D':=by
       have hm0:(S1 ++ [(rr,k',((P1,L,P3):Sl))]).map (fun x:Fr=>(x.1,x.2.1))=S1.map (fun x:Fr=>(x.1,x.2.1)) ++ [(rr,k')]:=by simp
       have hd:=HI.out.1.dfs
       have ht:=HI.out.1.told
       rw [hm0] at hd ht
       have hk:k'=(chR G kn ro rr).length:=HKL.out.trans HOB.out.2
       exact ⟨hd.whole hk,told_parts ht hd hk⟩
      refine wp_world (fun Y7=>Hid (WkM Y7 wb mb e' (sp+(q:Int)) m2∧Else (fun k=>k=wb) wr Y7∧q+payD (chR G kn ro) D≤1+payD (chR G kn ro) D'+payS (S1.map fun x=>(x.1,x.2.1))+(2*(chR G kn ro rr).length+1)∧AcB (chR G kn ro) rr D' true)) ?_ ?_
      ·refine kI ⟨HCW.out.2.2.1.keep (S:=fun _=>False) (Else.of_below ⟨rfl,rfl,rfl,Nat.le_refl _,fun _ _=>rfl⟩) id id,Else.of_below ⟨rfl,rfl,rfl,Nat.le_refl _,fun _ _=>rfl⟩,?_,⟨(fun _=>hacc.1),(fun h=>by cases h),(fun _=>hacc.2)⟩⟩
       have h1:=HCW.out.2.2.2.1
       have h2:=HKL.out
       have h3:=HOB.out.2
       omega
      intro Y7 HW7
      clear hacc c0 c1 c2 c3 g1 g2
      have hk8:k'≤1000:=by have:=HKL.out;omega
      have hE7:=HW7.out.2.1
      have hgsb:=hE7.block gs HI.out.2.2.2.1 (fun h=>by have h1:=HX.out.wl;have h2:=HI.out.2.2.2.2.1;have h:gs=wb:=h;omega)
      have c0:Y7.cell? ⟨gs,ob,none⟩=some (.pointer (some ⟨cb,0,none⟩)):=(World.cell?_of_block hgsb).trans HCE.out.1
      have c1:Y7.cell? ⟨gs,ob+1,none⟩=some (.int .i64 (rr:Nat)):=(World.cell?_of_block hgsb).trans HCE.out.2.1
      have c2:Y7.cell? ⟨gs,ob+2,none⟩=some (.slice P1 L P3):=(World.cell?_of_block hgsb).trans HCE.out.2.2.1
      have c3:Y7.cell? ⟨gs,ob+3,none⟩=some (.int .i64 (k':Nat)):=(World.cell?_of_block hgsb).trans HCE.out.2.2.2
      have hgY:gs<Y7.heap.size:=Nat.lt_of_lt_of_le HI.out.2.2.2.1 hE7.size
      have HG:=kI (aI hE7 hgsb)
      clear hE7 hgsb
      have t1:((k':Int) == (L:Int))=true:=by have:=HKL.out;simp;omega
      have t2:(k' == L)=true:=by have:=HKL.out;simp;omega
      have t3:decide ((k':Int)=(L:Int))=true:=by have:=HKL.out;simp;omega
      go_quiet (fail)
      clear t1 t2 t3
      go_wp2_with fail
      refine wp_world (fun Z7=>Below Y7.heap.size Y7 Z7) ⟨rfl,rfl,rfl,Nat.le_refl _,fun _ _=>rfl⟩ ?_
      intro Z7 hZ7
      have hWZ:WkM Z7 wb mb e' (sp+(q:Int)) m2:=HW7.out.1.keep (S:=fun _=>False) (Else.of_below hZ7) id id
      have hEZ:Else (fun k=>k=wb) wr Z7:=HW7.out.2.1.trans (Else.of_below hZ7)
      have hCZ:ClM O Z7 cb A st false n G kn nx col ro (fs+f):=HCW.out.1.aside hEZ fun k hk he=>(H.out.2.2.1 k hk).1 he
      have d0:Z7.cell? ⟨gs,ob,none⟩=some (.pointer (some ⟨cb,0,none⟩)):=(hZ7.cell (p:=⟨gs,ob,none⟩) hgY).trans c0
      have d1:Z7.cell? ⟨gs,ob+1,none⟩=some (.int .i64 (rr:Nat)):=(hZ7.cell (p:=⟨gs,ob+1,none⟩) hgY).trans c1
      have d2:Z7.cell? ⟨gs,ob+2,none⟩=some (.slice P1 L P3):=(hZ7.cell (p:=⟨gs,ob+2,none⟩) hgY).trans c2
      have d3:Z7.cell? ⟨gs,ob+3,none⟩=some (.int .i64 (k':Nat)):=(hZ7.cell (p:=⟨gs,ob+3,none⟩) hgY).trans c3
      have hgZ:gs<Z7.heap.size:=Nat.lt_of_lt_of_le hgY hZ7.size
      have hgm:¬ gs=mb:=fun h=>by have h1:=HX.out.ml;have h2:=HI.out.2.2.2.2.1;omega
      have EX:Hid (∀W,Else (fun k=>k=mb) Z7 W→W.cell? ⟨wb,0,none⟩=some (.map (some mb))∧W.cell? ⟨gs,ob,none⟩=some (.pointer (some ⟨cb,0,none⟩))∧W.cell? ⟨gs,ob+1,none⟩=some (.int .i64 (rr:Nat))):=kI fun W hW=>by
       have hg:=hW.block gs hgZ hgm
       have hw:=(hW.block _ (gL hWZ.1).1 (fun h=>HX.out.ne h)).trans hWZ.1
       exact ⟨cell_of_row W _ 0 _ _ (0,0) hw,(World.cell?_of_block hg).trans d0,(World.cell?_of_block hg).trans d1⟩
      have HID:Hid (∀W,Below Z7.heap.size Z7 W→Calls Tryz.prog 84 #[.agg #[.pointer (some ⟨cb,0,none⟩),.int .i64 (rr:Nat)]] W fun e w'=>e = .returned (.int .i64 (rr:Nat))∧Below W.heap.size W w'):=kI fun W hW=>pid_cl (hCZ.below hW) rr
      have HZ7:=kI (aI hWZ (aI hEZ (aI hCZ (aI d0 (aI d1 (aI d2 (aI d3 (aI hgZ hgm))))))))
      clear hWZ hEZ hCZ d0 d1 d2 d3 hgZ hgm c0 c1 c2 c3 hgY hZ7
      have hB:Below Z7.heap.size Z7 Z7.drew:=(Below.refl _ _).drew
      have hS:Else (fun k=>k=mb) Z7 Z7.drew:=Else.of_below hB
      refine wp_region_held (S:=(fun W=>Else (fun k=>k=mb) Z7 W)) (by kernel_rfl) ?_
      change wpAnyH _ _ _ _ _ 11 (List.replicate 11 false).toArray _ Z7.drew
      simp only [List.replicate_succ,List.replicate_zero]
      refine tj (i:=0) (some 83) (.pointer (some ⟨wb,0,none⟩)) rfl hS ?_
      simp only [Act.put,zA,zB,zC]
      refine tj (i:=1) (some 84) (.pointer (some ⟨wb,0,none⟩)) rfl hS ?_
      simp only [Act.put,zA,zB,zC]
      refine tj (i:=2) (some 85) (.pointer (some ⟨wb,0,none⟩)) rfl hS ?_
      simp only [Act.put,zA,zB,zC]
      refine tk (i:=3) (some 86) (.map (some mb)) rfl (fun W hw=>by obtain ⟨n0_,n1_,n2_⟩:=EX.out W hw;clear hw;go_simp) hS ?_
      simp only [Act.put,zA,zB,zC]
      refine tj (i:=4) (some 87) (.pointer (some ⟨gs,ob,none⟩)) rfl hS ?_
      simp only [Act.put,zA,zB,zC]
      refine tj (i:=5) (some 88) (.pointer (some ⟨gs,ob,none⟩)) rfl hS ?_
      simp only [Act.put,zA,zB,zC]
      refine tj (i:=6) (some 89) (.pointer (some ⟨gs,ob,none⟩)) rfl hS ?_
      simp only [Act.put,zA,zB,zC]
      refine tk (i:=7) (some 90) (.agg #[.pointer (some ⟨cb,0,none⟩),.int .i64 (rr:Nat)]) rfl (fun W hw=>by obtain ⟨n0_,n1_,n2_⟩:=EX.out W hw;clear hw;go_simp) hS ?_
      simp only [Act.put,zA,zB,zC]
      refine tj (i:=9) (some 92) (.bool true) rfl hS ?_
      simp only [Act.put,zA,zB,zC]
      refine aK 8 ?_
      refine ops_call (d:=some 91) rfl (by rfl) (by kernel_rfl) (by go_simp) ((HID.out _ hB).mono ?_)
      rintro y w5 ⟨rfl,hb5⟩
      have hB5:Below Z7.heap.size Z7 w5:=hB.trans (hb5.mono hB.size)
      have hS5:Else (fun k=>k=mb) Z7 w5:=Else.of_below hB5
      refine ⟨_,rfl,hS5,?_⟩
      simp only [Act.put,zA,zB,zC]
      obtain ⟨qq,hmap⟩:=HZ7.out.1.2
      have hrrn:rr<n:=HI.out.1.lt (rr,k',(P1,L,P3)) (by simp)
      have hrw:(Lit.int .i64 (rr:Nat)).wf=true:=by have h:=wrap64_wf (rr:Nat);rwa [IntWalk.wrap64_in _ (by omega)] at h
      obtain ⟨w8,hrun,hm8,hg8,_,_⟩:=(hmap.below hB5).put endsTy (by have:=HCW.out.2.2.2.2.2;omega) (rr:Nat) hrw (.bool true)
      rw [endF_upd] at hm8
      have hE8:Else (fun k=>k=mb) w5 w8:=Else.grown hg8 fun k hk=>by cases hk;rfl
      have hS8:Else (fun k=>k=mb) Z7 w8:=hS5.trans hE8
      have hm8':∃S,MapF (endF (upe e' rr true)) S (m2+1) mb w8:=⟨_,hm8⟩
      have HM8:=kI (aI hm8' (aI hS8 hrrn))
      clear hm8 hm8' hmap hg8 hE8 hrw hrrn
      refine aK 10 ?_
      refine ops_skip (w':=w8) rfl (by kernel_rfl) (by clear hS hS5 hB hB5 hb5;go_simp) hS8 rfl ?_
      refine wpAnyH_done (by kernel_rfl) ?_ _
      clear hrun hS hS5 hS8 hB hB5 hb5 EX HID
      have hW8:WkM w8 wb mb (upe e' rr true) (sp+(q:Int)) (m2+1):=⟨(HM8.out.2.1.block _ (gL HZ7.out.1.1).1 (fun h=>HX.out.ne h)).trans HZ7.out.1.1,HM8.out.1⟩
      have hEw8:Else (fun k=>k=wb∨k=mb) wr w8:=(HZ7.out.2.1.mono fun k hk=>.inl hk).trans (HM8.out.2.1.mono fun k hk=>.inr hk)
      have hC8:ClM O w8 cb A st false n G kn nx col ro (fs+f):=HZ7.out.2.2.1.aside HM8.out.2.1 fun k hk he=>(H.out.2.2.1 k hk).2 he
      have hg8:=HM8.out.2.1.block gs HZ7.out.2.2.2.2.2.2.2.1 HZ7.out.2.2.2.2.2.2.2.2
      have c0:w8.cell? ⟨gs,ob,none⟩=some (.pointer (some ⟨cb,0,none⟩)):=(World.cell?_of_block hg8).trans HZ7.out.2.2.2.1
      have c1:w8.cell? ⟨gs,ob+1,none⟩=some (.int .i64 (rr:Nat)):=(World.cell?_of_block hg8).trans HZ7.out.2.2.2.2.1
      have c2:w8.cell? ⟨gs,ob+2,none⟩=some (.slice P1 L P3):=(World.cell?_of_block hg8).trans HZ7.out.2.2.2.2.2.1
      have c3:w8.cell? ⟨gs,ob+3,none⟩=some (.int .i64 (k':Nat)):=(World.cell?_of_block hg8).trans HZ7.out.2.2.2.2.2.2.1
      have hJ8:J D' true w8:=HX.out.js D' true _ _ _ HI.out.1.tl hEw8 fun k hk hT=>by
       obtain ⟨_,t2,t3,_⟩:=HX.out.td k hT
       rcases hk with hk|hk
       ·exact t2 hk
       ·exact t3 hk
      have hrd:=(((HI.out.1.rows (rr,k',(P1,L,P3)) (by simp)).to hEw8.size fun b hd hb=>hEw8.block b hb fun hk=>by
       have h1:=hd.1
       have h2:=HX.out.wl
       have h3:=HX.out.ml
       rcases hk with hk|hk<;>omega)).1
      have hm0:(S1 ++ [(rr,k',((P1,L,P3):Sl))]).map (fun x:Fr=>(x.1,x.2.1))=S1.map (fun x:Fr=>(x.1,x.2.1)) ++ [(rr,k')]:=by simp
      have hnew:=told_new (by have h:=HI.out.1.told;rw [hm0] at h;exact h)
      have HTL:=kI (HD.out.2.2.2.1 D' w8 rr true (P1,L,P3) k' ⟨_,hC8⟩ hJ8 hrd HW7.out.2.2.2.2.2 hnew HM8.out.2.2 HCW.out.2.2.2.2.2.2.2.2.2.2)
      have H8:=kI (aI hW8 (aI hEw8 hC8))
      clear hW8 hEw8 hC8 hg8 hJ8 hrd hm0 hnew
      go_wp2_with fail
      go_at_fn gf
      refine HTL.out.mono ?_
      clear HTL
      rintro y w9 ⟨g,rfl,hJ9,hE9⟩
      have hEw9:Else (fun k=>k=wb∨k=mb∨T k) wr w9:=(H8.out.2.1.mono fun k hk=>hk.elim .inl fun h=>.inr (.inl h)).trans (hE9.mono fun k hk=>.inr (.inr hk))
      have hC9:=H8.out.2.2.aside hE9 fun k hk hT=>(HX.out.td k hT).2.2.2 hk
      have hW9:=H8.out.1.keep hE9 (fun hT=>(HX.out.td _ hT).2.1 rfl) (fun hT=>(HX.out.td _ hT).2.2.1 rfl)
      have hF9:=HI.out.1.pop HX.out hEw9 hC9 HCW.out.2.1 true (q:=q) hW9 HW7.out.2.2.1 HCW.out.2.2.2.2.1 HW7.out.2.2.2.1 HW7.out.2.2.2.2.1 g hJ9
      have hop:=open_known (n:=n) (e:=e') (x:=rr) (by
       have h1:=HI.out.1.dfs.on (rr,k') (by simp)
       rw [h1]
       simp) true
      have H9:=kI (aI hF9 hop)
      clear hEw9 hC9 hW9 hF9 hop hJ9 hE9 c0 c1 c2 c3
      cases g with
      | true=>
       have hcs:(S1.length:Int)≤(css:Int):=by have:=HCS.out;omega
       have hcs2:S1.length≤css:=by have:=HCS.out;omega
       have hcs3:S1.length≤S1.length+1:=by omega
       go_wp2_with fail
       go_roundg (2*open_ n (upe e' rr true)+S1.length)
       case measure=>
        have h1:=HF.out.2.2
        have h2:=H9.out.2
        simp at h1
        omega
       case rel=>
        obtain ⟨h1,h2,h3,h4,h5,h6,h7,h8,h9,h10,h11,h12⟩:=H9.out.1
        exact ⟨_,_,_,⟨h1,h2,h3,h4,h5,h6,h7,h8,h9,h10,h11,h12⟩,by
         have h3:=HF.out.2.1
         unfold upe
         split
         ·rfl
         ·exact h3,Nat.le_refl _⟩
      | false=>
       have hz:((S1.length:Int)+1 == 0)=false:=by simp;omega
       have hz2:(((S1.length+1:Nat):Int) == 0)=false:=by simp;omega
       go_wp2_with fail
       try rw [Exit.noGoto_ret]
       go_ret
       obtain ⟨⟨f9,g1,g2⟩,⟨q9,m9,g3,g4,g5⟩,g6,g7,g8,g9,g10,g11,_,_,g12,g13⟩:=H9.out.1
       exact ⟨false,_,_,_,f9,q9,m9,by first|rfl|(congr 2;simp),g1,g3,g8,by rw [List.length_map];exact g2,g4,by rw [List.length_map];exact g5,g12,g13,g6,g7,(fun s hs=>by
        obtain ⟨z,hz,rfl⟩:=List.mem_map.1 hs
        exact g11 z hz),(fun h=>by cases h),g9,g10⟩
end CyEs
end
end Go.Proofs.YtmamdiggjghjkaaGreatDoor
