/- Texts of one proof, one behind the other. -/
import Derived.Test.YtmamdiggjghjkaaGreatDoorMgSolveOrder1
import Derived.Test.YtmamdiggjghjkaaGreatDoorMgSolveOrder16
set_option linter.unusedVariables false
namespace Go.Proofs.YtmamdiggjghjkaaGreatDoor
section
open Go.RowKit
open Un (Else StM rowI UFo own_else dg swp wp_world paint cnt)
set_option maxRecDepth 100000
attribute [local go_sem] Oper.semAt_some
attribute [local go_sem ↓] Un.builtin_app
section
variable {O T:Nat→Prop}{w w' V:World}{cb:Nat}{A:Adr}{st:Int}{cl:Bool}{n:Nat}{G:List Gn}{kn:Kn}{nx col ro col' ro':Nat→Nat}{fs fs':Int}{E:List (Nat×Nat)}
set_option maxHeartbeats 4000000 in
theorem joinAll_cl (h:ClM O w cb A st false n G kn nx col ro fs) (hO:∀k,O k→k<w.heap.size) (hn:0<n) (l r:Nat) (hj:Js G n col ro kn E [(l,r)]) (hR:Un.Rings n nx (vc G col)) (hP:∀p∈G,p.2.2.2.length≤8) (hst:0≤st∧st≤100000000000) (hfs:0≤fs∧fs≤100000000000):
  Calls Tryz.prog 112 #[.pointer (some ⟨cb,0,none⟩),.int .i64 (l:Nat),.int .i64 (r:Nat)] w (JaPost O w cb A st n G fs E (9*Un.cnt n col+1)):=by
 have hnb:=(h.stm hn).uf.few
 have hdg:=Un.dg_le hnb
 have hct:=Un.cnt_le n col
 have hlen:=hj.len
 have HS:=Un.steps_st (h.stm hn) (by omega)
 obtain ⟨M,hM⟩:∃M,9*Un.cnt n col+1=M:=⟨_,rfl⟩
 obtain ⟨hl,_⟩:=h.cells
 have h0:JaR O w cb A st n G fs E M (.slice (some ⟨w.heap.size,0,none⟩) 1 1) (w.alloc (.cells #[.int .i64 (l:Nat),.int .i64 (r:Nat)] 104)):=
  ⟨[(l,r)],w.heap.size,1,0,kn,nx,col,ro,fs,rfl,Nat.le_refl _,start_todo w l r,by simpa using h.below ((Below.refl _ w).alloc (Nat.le_refl _) _),hj,hR,Int.le_refl _,by simp,by simp;omega,Else.of_below ((Below.refl _ w).alloc (Nat.le_refl _) _)⟩
 rw [hM]
 have H0:=kI h0
 have HMM:=kI hM
 have HO:=kI hO
 have HPP:=kI hP
 have HCT:=kI (aI hct (aI hlen (aI hdg hnb)))
 clear h hj h0 hM hR hO hP hct hlen hdg hnb
 go_enter Tryz.func112,Tryz.ntmps112
 go_step3
 go_wp2_with fail
 refine HS.mono ?_
 rintro e w1 ⟨rfl,rfl⟩
 clear HS
 go_wp2_with fail
 go_step3
 go_wp2_with fail
 go_loopw [7] (fun s wr=>JaR O w1 cb A st n G fs E M s wr) (fun _ wr=>((M:Int)-(stepsOf cb wr-st)).toNat)
 case atStart=>exact H0.out
 case round=>
  obtain ⟨T,g,c,k,kn1,nx1,col1,ro1,fs1,rfl,hg,hrow,hC,hJ,hR,hf1,hf2,hM,hE⟩:=hrel
  clear hl H0
  have hkM:(k:Int)≤10000000:=by
   have:=HMM.out
   have:=HCT.out
   omega
  have hk21:4*(dg n:Int)*k≤84*(k:Int):=by
   have:(dg n:Int)≤21:=by have:=HCT.out;omega
   have h4:(0:Int)≤k:=by omega
   exact Int.mul_le_mul_of_nonneg_right (show 4*(dg n:Int)≤84 by omega) h4
  obtain ⟨s1,hs1⟩:∃s1,st+(k:Int)=s1:=⟨_,rfl⟩
  rw [hs1] at hC
  have hb1:0≤s1∧s1≤200000000000:=by omega
  have hb2:0≤fs1∧fs1≤200000000000:=by omega
  rcases List.eq_nil_or_concat T with rfl|⟨T',⟨x,y⟩,hTc⟩
  ·have hC0:=hC
   have hCe:=hC0
   have HH:=kI (aI hJ (aI hR (aI hf1 (aI hf2 (aI hM (aI hE (aI hs1 (aI hkM hC))))))))
   obtain ⟨fE,hfE⟩:∃z,fs1=z:=⟨_,rfl⟩
   rw [hfE] at hCe
   have hbf:fs≤fE∧fE≤fs+4*(dg n:Int)*k∧4*(dg n:Int)*k≤84*k∧(k:Int)≤10000000:=by omega
   have HC0:=kI hCe
   have HFE:=kI hfE
   clear hC hC0 hCe hg hrow hJ hR hf1 hf2 hM hE hs1 hfE hkM hk21 hb2
   go_wp2_with fail
   have hCe:=HC0.out
   have hCd:=hCe.below (Below.refl _ wr).drew
   have HST:=Un.steps_st (w:=wr.drew) (hCd.stm hn) (by omega)
   have HCN:=count_cl (w:=wr.drew) hCd (fE-fs) (by omega) (by omega)
   obtain ⟨dE,hdE⟩:∃z,fE-fs=z:=⟨_,rfl⟩
   rw [hdE] at HCN
   have hwr:IntKind.i64.wrap (fE-fs)=dE:=by rw [hdE];exact wrap_small dE (by omega) (by omega)
   have HDE:=kI hdE
   have HSTH:=kI HST
   have HCNH:=kI HCN
   have hT:(fun _:World=>True) wr.drew:=trivial
   clear hCd HST HCN hCe hdE
   refine wp_region_held (S:=fun _:World=>True) (by kernel_rfl) ?_
   change wpAnyH _ _ _ _ _ 10 (List.replicate 10 false).toArray _ wr.drew
   simp only [List.replicate_succ,List.replicate_zero]
   refine tj (i:=0) (some 139) (.pointer (some ⟨cb,0,none⟩)) rfl hT ?_
   simp only [Act.put,zA,zB,zC]
   refine tj (i:=1) (some 140) (.pointer (some ⟨cb,0,none⟩)) rfl hT ?_
   simp only [Act.put,zA,zB,zC]
   refine tj (i:=2) (some 141) (.pointer (some ⟨cb,0,none⟩)) rfl hT ?_
   simp only [Act.put,zA,zB,zC]
   refine tj (i:=3) (some 142) (.pointer (some ⟨cb,0,none⟩)) rfl hT ?_
   simp only [Act.put,zA,zB,zC]
   refine tj (i:=4) (some 143) (.pointer (some ⟨cb,0,none⟩)) rfl hT ?_
   simp only [Act.put,zA,zB,zC]
   refine tj (i:=5) (some 144) (.pointer (some ⟨cb,3,none⟩)) rfl hT ?_
   simp only [Act.put,zA,zB,zC]
   refine tj (i:=7) (some 146) (.int .i64 fs) rfl hT ?_
   simp only [Act.put,zA,zB,zC]
   refine aK 6 ?_
   refine ops_call (d:=some 145) rfl (by rfl) (by kernel_rfl) (by go_simp) (HSTH.out.mono ?_)
   rintro e w10 ⟨rfl,rfl⟩
   refine ⟨_,rfl,hT,?_⟩
   simp only [Act.put,zA,zB,zC]
   refine tj (i:=8) (some 147) (.int .i64 dE) rfl hT ?_
   simp only [Act.put,zA,zB,zC]
   refine aK 9 ?_
   refine ops_call (d:=some 148) rfl (by rfl) (by kernel_rfl) (by go_simp) (HCNH.out.mono ?_)
   rintro e w11 ⟨rfl,hC11,hE11⟩
   have H11:=kI (aI hC11 hE11)
   clear hC11 hE11
   refine ⟨_,rfl,trivial,?_⟩
   simp only [Act.put,zA,zB,zC]
   refine wpAnyH_done (by kernel_rfl) ?_ _
   clear hT hwr HSTH HCNH
   go_wp2_with fail
   obtain ⟨hC11,hE11⟩:=H11.out
   obtain ⟨hJ,hR,hf1,hf2,hM,hE,hs1,hkM,hC⟩:=HH.out
   have hOc:O cb:=hC.own _ (.inr (.inr (.inl rfl)))
   have hEE:Else O w1 w11:=(hE.trans ((Un.Else.drew (Else.refl _ wr)).trans (hE11.mono fun k hk=>.inl (hk ▸ hOc)))).old fun k hk=>hk
   exact bodyPost_end (results_none rfl _ _ _) rfl (ja_done hC11 hs1.symm HDE.out hbf.1 hbf.2.1 (by simpa using hM) hJ hR hEE)
  ·rw [List.concat_eq_append] at hTc
   subst hTc
   have hS:JaS O w1 cb A s1 n G kn1 nx1 col1 ro1 fs1 g c (T' ++ [(x,y)]) wr:=⟨hC,hrow,hE,hg⟩
   obtain ⟨hx,hy⟩:=hJ.pair
   obtain ⟨p0,p1⟩:=hS.pair
   have hmlen:(T' ++ [(x,y)]).length=T'.length+1:=by simp
   obtain ⟨m,hm⟩:∃m,T'.length=m:=⟨_,rfl⟩
   have hcap:m+1≤c∧c≤9223372036854775807:=by
    obtain ⟨_,_,h3,h4,h5⟩:=Un.own_form hrow
    cases h3
    unfold maxLen at h5
    omega
   have hgl:=(hrow.lt g rfl).2
   rw [hmlen] at hM ⊢
   rw [hm] at p0 p1 hM ⊢
   have hm9:m≤20000000:=by have:=HMM.out;have:=HCT.out;omega
   have f1:decide ((m:Int)+1 > 0)=true:=decide_eq_true (by omega)
   have f2:decide ((0:Int)<(m:Int)+1)=true:=decide_eq_true (by omega)
   obtain ⟨cl0,_⟩:=hC.cells
   have HH:=kI (aI hS (aI hJ (aI hR (aI hf1 (aI hf2 (aI hM (aI hm (aI hx hy))))))))
   have HB:=kI (aI hkM (aI hk21 (aI hs1 (aI hb1 hb2))))
   clear hg hrow hC hJ hR hf1 hf2 hM hE hS hmlen hm hkM hk21 hs1 hb1 hb2 hx hy
   go_wp2_with fail
   obtain ⟨rx,hrx⟩:∃z,ro1 x=z:=⟨_,rfl⟩
   obtain ⟨ry,hry⟩:∃z,ro1 y=z:=⟨_,rfl⟩
   have HR1:=(HH.out.1.below (Below.refl _ wr).drew).root HO.out (by have:=HB.out;omega) x HH.out.2.2.2.2.2.2.2.1
   rw [hrx] at HR1
   have HRR:=kI (aI hrx hry)
   clear hrx hry
   obtain ⟨S0,hSof,hSto⟩:∃S0:World→Prop,(∀W:World,W.cell? ⟨g,m*2,none⟩=some (.int .i64 (x:Nat))∧W.cell? ⟨g,m*2+1,none⟩=some (.int .i64 (y:Nat))→S0 W)∧(∀W,S0 W→W.cell? ⟨g,m*2,none⟩=some (.int .i64 (x:Nat))∧W.cell? ⟨g,m*2+1,none⟩=some (.int .i64 (y:Nat))):=⟨_,fun _ h=>h,fun _ h=>h⟩
   have hS:S0 wr.drew:=hSof _ ⟨p0,p1⟩
   have EX:=kI hSto
   have HSOF:=kI hSof
   have HRH:=kI HR1
   clear hSof hSto HR1 p0 p1
   have hmm:(m:Int)<(m:Int)+1:=by omega
   refine wp_region_held (S:=S0) (by kernel_rfl) ?_
   change wpAnyH _ _ _ _ _ 20 (List.replicate 20 false).toArray _ wr.drew
   simp only [List.replicate_succ,List.replicate_zero]
   refine tj (i:=0) (some 30) (.pointer (some ⟨cb,0,none⟩)) rfl hS ?_
   simp only [Act.put,zA,zB,zC]
   refine tj (i:=1) (some 31) (.pointer (some ⟨cb,0,none⟩)) rfl hS ?_
   simp only [Act.put,zA,zB,zC]
   refine tj (i:=2) (some 32) (.pointer (some ⟨cb,3,none⟩)) rfl hS ?_
   simp only [Act.put,zA,zB,zC]
   refine tj (i:=3) (some 33) (.slice (some ⟨g,0,none⟩) (m+1) c) rfl hS ?_
   simp only [Act.put,zA,zB,zC]
   refine tj (i:=4) (some 34) (.int .i64 (m:Nat)) rfl hS ?_
   simp only [Act.put,zA,zB,zC]
   refine tj (i:=5) (some 35) (.pointer (some ⟨g,m*2,none⟩)) rfl hS ?_
   simp only [Act.put,zA,zB,zC]
   refine tj (i:=6) (some 36) (.pointer (some ⟨g,m*2,none⟩)) rfl hS ?_
   simp only [Act.put,zA,zB,zC]
   refine tk (i:=7) (some 37) (.int .i64 (x:Nat)) rfl (fun W hw=>by obtain ⟨n0,n1⟩:=EX.out W hw;clear hw;go_simp) hS ?_
   simp only [Act.put,zA,zB,zC]
   refine tj (i:=9) (some 39) (.pointer (some ⟨cb,0,none⟩)) rfl hS ?_
   simp only [Act.put,zA,zB,zC]
   refine tj (i:=10) (some 40) (.pointer (some ⟨cb,0,none⟩)) rfl hS ?_
   simp only [Act.put,zA,zB,zC]
   refine tj (i:=11) (some 41) (.pointer (some ⟨cb,3,none⟩)) rfl hS ?_
   simp only [Act.put,zA,zB,zC]
   refine tj (i:=12) (some 42) (.slice (some ⟨g,0,none⟩) (m+1) c) rfl hS ?_
   simp only [Act.put,zA,zB,zC]
   refine tj (i:=13) (some 43) (.int .i64 (m:Nat)) rfl hS ?_
   simp only [Act.put,zA,zB,zC]
   refine tj (i:=14) (some 44) (.pointer (some ⟨g,m*2,none⟩)) rfl hS ?_
   simp only [Act.put,zA,zB,zC]
   refine tj (i:=15) (some 45) (.pointer (some ⟨g,m*2+1,none⟩)) rfl hS ?_
   simp only [Act.put,zA,zB,zC]
   refine tk (i:=16) (some 46) (.int .i64 (y:Nat)) rfl (fun W hw=>by obtain ⟨n0,n1⟩:=EX.out W hw;clear hw;go_simp) hS ?_
   simp only [Act.put,zA,zB,zC]
   refine aK 8 ?_
   refine ops_call (d:=some 38) rfl (by rfl) (by kernel_rfl) (by go_simp) (HRH.out.mono ?_)
   rintro e w2 ⟨k1,rfl,hk1,hS2⟩
   have HR2:=hS2.root HO.out (by have:=HB.out;have:=HCT.out;omega) y HH.out.2.2.2.2.2.2.2.2
   obtain ⟨p0,p1⟩:=hS2.pair
   rw [HH.out.2.2.2.2.2.2.1] at p0 p1
   rw [HRR.out.2] at HR2
   have hS2':=HSOF.out w2 ⟨p0,p1⟩
   have HR2H:=kI HR2
   have HK1:=kI hk1
   clear HR2 hS2 p0 p1 hk1
   refine ⟨_,rfl,hS2',?_⟩
   simp only [Act.put,zA,zB,zC]
   refine aK 17 ?_
   refine ops_call (d:=some 47) rfl (by rfl) (by kernel_rfl) (by go_simp) (HR2H.out.mono ?_)
   rintro e w3 ⟨k2,rfl,hk2,hS3⟩
   obtain ⟨p0,p1⟩:=hS3.pair
   rw [HH.out.2.2.2.2.2.2.1] at p0 p1
   have hS3':=HSOF.out w3 ⟨p0,p1⟩
   obtain ⟨f2,hf2⟩:∃f2,fs1+(k1:Int)+(k2:Int)=f2:=⟨_,rfl⟩
   rw [hf2] at hS3
   have HK2:=kI (aI hS3 (aI hk2 hf2))
   clear hS3 p0 p1 hk2 hf2
   refine ⟨_,rfl,hS3',?_⟩
   simp only [Act.put,zA,zB,zC]
   refine tj (i:=18) (some 9) (.int .i64 (rx:Nat)) rfl hS3' ?_
   simp only [Act.put,zA,zB,zC]
   refine tj (i:=19) (some 10) (.int .i64 (ry:Nat)) rfl hS3' ?_
   simp only [Act.put,zA,zB,zC]
   refine wpAnyH_done (by kernel_rfl) ?_ _
   clear hS hS2' hS3' HR2H HRH EX HSOF
   have hSp:=HK2.out.1.pop
   have hfb:0≤f2∧f2≤300000000000:=by
    have:=HB.out
    have:=HCT.out
    have:=HK1.out
    have:=HK2.out.2
    omega
   have HC:=hSp.count HO.out 1 (by omega) (by have:=HB.out;omega)
   obtain ⟨s2,hs2⟩:∃s2,s1+1=s2:=⟨_,rfl⟩
   rw [hs2] at HC
   have hs2b:0≤s2∧s2≤200000000001:=by have:=HB.out;omega
   have HS2:=kI hs2
   have hc1:m≤c:=by omega
   clear hSp hs2
   go_wp2_with fail
   refine HC.mono ?_
   rintro e w4 ⟨rfl,hS4⟩
   have HS4:=kI hS4
   clear hS4 HC
   have HBD:=kI (aI hfb (aI hs2b (aI hm9 (aI hcap hgl))))
   clear hfb hs2b
   by_cases hxy:rx=ry
   ·subst hxy
    go_wp2_with fail
    obtain ⟨hS,hJ,hR,hf1,hf2,hM,hm,hx,hy⟩:=HH.out
    obtain ⟨hkM,hk21,hs1,hb1,hb2⟩:=HB.out
    have hk1:=HK1.out
    obtain ⟨_,hk2,hf⟩:=HK2.out
    have e1:=stepsOf_eq hS.cl
    have hs2:=HS2.out
    have h9:=HMM.out
    rw [←hm] at hM ⊢
    exact HS4.out.again (k:=k) (by omega) (hJ.skip (by rw [HRR.out.1,HRR.out.2])) hR (by omega) (by omega) (by omega) (by rw [e1];omega) (by omega)
   ·have f3:((rx:Int) == (ry:Int))=false:=by simp;omega
    have hrn:rx<n∧ry<n:=by
     obtain ⟨_,hJ,_,_,_,_,_,hx,hy⟩:=HH.out
     exact ⟨HRR.out.1 ▸ (hJ.rt x hx).1,HRR.out.2 ▸ (hJ.rt y hy).1⟩
    obtain ⟨kb,cK,hK,c6,hkn⟩:=HS4.out.knows rx hrn.1
    have a0:=hkn rx hrn.1
    have b0:=hkn ry hrn.2
    obtain ⟨o1,ho1⟩:∃z,(kn1 rx).1=z:=⟨_,rfl⟩
    obtain ⟨o2,ho2⟩:∃z,(kn1 ry).1=z:=⟨_,rfl⟩
    obtain ⟨ma,hma⟩:∃z,oi o1=z:=⟨_,rfl⟩
    obtain ⟨mb,hmb⟩:∃z,oi o2=z:=⟨_,rfl⟩
    rw [ho1,hma] at a0
    rw [ho2,hmb] at b0
    have HMA:=kI (aI ho1 (aI ho2 (aI hma (aI hmb hrn))))
    have hrx9:rx<n:=hrn.1
    have hry9:ry<n:=hrn.2
    clear hK hkn ho1 ho2 hma hmb hrn
    go_wp2_with fail
    obtain ⟨S0,hSof,hSto⟩:∃S0:World→Prop,(∀W:World,W.cell? ⟨cb,6,none⟩=some (.slice (some ⟨kb,0,none⟩) n cK)∧W.cell? ⟨kb,rx*2,none⟩=some (.int .i64 ma)∧W.cell? ⟨kb,ry*2,none⟩=some (.int .i64 mb)→S0 W)∧(∀W,S0 W→W.cell? ⟨cb,6,none⟩=some (.slice (some ⟨kb,0,none⟩) n cK)∧W.cell? ⟨kb,rx*2,none⟩=some (.int .i64 ma)∧W.cell? ⟨kb,ry*2,none⟩=some (.int .i64 mb)):=⟨_,fun _ h=>h,fun _ h=>h⟩
    have hS:S0 w4.drew:=hSof _ ⟨c6,a0,b0⟩
    have EX:=kI hSto
    clear hSof hSto c6 a0 b0
    refine wp_region_held (S:=S0) (by kernel_rfl) ?_
    change wpAnyH _ _ _ _ _ 18 (List.replicate 18 false).toArray _ w4.drew
    simp only [List.replicate_succ,List.replicate_zero]
    refine tj (i:=0) (some 58) (.pointer (some ⟨cb,0,none⟩)) rfl hS ?_
    simp only [Act.put,zA,zB,zC]
    refine tj (i:=1) (some 59) (.pointer (some ⟨cb,0,none⟩)) rfl hS ?_
    simp only [Act.put,zA,zB,zC]
    refine tj (i:=2) (some 60) (.pointer (some ⟨cb,6,none⟩)) rfl hS ?_
    simp only [Act.put,zA,zB,zC]
    refine tk (i:=3) (some 61) (.slice (some ⟨kb,0,none⟩) n cK) rfl (fun W hw=>by obtain ⟨n0,n1,n2⟩:=EX.out W hw;clear hw;go_simp) hS ?_
    simp only [Act.put,zA,zB,zC]
    refine tj (i:=4) (some 62) (.int .i64 (rx:Nat)) rfl hS ?_
    simp only [Act.put,zA,zB,zC]
    refine tj (i:=5) (some 63) (.pointer (some ⟨kb,rx*2,none⟩)) rfl hS ?_
    simp only [Act.put,zA,zB,zC]
    refine tj (i:=6) (some 64) (.pointer (some ⟨kb,rx*2,none⟩)) rfl hS ?_
    simp only [Act.put,zA,zB,zC]
    refine tk (i:=7) (some 65) (.int .i64 ma) rfl (fun W hw=>by obtain ⟨n0,n1,n2⟩:=EX.out W hw;clear hw;go_simp) hS ?_
    simp only [Act.put,zA,zB,zC]
    refine tj (i:=8) (some 66) (.pointer (some ⟨cb,0,none⟩)) rfl hS ?_
    simp only [Act.put,zA,zB,zC]
    refine tj (i:=9) (some 67) (.pointer (some ⟨cb,0,none⟩)) rfl hS ?_
    simp only [Act.put,zA,zB,zC]
    refine tj (i:=10) (some 68) (.pointer (some ⟨cb,6,none⟩)) rfl hS ?_
    simp only [Act.put,zA,zB,zC]
    refine tk (i:=11) (some 69) (.slice (some ⟨kb,0,none⟩) n cK) rfl (fun W hw=>by obtain ⟨n0,n1,n2⟩:=EX.out W hw;clear hw;go_simp) hS ?_
    simp only [Act.put,zA,zB,zC]
    refine tj (i:=12) (some 70) (.int .i64 (ry:Nat)) rfl hS ?_
    simp only [Act.put,zA,zB,zC]
    refine tj (i:=13) (some 71) (.pointer (some ⟨kb,ry*2,none⟩)) rfl hS ?_
    simp only [Act.put,zA,zB,zC]
    refine tj (i:=14) (some 72) (.pointer (some ⟨kb,ry*2,none⟩)) rfl hS ?_
    simp only [Act.put,zA,zB,zC]
    refine tk (i:=15) (some 73) (.int .i64 mb) rfl (fun W hw=>by obtain ⟨n0,n1,n2⟩:=EX.out W hw;clear hw;go_simp) hS ?_
    simp only [Act.put,zA,zB,zC]
    refine tj (i:=16) (some 11) (.int .i64 ma) rfl hS ?_
    simp only [Act.put,zA,zB,zC]
    refine tj (i:=17) (some 12) (.int .i64 mb) rfl hS ?_
    simp only [Act.put,zA,zB,zC]
    refine wpAnyH_done (by kernel_rfl) ?_ _
    clear hS EX
    have hJN:∀W,Below w4.heap.size w4 W→Calls Tryz.prog 137 #[.pointer (some ⟨cb,0,none⟩),.int .i64 (rx:Nat),.int .i64 (ry:Nat)] W fun e w'=>e = .returned (.tuple #[])∧∃(kn2:Kn) (nx2 col2 ro2:Nat→Nat) (f3:Int),JaS O w1 cb A s2 n G kn2 nx2 col2 ro2 f3 g c T' w'∧f2≤f3∧f3≤f2+2*(dg n:Nat)∧(∀V,Jn G (paint col1 rx ry) E V→Js G n col2 ro2 kn2 E V)∧Un.Rings n nx2 (vc G col2)∧Un.cnt n col2+1=Un.cnt n col1∧col2=paint col1 rx ry:=by
     intro W hb
     obtain ⟨hS,hJ,hR,_,_,_,_,hx,hy⟩:=HH.out
     obtain ⟨ex,ey⟩:=HRR.out
     obtain ⟨_,_,_,_,hrx,hry⟩:=HMA.out
     have hne:ro1 x≠ro1 y:=by rw [ex,ey];exact hxy
     refine ((HS4.out.below hb).join HO.out (by have:=HCT.out;omega) (by have:=HBD.out;omega) rx ry hrx hry (by rw [←ex];exact hJ.vn hx) (by rw [←ey];exact hJ.vn hy) (by rw [←ex,←ey];exact hJ.two hx hy hne)).mono ?_
     rintro e w5 ⟨rfl,r,k3,ro2,hr,hro,hrc,hk3,hS5⟩
     refine ⟨rfl,_,_,_,ro2,_,hS5,by omega,by omega,fun V hV=>?_,?_,?_,rfl⟩
     ·rw [←ex,←ey] at hrc hro hV ⊢
      exact hJ.join hr hrc hro hV
     ·rw [←ex,←ey]
      exact hJ.rings hne hR
     ·rw [←ex,←ey]
      exact hJ.fewer hx hy hne
    have hJW:=hJN _ (Below.refl _ w4).drew
    clear hJN
    go_wp2_with fail
    refine hJW.mono ?_
    rintro e w5 ⟨rfl,kn2,nx2,col2,ro2,fj,hS5,hfj1,hfj2,hJ5,hR5,hc5,hcp⟩
    obtain ⟨_,_,_,_,c2,_,_⟩:=hS5.cl.cells
    have HG5:=kI hS5.cl.gr
    have HS5:=kI (aI hS5 (aI hfj1 (aI hfj2 (aI hJ5 (aI hR5 (aI hc5 hcp))))))
    clear hS5 hfj1 hfj2 hJ5 hR5 hc5 hcp hJW hrx9 hry9
    go_wp2_with fail
    obtain ⟨S0,hSof,hSto⟩:∃S0:World→Prop,(∀W:World,Below w5.heap.size w5 W→S0 W)∧(∀W,S0 W→W.cell? ⟨cb,2,none⟩=some (.pointer (some ⟨A.g,0,none⟩))):=
     ⟨fun W=>Below w5.heap.size w5 W,fun _ h=>h,fun W hb=>(hb.cell (World.block_lt_of_cell? _ _ c2)).trans c2⟩
    have hb5:Below w5.heap.size w5 w5.drew:=(Below.refl _ _).drew
    have HP1:=parts_oi (HG5.out.below hb5) o1 HPP.out
    rw [HMA.out.2.2.1] at HP1
    have hS:S0 w5.drew:=hSof _ hb5
    have EX:=kI hSto
    have HSOF:=kI hSof
    have HP1H:=kI HP1
    have HB5:=kI hb5
    clear hSof hSto HP1 hb5
    refine wp_region_held (S:=S0) (by kernel_rfl) ?_
    change wpAnyH _ _ _ _ _ 14 (List.replicate 14 false).toArray _ w5.drew
    simp only [List.replicate_succ,List.replicate_zero]
    refine tj (i:=0) (some 78) (.pointer (some ⟨cb,0,none⟩)) rfl hS ?_
    simp only [Act.put,zA,zB,zC]
    refine tj (i:=1) (some 79) (.pointer (some ⟨cb,0,none⟩)) rfl hS ?_
    simp only [Act.put,zA,zB,zC]
    refine tj (i:=2) (some 80) (.pointer (some ⟨cb,2,none⟩)) rfl hS ?_
    simp only [Act.put,zA,zB,zC]
    refine tk (i:=3) (some 81) (.pointer (some ⟨A.g,0,none⟩)) rfl (fun W hw=>by have n0:=EX.out W hw;clear hw;go_simp) hS ?_
    simp only [Act.put,zA,zB,zC]
    refine tj (i:=4) (some 82) (.int .i64 ma) rfl hS ?_
    simp only [Act.put,zA,zB,zC]
    refine tj (i:=6) (some 84) (.pointer (some ⟨cb,0,none⟩)) rfl hS ?_
    simp only [Act.put,zA,zB,zC]
    refine tj (i:=7) (some 85) (.pointer (some ⟨cb,0,none⟩)) rfl hS ?_
    simp only [Act.put,zA,zB,zC]
    refine tj (i:=8) (some 86) (.pointer (some ⟨cb,2,none⟩)) rfl hS ?_
    simp only [Act.put,zA,zB,zC]
    refine tk (i:=9) (some 87) (.pointer (some ⟨A.g,0,none⟩)) rfl (fun W hw=>by have n0:=EX.out W hw;clear hw;go_simp) hS ?_
    simp only [Act.put,zA,zB,zC]
    refine tj (i:=10) (some 88) (.int .i64 mb) rfl hS ?_
    simp only [Act.put,zA,zB,zC]
    refine aK 5 ?_
    refine ops_call (d:=some 83) rfl (by rfl) (by kernel_rfl) (by go_simp) (HP1H.out.mono ?_)
    rintro e w6 ⟨v1,rfl,hv1,hb6⟩
    obtain ⟨a1,c1,rfl,hc11,hc12⟩:=Un.own_form hv1
    obtain ⟨l1,hl1⟩:∃z,(partsO G o1).length=z:=⟨_,rfl⟩
    have hb6:=HB5.out.trans hb6
    have HP2:=parts_oi (HG5.out.below hb6) o2 HPP.out
    rw [HMA.out.2.2.2.1] at HP2
    have hS6:=HSOF.out w6 hb6
    have HB6:=kI (aI hv1 (aI hb6 (aI hl1 (aI hc11 hc12))))
    have HP2H:=kI HP2
    rw [hl1]
    clear hv1 hb6 hl1 HP2 hc11 hc12
    refine ⟨_,rfl,hS6,?_⟩
    simp only [Act.put,zA,zB,zC]
    refine aK 11 ?_
    refine ops_call (d:=some 89) rfl (by rfl) (by kernel_rfl) (by go_simp) (HP2H.out.mono ?_)
    rintro e w7 ⟨v2,rfl,hv2,hb7⟩
    obtain ⟨a2,c22,rfl,hc21,hc22⟩:=Un.own_form hv2
    obtain ⟨l2,hl2⟩:∃z,(partsO G o2).length=z:=⟨_,rfl⟩
    have hb67:=hb7
    have hb7:=HB6.out.2.1.trans (hb7.mono HB6.out.2.1.size)
    have hS7:=HSOF.out w7 hb7
    have HB7:=kI (aI hv2 (aI hb7 (aI hl2 (aI hc21 (aI hc22 hb67)))))
    rw [hl2]
    clear hv2 hb7 hl2 hc21 hc22 hb67
    refine ⟨_,rfl,hS7,?_⟩
    simp only [Act.put,zA,zB,zC]
    refine tj (i:=12) (some 13) (.slice a1 l1 c1) rfl hS7 ?_
    simp only [Act.put,zA,zB,zC]
    refine tj (i:=13) (some 14) (.slice a2 l2 c22) rfl hS7 ?_
    simp only [Act.put,zA,zB,zC]
    refine wpAnyH_done (by kernel_rfl) ?_ _
    clear hS hS6 HP2H HP1H
    clear HSOF EX hS7
    have c27:w7.cell? ⟨cb,2,none⟩=some (.pointer (some ⟨A.g,0,none⟩)):=(HB7.out.2.1.cell (World.block_lt_of_cell? _ _ c2)).trans c2
    clear c2
    cases o1 with
    | none=>
     have f4:(ma == -1)=true:=by rw [←HMA.out.2.2.1];rfl
     go_wp2_with fail
     obtain ⟨hS,hJ,hR,hf1,hf2,hM,hm,hx,hy⟩:=HH.out
     obtain ⟨hkM,hk21,hs1,hb1,hb2⟩:=HB.out
     have hk1:=HK1.out
     obtain ⟨_,hk2,hf⟩:=HK2.out
     have e1:=stepsOf_eq hS.cl
     have hs2:=HS2.out
     have h9:=HMM.out
     obtain ⟨ex,ey⟩:=HRR.out
     obtain ⟨ho1,ho2,_,_,hrx,hry⟩:=HMA.out
     obtain ⟨hS5,g1,g2,hJ5,hR5,hc5,hcp⟩:=HS5.out
     have hJn:=hJ.var (.inl (by rw [ex];exact ho1))
     rw [ex,ey] at hJn
     rw [←hm] at hM ⊢
     exact (hS5.below HB7.out.2.1).again (k:=k) (by omega) (hJ5 _ hJn) hR5 (by omega) (by omega) (by omega) (by rw [e1];omega) (by omega)
    | some ka=>
     have f4:(ma == -1)=false:=by rw [←HMA.out.2.2.1];exact oi_none ka
     cases o2 with
     | none=>
      have f5:(mb == -1)=true:=by rw [←HMA.out.2.2.2.1];rfl
      go_wp2_with fail
      obtain ⟨hS,hJ,hR,hf1,hf2,hM,hm,hx,hy⟩:=HH.out
      obtain ⟨hkM,hk21,hs1,hb1,hb2⟩:=HB.out
      have hk1:=HK1.out
      obtain ⟨_,hk2,hf⟩:=HK2.out
      have e1:=stepsOf_eq hS.cl
      have hs2:=HS2.out
      have h9:=HMM.out
      obtain ⟨ex,ey⟩:=HRR.out
      obtain ⟨ho1,ho2,_,_,hrx,hry⟩:=HMA.out
      obtain ⟨hS5,g1,g2,hJ5,hR5,hc5,hcp⟩:=HS5.out
      have hJn:=hJ.var (.inr (by rw [ey];exact ho2))
      rw [ex,ey] at hJn
      rw [←hm] at hM ⊢
      exact (hS5.below HB7.out.2.1).again (k:=k) (by omega) (hJ5 _ hJn) hR5 (by omega) (by omega) (by omega) (by rw [e1];omega) (by omega)
     | some kd=>
      have f5:(mb == -1)=false:=by rw [←HMA.out.2.2.2.1];exact oi_none kd
      obtain ⟨p,hp,p1,q,hq,q1⟩:∃p,G[ka]? = some p∧p.1≠1∧∃q,G[kd]? = some q∧q.1≠1:=by
       obtain ⟨hS,hJ,hR,hf1,hf2,hM,hm,hx,hy⟩:=HH.out
       obtain ⟨ex,ey⟩:=HRR.out
       obtain ⟨ho1,ho2,_⟩:=HMA.out
       obtain ⟨_,p,hp,p1⟩:=hJ.made hx (by rw [ex];exact ho1)
       obtain ⟨_,q,hq,q1⟩:=hJ.made hy (by rw [ey];exact ho2)
       exact ⟨p,hp,p1,q,hq,q1⟩
      have eP:partsO G (some ka)=p.2.2.2:=by simp [partsO,hp]
      have eQ:partsO G (some kd)=q.2.2.2:=by simp [partsO,hq]
      obtain ⟨ka1,hka1⟩:∃z,p.1=z:=⟨_,rfl⟩
      obtain ⟨kd1,hkd1⟩:∃z,q.1=z:=⟨_,rfl⟩
      have eK1:kindO G (some ka)=ka1:=by simp [kindO,hp,hka1]
      have eK2:kindO G (some kd)=kd1:=by simp [kindO,hq,hkd1]
      have HPQ:=kI (aI hp (aI p1 (aI hq (aI q1 (aI eP (aI eQ (aI hka1 hkd1)))))))
      clear hp p1 hq q1 eP eQ hka1 hkd1
      go_wp2_with fail
      obtain ⟨S0,hSof,hSto⟩:∃S0:World→Prop,(∀W:World,Below w7.heap.size w7 W→S0 W)∧(∀W,S0 W→W.cell? ⟨cb,2,none⟩=some (.pointer (some ⟨A.g,0,none⟩))):=
       ⟨fun W=>Below w7.heap.size w7 W,fun _ h=>h,fun W hb=>(hb.cell (World.block_lt_of_cell? _ _ c27)).trans c27⟩
      have hb77:Below w7.heap.size w7 w7.drew:=(Below.refl _ _).drew
      have HG7:=kI (HG5.out.below HB7.out.2.1)
      have HP1:=kind_oi (A:=A) (HG7.out.below hb77) (some ka)
      rw [HMA.out.2.2.1,eK1] at HP1
      have hS:S0 w7.drew:=hSof _ hb77
      have EX:=kI hSto
      have HSOF:=kI hSof
      have HP1H:=kI HP1
      have HB77:=kI hb77
      have HEK:=kI eK2
      clear hSof hSto HP1 hb77 eK1 eK2 c27
      refine wp_region_held (S:=S0) (by kernel_rfl) ?_
      change wpAnyH _ _ _ _ _ 21 (List.replicate 21 false).toArray _ w7.drew
      simp only [List.replicate_succ,List.replicate_zero]
      refine tj (i:=0) (some 98) (.pointer (some ⟨cb,0,none⟩)) rfl hS ?_
      simp only [Act.put,zA,zB,zC]
      refine tj (i:=1) (some 99) (.pointer (some ⟨cb,0,none⟩)) rfl hS ?_
      simp only [Act.put,zA,zB,zC]
      refine tj (i:=2) (some 100) (.pointer (some ⟨cb,2,none⟩)) rfl hS ?_
      simp only [Act.put,zA,zB,zC]
      refine tk (i:=3) (some 101) (.pointer (some ⟨A.g,0,none⟩)) rfl (fun W hw=>by have n0:=EX.out W hw;clear hw;go_simp) hS ?_
      simp only [Act.put,zA,zB,zC]
      refine tj (i:=4) (some 102) (.int .i64 ma) rfl hS ?_
      simp only [Act.put,zA,zB,zC]
      refine tj (i:=6) (some 104) (.pointer (some ⟨cb,0,none⟩)) rfl hS ?_
      simp only [Act.put,zA,zB,zC]
      refine tj (i:=7) (some 105) (.pointer (some ⟨cb,0,none⟩)) rfl hS ?_
      simp only [Act.put,zA,zB,zC]
      refine tj (i:=8) (some 106) (.pointer (some ⟨cb,2,none⟩)) rfl hS ?_
      simp only [Act.put,zA,zB,zC]
      refine tk (i:=9) (some 107) (.pointer (some ⟨A.g,0,none⟩)) rfl (fun W hw=>by have n0:=EX.out W hw;clear hw;go_simp) hS ?_
      simp only [Act.put,zA,zB,zC]
      refine tj (i:=10) (some 108) (.int .i64 mb) rfl hS ?_
      simp only [Act.put,zA,zB,zC]
      refine aK 5 ?_
      refine ops_call (d:=some 103) rfl (by rfl) (by kernel_rfl) (by go_simp) (HP1H.out.mono ?_)
      rintro e w8 ⟨rfl,hb8⟩
      have hb8:=HB77.out.trans hb8
      have HP2:=kind_oi (A:=A) (HG7.out.below hb8) (some kd)
      rw [HMA.out.2.2.2.1,HEK.out] at HP2
      have hS8:=HSOF.out w8 hb8
      have HB8:=kI hb8
      have HP2H:=kI HP2
      clear hb8 HP2
      refine ⟨_,rfl,hS8,?_⟩
      simp only [Act.put,zA,zB,zC]
      refine aK 11 ?_
      refine ops_call (d:=some 109) rfl (by rfl) (by kernel_rfl) (by go_simp) (HP2H.out.mono ?_)
      rintro e w9 ⟨rfl,hb9⟩
      have hb9:=HB8.out.trans (hb9.mono HB8.out.size)
      have hS9:=HSOF.out w9 hb9
      have HB9:=kI hb9
      clear hb9
      refine ⟨_,rfl,hS9,?_⟩
      simp only [Act.put,zA,zB,zC]
      by_cases hkk:ka1=kd1
      ·subst hkk
       refine tj (i:=12) (some 110) (.bool false) rfl hS9 ?_
       simp only [Act.put,zA,zB,zC]
       refine tj (i:=13) (some 111) (.bool false) rfl hS9 ?_
       simp only [Act.put,zA,zB,zC]
       refine tj (i:=14) (some 112) (.slice a1 l1 c1) rfl hS9 ?_
       simp only [Act.put,zA,zB,zC]
       refine tj (i:=15) (some 113) (.int .i64 (l1:Nat)) rfl hS9 ?_
       simp only [Act.put,zA,zB,zC]
       refine tj (i:=16) (some 114) (.slice a2 l2 c22) rfl hS9 ?_
       simp only [Act.put,zA,zB,zC]
       refine tj (i:=17) (some 115) (.int .i64 (l2:Nat)) rfl hS9 ?_
       simp only [Act.put,zA,zB,zC]
       by_cases hll:l1=l2
       ·subst hll
        refine tj (i:=18) (some 116) (.bool false) rfl hS9 ?_
        simp only [Act.put,zA,zB,zC]
        refine tj (i:=19) (some 117) (.bool false) rfl hS9 ?_
        simp only [Act.put,zA,zB,zC]
        refine tj (i:=20) (some 97) (.bool false) rfl hS9 ?_
        simp only [Act.put,zA,zB,zC]
        refine wpAnyH_done (by kernel_rfl) ?_ _
        clear hS hS8 hS9 HP1H HP2H EX HSOF
        obtain ⟨Pl,hPl⟩:∃z,p.2.2.2=z:=⟨_,rfl⟩
        obtain ⟨Ql,hQl⟩:∃z,q.2.2.2=z:=⟨_,rfl⟩
        have hS9:JaS O w1 cb A s2 n G kn2 nx2 col2 ro2 fj g c T' w9:=HS5.out.1.below (HB7.out.2.1.trans (HB9.out.mono HB7.out.2.1.size))
        have hg5:=(HS5.out.1.row.lt g rfl).2
        have hP1:Pl.length=l1:=by rw [←hPl,←HPQ.out.2.2.2.2.1];exact HB6.out.2.2.1
        have hQ1:Ql.length=l1:=by rw [←hQl,←HPQ.out.2.2.2.2.2.1];exact HB7.out.2.2.1
        have hl18:l1≤8:=by rw [←hP1,←hPl];exact HPP.out p (List.mem_of_getElem? HPQ.out.1)
        have hr1:w9.ownsRow w5.heap.size 3 1 (.slice a1 l1 c1) l1 (nums Pl):=by
         have h:=HB6.out.1
         rw [HPQ.out.2.2.2.2.1,hPl,hP1] at h
         exact own_else (own_else h (Else.of_below (S:=fun _=>False) HB7.out.2.2.2.2.2) fun _ _ e=>e) (Else.of_below (S:=fun _=>False) HB9.out) fun _ _ e=>e
        have hr2:w9.ownsRow w5.heap.size 3 1 (.slice a2 l1 c22) l1 (nums Ql):=by
         have h:=HB7.out.1
         rw [HPQ.out.2.2.2.2.2.1,hQl,hQ1] at h
         exact own_else (own_mono h HB6.out.2.1.size) (Else.of_below (S:=fun _=>False) HB9.out) fun _ _ e=>e
        have hpl:∀j,((pairs Pl Ql).take j).length=min j l1:=fun j=>by simp [pairs,hP1,hQ1]
        have HL:=kI (aI hPl (aI hQl (aI hg5 (aI hP1 (aI hQ1 (aI hl18 (aI hr1 (aI hr2 (aI hpl hS9)))))))))
        clear hPl hQl hS9 hg5 hP1 hQ1 hl18 hr1 hr2 hpl
        go_wp2_with fail
        go_loopw [7,123] (fun s t W=>∃(j g' c':Nat),s = .slice (some ⟨g',0,none⟩) (m+j) c'∧t = .int .i64 (j:Nat)∧j≤l1∧JaS O w1 cb A s2 n G kn2 nx2 col2 ro2 fj g' c' (T'++(pairs Pl Ql).take j) W∧(g'=g∨w9.heap.size≤g')∧Else (fun b=>b=g∨w9.heap.size≤b) w9 W) (fun _ t _=>l1-(intOf t).toNat)
        case atStart=>exact ⟨0,g,c,rfl,rfl,Nat.zero_le _,by simpa using HL.out.2.2.2.2.2.2.2.2.2,.inl rfl,Else.refl _ _⟩
        case round=>
         obtain ⟨j,g',c',rfl,rfl,hj,hSj,hgg,hEj⟩:=hrel
         obtain ⟨hPl,hQl,hg5,hP1,hQ1,hl18,hr1,hr2,hpl,_⟩:=HL.out
         have hlen:(T'++(pairs Pl Ql).take j).length=m+j:=by
          rw [List.length_append,hpl,HH.out.2.2.2.2.2.2.1];omega
         by_cases hjl:j<l1
         ·have f7:decide ((j:Int)<(l1:Int))=true:=decide_eq_true (by omega)
          have q1:=own_else hr1 hEj fun b hb e=>by
           have:=hr1.lt b hb
           omega
          have q2:=own_else hr2 hEj fun b hb e=>by
           have:=hr2.lt b hb
           omega
          obtain ⟨b1,cc1,e1,_,_⟩:=Un.own_shape q1 (by omega)
          cases e1
          obtain ⟨b2,cc2,e2,_,_⟩:=Un.own_shape q2 (by omega)
          cases e2
          obtain ⟨u,hu⟩:∃u,Pl[j]? = some u:=⟨_,List.getElem?_eq_getElem (by omega)⟩
          obtain ⟨v,hv⟩:∃v,Ql[j]? = some v:=⟨_,List.getElem?_eq_getElem (by omega)⟩
          have x1:wr.cell? ⟨b1,j,none⟩=some (.int .i64 (u:Nat)):=by
           have h:=q1.cellAt j (by omega)
           rw [h]
           simp [nums,ints,toI,hu]
          have y1:wr.cell? ⟨b2,j,none⟩=some (.int .i64 (v:Nat)):=by
           have h:=q2.cellAt j (by omega)
           rw [h]
           simp [nums,ints,toI,hv]
          obtain ⟨g2,c2,w2,hrun,hS2,hE2,hg2⟩:=(hSj.below (Below.refl _ wr).drew).push HO.out (u,v) (by have:=HBD.out.2.2.1;rw [hlen];omega)
          rw [hlen] at hrun
          have hpt:(pairs Pl Ql).take (j+1)=(pairs Pl Ql).take j ++ [(u,v)]:=by
           rw [List.take_add_one]
           have:(pairs Pl Ql)[j]? = some (u,v):=List.getElem?_zip_eq_some.2 ⟨hu,hv⟩
           rw [this]
           rfl
          rw [List.append_assoc,←hpt] at hS2
          have hgl':=hSj.row.lt g' rfl
          have hEn:Else (fun b=>b=g∨w9.heap.size≤b) w9 w2:=hEj.trans ((Un.Else.drew (Else.refl _ wr)).trans (hE2.mono fun k hk=>by omega))
          have hgn:g2=g∨w9.heap.size≤g2:=by
           have:=hEj.size
           have e:wr.drew.heap.size=wr.heap.size:=rfl
           omega
          have HN:=kI (aI hS2 (aI hEn (aI hgn hjl)))
          clear hS2 hEn hgn hE2 hg2 hpt hr1 hr2 q1 q2 hSj hEj hPl hQl hP1 hQ1 hpl hu hv hlen hgl' hgg hg5
          go_wp2_with fail
          go_region_law (refine step_app (by rfl) (.tmp 126) (.tmp 136) 101 (by rfl) (show (app_ #[101,101] 101 #[.slice (some ⟨g',0,none⟩) (m+j) c',.slice (some ⟨wr.heap.size,0,none⟩) 1 1]).run _ _=_ from hrun) (by rfl) (by rfl) ?_)
          all_goals (
           go_wp2_with fail
           obtain ⟨hS2,hEn,hgn,hjl⟩:=HN.out
           refine ⟨⟨j+1,g2,c2,rfl,congrArg (Value.int .i64) (by omega),by omega,hS2,hgn,hEn⟩,?_⟩
           show l1-(intOf (.int .i64 ((j:Int)+1))).toNat<l1-(intOf (.int .i64 (j:Nat))).toNat
           simp only [intOf]
           omega)
         ·obtain rfl:j=l1:=by omega
          have f7:decide ((j:Int)<(j:Int))=false:=decide_eq_false (by omega)
          have HN:=kI (aI hSj (aI hlen hpl))
          clear hSj hlen hpl hr1 hr2 hEj hgg
          go_wp2_with fail
          obtain ⟨hSj,hlen,hpl⟩:=HN.out
          obtain ⟨hS,hJ,hR,hf1,hf2,hM,hm,hx,hy⟩:=HH.out
          obtain ⟨hkM,hk21,hs1,hb1,hb2⟩:=HB.out
          have hk1:=HK1.out
          obtain ⟨_,hk2,hf⟩:=HK2.out
          have e1:=stepsOf_eq hS.cl
          have hs2:=HS2.out
          have h9:=HMM.out
          obtain ⟨ex,ey⟩:=HRR.out
          obtain ⟨ho1,ho2,_,_,hrx,hry⟩:=HMA.out
          obtain ⟨hS5,g1,g2,hJ5,hR5,hc5,hcp⟩:=HS5.out
          obtain ⟨hp,p1,hq,q1,eP,eQ,hka1,hkd1⟩:=HPQ.out
          have hJn:=hJ.both (by rw [ex];exact ho1) (by rw [ey];exact ho2) hp hq ⟨hkd1 ▸ hka1,by rw [hPl,hQl,hP1,hQ1]⟩
          rw [ex,ey,hPl,hQl] at hJn
          have htk:(pairs Pl Ql).take j=pairs Pl Ql:=List.take_of_length_le (by simp [pairs,hP1,hQ1])
          rw [htk] at hSj hlen
          rw [←hlen]
          exact hSj.again (k:=k) (by omega) (hJ5 _ hJn) hR5 (by omega) (by omega) (by omega) (by rw [e1];omega) (by omega)
       ·have f6:((l1:Int) != (l2:Int))=true:=by simp;omega
        refine tj (i:=18) (some 116) (.bool true) rfl hS9 ?_
        simp only [Act.put,zA,zB,zC]
        refine tj (i:=19) (some 117) (.bool true) rfl hS9 ?_
        simp only [Act.put,zA,zB,zC]
        refine tj (i:=20) (some 97) (.bool true) rfl hS9 ?_
        simp only [Act.put,zA,zB,zC]
        refine wpAnyH_done (by kernel_rfl) ?_ _
        clear hS hS8 hS9 HP1H HP2H EX HSOF
        have hS5:=HS5.out.1
        have hb79:=HB7.out.2.1.trans (HB9.out.mono HB7.out.2.1.size)
        have hS9f:=hS5.below hb79
        obtain ⟨cl9,hz9,_,c19,_,_,_⟩:=hS9f.cl.cells
        have hz91:=hz9 1
        have HS9:=kI hS9f
        clear hS5 hb79 hS9f hz9
        go_wp2_with fail
        obtain ⟨fE,hfE⟩:∃z,fj=z:=⟨_,rfl⟩
        have hCe:=HS9.out.cl.set1 true
        have hbf:fs≤fj∧fj≤fs+4*(dg n:Int)*k+4*(dg n:Int)∧4*(dg n:Int)*k≤84*k∧(k:Int)≤10000000∧dg n≤21:=by
         obtain ⟨hS,hJ,hR,hf1,hf2,hM,hm,hx,hy⟩:=HH.out
         obtain ⟨hkM,hk21,hs1,hb1,hb2⟩:=HB.out
         have hk1:=HK1.out
         obtain ⟨_,hk2,hf⟩:=HK2.out
         obtain ⟨hS5,g1,g2,hJ5,hR5,hc5,hcp⟩:=HS5.out
         have:=HCT.out
         omega
        have hs2b:=HBD.out.2.1
        obtain ⟨w9s,hw9s⟩:∃z,w9.setCell ⟨cb,1,none⟩ (.bool true)=z:=⟨_,rfl⟩
        rw [hw9s] at hCe ⊢
        have HW9:=kI hw9s
        rw [hfE] at hCe hbf
        have HFE:=kI hfE
        clear hw9s hfE cl9 hz91 c19
        have hCd:=hCe.below (Below.refl _ w9s).drew
        have HST:=Un.steps_st (w:=w9s.drew) (hCd.stm hn) (by omega)
        have HCN:=count_cl (w:=w9s.drew) hCd (fE-fs) (by omega) (by omega)
        obtain ⟨dE,hdE⟩:∃z,fE-fs=z:=⟨_,rfl⟩
        rw [hdE] at HCN
        have hwr:IntKind.i64.wrap (fE-fs)=dE:=by rw [hdE];exact wrap_small dE (by omega) (by omega)
        have HDE:=kI hdE
        have HSTH:=kI HST
        have HCNH:=kI HCN
        have hT:(fun _:World=>True) w9s.drew:=trivial
        clear hCd HST HCN hCe hdE
        refine wp_region_held (S:=fun _:World=>True) (by kernel_rfl) ?_
        change wpAnyH _ _ _ _ _ 10 (List.replicate 10 false).toArray _ w9s.drew
        simp only [List.replicate_succ,List.replicate_zero]
        refine tj (i:=0) (some 139) (.pointer (some ⟨cb,0,none⟩)) rfl hT ?_
        simp only [Act.put,zA,zB,zC]
        refine tj (i:=1) (some 140) (.pointer (some ⟨cb,0,none⟩)) rfl hT ?_
        simp only [Act.put,zA,zB,zC]
        refine tj (i:=2) (some 141) (.pointer (some ⟨cb,0,none⟩)) rfl hT ?_
        simp only [Act.put,zA,zB,zC]
        refine tj (i:=3) (some 142) (.pointer (some ⟨cb,0,none⟩)) rfl hT ?_
        simp only [Act.put,zA,zB,zC]
        refine tj (i:=4) (some 143) (.pointer (some ⟨cb,0,none⟩)) rfl hT ?_
        simp only [Act.put,zA,zB,zC]
        refine tj (i:=5) (some 144) (.pointer (some ⟨cb,3,none⟩)) rfl hT ?_
        simp only [Act.put,zA,zB,zC]
        refine tj (i:=7) (some 146) (.int .i64 fs) rfl hT ?_
        simp only [Act.put,zA,zB,zC]
        refine aK 6 ?_
        refine ops_call (d:=some 145) rfl (by rfl) (by kernel_rfl) (by go_simp) (HSTH.out.mono ?_)
        rintro e w10 ⟨rfl,rfl⟩
        refine ⟨_,rfl,hT,?_⟩
        simp only [Act.put,zA,zB,zC]
        refine tj (i:=8) (some 147) (.int .i64 dE) rfl hT ?_
        simp only [Act.put,zA,zB,zC]
        refine aK 9 ?_
        refine ops_call (d:=some 148) rfl (by rfl) (by kernel_rfl) (by go_simp) (HCNH.out.mono ?_)
        rintro e w11 ⟨rfl,hC11,hE11⟩
        have H11:=kI (aI hC11 hE11)
        clear hC11 hE11
        refine ⟨_,rfl,trivial,?_⟩
        simp only [Act.put,zA,zB,zC]
        refine wpAnyH_done (by kernel_rfl) ?_ _
        clear hT hwr HSTH HCNH
        go_wp2_with fail
        have hnf:¬ Fit p q:=fun e=>hll (by
         have h6:=HB6.out.2.2.1
         have h7:=HB7.out.2.2.1
         rw [HPQ.out.2.2.2.2.1] at h6
         rw [HPQ.out.2.2.2.2.2.1] at h7
         rw [←h6,←h7]
         exact e.2)
        obtain ⟨hC11,hE11⟩:=H11.out
        obtain ⟨hS,hJ,hR,hf1,hf2,hM,hm,hx,hy⟩:=HH.out
        obtain ⟨hkM,hk21,hs1,hb1,hb2⟩:=HB.out
        have hs2:=HS2.out
        obtain ⟨ex,ey⟩:=HRR.out
        obtain ⟨ho1,ho2,_⟩:=HMA.out
        obtain ⟨hp,p1,hq,q1,eP,eQ,hka1,hkd1⟩:=HPQ.out
        have hOc:O cb:=HS9.out.cl.own _ (.inr (.inr (.inl rfl)))
        have hEs:Else O w9 w9s:=by rw [←HW9.out];exact Un.Else.set (S:=O) w9 (p:=⟨cb,1,none⟩) hOc _
        have hEE:Else O w1 w11:=((HS9.out.els.trans (hEs.mono fun k hk=>.inl hk)).trans ((Un.Else.drew (Else.refl _ w9s)).trans (hE11.mono fun k hk=>.inl (hk ▸ hOc)))).old fun k hk=>hk
        have hcl:Clash G E:=hJ.clash (by rw [ex];exact ho1) (by rw [ey];exact ho2) hp hq hnf
        have hMM:k+1≤M:=by omega
        have hs2':s2=st+(k:Int)+1:=by omega
        exact bodyPost_end (results_none rfl _ _ _) rfl (ja_clash hC11 hs2' HDE.out hbf.1 hbf.2.1 hMM hcl hEE)
      ·have f6:(ka1 != kd1)=true:=by simpa using hkk
       refine tj (i:=12) (some 110) (.bool true) rfl hS9 ?_
       simp only [Act.put,zA,zB,zC]
       refine tj (i:=13) (some 111) (.bool true) rfl hS9 ?_
       simp only [Act.put,zA,zB,zC]
       refine any_take (i:=14) (some 112) (undef) rfl (by rfl) (by kernel_rfl) (by kernel_rfl) (by kernel_rfl) (fun _ _ _ h=>h) (Or.inr ⟨by kernel_rfl,rfl⟩) hS9 ?_
       simp only [Act.put,zA,zB,zC]
       refine any_take (i:=15) (some 113) (undef) rfl (by rfl) (by kernel_rfl) (by kernel_rfl) (by kernel_rfl) (fun _ _ _ h=>h) (Or.inr ⟨by kernel_rfl,rfl⟩) hS9 ?_
       simp only [Act.put,zA,zB,zC]
       refine any_take (i:=16) (some 114) (undef) rfl (by rfl) (by kernel_rfl) (by kernel_rfl) (by kernel_rfl) (fun _ _ _ h=>h) (Or.inr ⟨by kernel_rfl,rfl⟩) hS9 ?_
       simp only [Act.put,zA,zB,zC]
       refine any_take (i:=17) (some 115) (undef) rfl (by rfl) (by kernel_rfl) (by kernel_rfl) (by kernel_rfl) (fun _ _ _ h=>h) (Or.inr ⟨by kernel_rfl,rfl⟩) hS9 ?_
       simp only [Act.put,zA,zB,zC]
       refine any_take (i:=18) (some 116) (undef) rfl (by rfl) (by kernel_rfl) (by kernel_rfl) (by kernel_rfl) (fun _ _ _ h=>h) (Or.inr ⟨by kernel_rfl,rfl⟩) hS9 ?_
       simp only [Act.put,zA,zB,zC]
       refine tj (i:=19) (some 117) (.bool true) rfl hS9 ?_
       simp only [Act.put,zA,zB,zC]
       refine tj (i:=20) (some 97) (.bool true) rfl hS9 ?_
       simp only [Act.put,zA,zB,zC]
       refine wpAnyH_done (by kernel_rfl) ?_ _
       clear hS hS8 hS9 HP1H HP2H EX HSOF
       have hS5:=HS5.out.1
       have hb79:=HB7.out.2.1.trans (HB9.out.mono HB7.out.2.1.size)
       have hS9f:=hS5.below hb79
       obtain ⟨cl9,hz9,_,c19,_,_,_⟩:=hS9f.cl.cells
       have hz91:=hz9 1
       have HS9:=kI hS9f
       clear hS5 hb79 hS9f hz9
       go_wp2_with fail
       obtain ⟨fE,hfE⟩:∃z,fj=z:=⟨_,rfl⟩
       have hCe:=HS9.out.cl.set1 true
       have hbf:fs≤fj∧fj≤fs+4*(dg n:Int)*k+4*(dg n:Int)∧4*(dg n:Int)*k≤84*k∧(k:Int)≤10000000∧dg n≤21:=by
        obtain ⟨hS,hJ,hR,hf1,hf2,hM,hm,hx,hy⟩:=HH.out
        obtain ⟨hkM,hk21,hs1,hb1,hb2⟩:=HB.out
        have hk1:=HK1.out
        obtain ⟨_,hk2,hf⟩:=HK2.out
        obtain ⟨hS5,g1,g2,hJ5,hR5,hc5,hcp⟩:=HS5.out
        have:=HCT.out
        omega
       have hs2b:=HBD.out.2.1
       obtain ⟨w9s,hw9s⟩:∃z,w9.setCell ⟨cb,1,none⟩ (.bool true)=z:=⟨_,rfl⟩
       rw [hw9s] at hCe ⊢
       have HW9:=kI hw9s
       rw [hfE] at hCe hbf
       have HFE:=kI hfE
       clear hw9s hfE cl9 hz91 c19
       have hCd:=hCe.below (Below.refl _ w9s).drew
       have HST:=Un.steps_st (w:=w9s.drew) (hCd.stm hn) (by omega)
       have HCN:=count_cl (w:=w9s.drew) hCd (fE-fs) (by omega) (by omega)
       obtain ⟨dE,hdE⟩:∃z,fE-fs=z:=⟨_,rfl⟩
       rw [hdE] at HCN
       have hwr:IntKind.i64.wrap (fE-fs)=dE:=by rw [hdE];exact wrap_small dE (by omega) (by omega)
       have HDE:=kI hdE
       have HSTH:=kI HST
       have HCNH:=kI HCN
       have hT:(fun _:World=>True) w9s.drew:=trivial
       clear hCd HST HCN hCe hdE
       refine wp_region_held (S:=fun _:World=>True) (by kernel_rfl) ?_
       change wpAnyH _ _ _ _ _ 10 (List.replicate 10 false).toArray _ w9s.drew
       simp only [List.replicate_succ,List.replicate_zero]
       refine tj (i:=0) (some 139) (.pointer (some ⟨cb,0,none⟩)) rfl hT ?_
       simp only [Act.put,zA,zB,zC]
       refine tj (i:=1) (some 140) (.pointer (some ⟨cb,0,none⟩)) rfl hT ?_
       simp only [Act.put,zA,zB,zC]
       refine tj (i:=2) (some 141) (.pointer (some ⟨cb,0,none⟩)) rfl hT ?_
       simp only [Act.put,zA,zB,zC]
       refine tj (i:=3) (some 142) (.pointer (some ⟨cb,0,none⟩)) rfl hT ?_
       simp only [Act.put,zA,zB,zC]
       refine tj (i:=4) (some 143) (.pointer (some ⟨cb,0,none⟩)) rfl hT ?_
       simp only [Act.put,zA,zB,zC]
       refine tj (i:=5) (some 144) (.pointer (some ⟨cb,3,none⟩)) rfl hT ?_
       simp only [Act.put,zA,zB,zC]
       refine tj (i:=7) (some 146) (.int .i64 fs) rfl hT ?_
       simp only [Act.put,zA,zB,zC]
       refine aK 6 ?_
       refine ops_call (d:=some 145) rfl (by rfl) (by kernel_rfl) (by go_simp) (HSTH.out.mono ?_)
       rintro e w10 ⟨rfl,rfl⟩
       refine ⟨_,rfl,hT,?_⟩
       simp only [Act.put,zA,zB,zC]
       refine tj (i:=8) (some 147) (.int .i64 dE) rfl hT ?_
       simp only [Act.put,zA,zB,zC]
       refine aK 9 ?_
       refine ops_call (d:=some 148) rfl (by rfl) (by kernel_rfl) (by go_simp) (HCNH.out.mono ?_)
       rintro e w11 ⟨rfl,hC11,hE11⟩
       have H11:=kI (aI hC11 hE11)
       clear hC11 hE11
       refine ⟨_,rfl,trivial,?_⟩
       simp only [Act.put,zA,zB,zC]
       refine wpAnyH_done (by kernel_rfl) ?_ _
       clear hT hwr HSTH HCNH
       go_wp2_with fail
       have hnf:¬ Fit p q:=fun e=>hkk (by
        have h6:=HPQ.out.2.2.2.2.2.2.1
        have h7:=HPQ.out.2.2.2.2.2.2.2
        rw [←h6,←h7]
        exact e.1)
       obtain ⟨hC11,hE11⟩:=H11.out
       obtain ⟨hS,hJ,hR,hf1,hf2,hM,hm,hx,hy⟩:=HH.out
       obtain ⟨hkM,hk21,hs1,hb1,hb2⟩:=HB.out
       have hs2:=HS2.out
       obtain ⟨ex,ey⟩:=HRR.out
       obtain ⟨ho1,ho2,_⟩:=HMA.out
       obtain ⟨hp,p1,hq,q1,eP,eQ,hka1,hkd1⟩:=HPQ.out
       have hOc:O cb:=HS9.out.cl.own _ (.inr (.inr (.inl rfl)))
       have hEs:Else O w9 w9s:=by rw [←HW9.out];exact Un.Else.set (S:=O) w9 (p:=⟨cb,1,none⟩) hOc _
       have hEE:Else O w1 w11:=((HS9.out.els.trans (hEs.mono fun k hk=>.inl hk)).trans ((Un.Else.drew (Else.refl _ w9s)).trans (hE11.mono fun k hk=>.inl (hk ▸ hOc)))).old fun k hk=>hk
       have hcl:Clash G E:=hJ.clash (by rw [ex];exact ho1) (by rw [ey];exact ho2) hp hq hnf
       have hMM:k+1≤M:=by omega
       have hs2':s2=st+(k:Int)+1:=by omega
       exact bodyPost_end (results_none rfl _ _ _) rfl (ja_clash hC11 hs2' HDE.out hbf.1 hbf.2.1 hMM hcl hEE)
end
end
end Go.Proofs.YtmamdiggjghjkaaGreatDoor
