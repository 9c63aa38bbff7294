/- Texts of one proof, one behind the other. -/
import Derived.Test.YtmamdiggjghjkaaGreatDoorMgSolveOrder1
import Derived.Test.YtmamdiggjghjkaaGreatDoorMgSolveOrder2
import Derived.Deep.RegionWith
import Derived.Shelf.Strings.BuilderK
import Derived.Test.YtmamdiggjghjkaaGreatDoorProg
set_option linter.unusedVariables false
namespace Go.Proofs.YtmamdiggjghjkaaGreatDoor
section
open Go.RowKit Go.Shelf
attribute [local go_sem ↓] builtin_app
theorem ptrInfo:(Tryz.prog.info? 169).map (fun i=>(i.zero,i.size,i.bytes))=some (some (.pointer none),1,8):=by kernel_rfl
set_option maxHeartbeats 1000000 in
set_option maxRecDepth 100000 in
theorem change_any (num:Int→Int) (gf:Nat) (lb:Array Value) (eg:∀args w,(callFunc gf args).run Tryz.prog w = .ok (.enter gf args) w) (w:World) (k n:Int) (u:Sl) (ps:Fo) (hps:TyV w.heap.size w ps (slv u)) (hs:ps.size<1000000)
  (hnum:∀(m:Int) (W:World),Below w.heap.size w W→Calls Tryz.prog gf (#[.int .i64 m]++lb) W fun e W'=>e = .returned (.int .i64 (num m))∧W'=W):
  Calls Tryz.prog 87 #[tyVal k n (slv u),.func (.func gf) #[] lb] w fun e w'=>∃u':Sl,e = .returned (tyVal k (nm num k n) (slv u'))∧Below w.heap.size w w'∧FreshT 25 w.heap.size w' num ps u':=by
 obtain ⟨u1,u2,u3⟩:=u
 dsimp only [tyVal,slv] at hps ⊢
 obtain ⟨w3,hw3⟩:∃w3,((w.alloc (.cells #[.int .i64 k,.int .i64 n,.slice u1 u2 u3] 25)).alloc (.cells #[.int .i64 0,.int .i64 0,.slice none 0 0] 25)).alloc (.cells #[.pointer (some ⟨w.heap.size,0,none⟩)] 169)=w3:=⟨_,rfl⟩
 have hinv:ChInv num 25 169 w (w.heap.size+1) w.heap.size k n ps (.slice (some ⟨w.heap.size+1+1,0,none⟩) 1 1) w3 (1+ps.size):=by
  have hb:Below w.heap.size w w3:=by rw [←hw3];exact (((Below.refl _ w).alloc (Nat.le_refl _) _).alloc (by simp) _).alloc (by simp only [World.size_alloc];omega) _
  have h0:w3.heap[w.heap.size]? = some (.cells #[.int .i64 k,.int .i64 n,.slice u1 u2 u3] 25):=by
   rw [←hw3]
   exact (Below.heap_alloc _ _ _ (by simp only [World.size_alloc];omega)).trans ((Below.heap_alloc _ _ _ (by simp)).trans (heap_alloc_new w _))
  have h1:w3.heap[w.heap.size+1]? = some (.cells #[.int .i64 0,.int .i64 0,.slice none 0 0] 25):=by
   rw [←hw3]
   refine (Below.heap_alloc _ _ _ (by simp only [World.size_alloc];omega)).trans ?_
   have:=heap_alloc_new (w.alloc (.cells #[.int .i64 k,.int .i64 n,.slice u1 u2 u3] 25)) (.cells #[.int .i64 0,.int .i64 0,.slice none 0 0] 25)
   rwa [World.size_alloc] at this
  have c0:=cell_of_row w3 w.heap.size 0 _ _ (0,0) h0
  have c1:=cell_of_row w3 w.heap.size 1 _ _ (0,0) h0
  have c2:=cell_of_row w3 w.heap.size 2 _ _ (0,0) h0
  refine ⟨[⟨w.heap.size,0,k,n,(u1,u2,u3),ps⟩],by simp [left_],by omega,?_,?_,List.pairwise_singleton _ _,?_,hb,h1,by omega,⟨by omega,_,h0⟩⟩
  ·have:=own_full ((w.alloc (.cells #[.int .i64 k,.int .i64 n,.slice u1 u2 u3] 25)).alloc (.cells #[.int .i64 0,.int .i64 0,.slice none 0 0] 25)) w.heap.size (by simp only [World.size_alloc];omega) 169 1 1 [.pointer (some ⟨w.heap.size,0,none⟩)] rfl (by unfold maxLen;omega)
   simp only [World.size_alloc] at this
   rw [←hw3]
   simpa [ptrs] using this
  ·intro h hh
   obtain rfl:h=⟨w.heap.size,0,k,n,(u1,u2,u3),ps⟩:=by simpa using hh
   exact ⟨Nat.le_refl _,⟨by simp only;omega,_,h0⟩,c0,c1,c2,hps.below hb⟩
  ·intro W hsz hd _
   exact hd _ (List.mem_singleton.2 rfl)
 have HI:=kI hinv
 have HN:=kI hnum
 have HW3:=kI hw3
 clear hps hinv hnum hw3
 go_enter Tryz.func87,Tryz.ntmps87
 go_wp2_with fail
 go_loopw [5] (fun t5 wr=>∃s,ChInv num 25 169 w (w.heap.size+1) w.heap.size k n ps t5 wr s) (fun t5 wr=>least (ChInv num 25 169 w (w.heap.size+1) w.heap.size k n ps t5 wr))
 case atStart=>exact ⟨_,by rw [HW3.out];exact HI.out⟩
 case round=>
  obtain ⟨s,hs⟩:=hrel
  obtain ⟨⟨Hs,hsum,hsm,hown,hat,hap,hwd,hb,hrt,hrt2,hrb⟩,_⟩:=least_of hs
  have HM:=kI hsum
  clear hs hsum
  rcases List.eq_nil_or_concat Hs with rfl|⟨Hq,h,rfl⟩
  rotate_left
  ·rw [List.concat_eq_append] at *
   rw [List.length_append,List.length_singleton] at hown
   obtain ⟨g,cp,rfl,hg1,hg2⟩:=own_shape hown (by omega)
   obtain ⟨hbB,hT,d0,d1,d2,hv⟩:=hat h (List.mem_append_right _ (List.mem_singleton.2 rfl))
   obtain ⟨q,hq⟩:∃q,Hq.length=q:=⟨_,rfl⟩
   rw [hq] at hown ⊢
   have hql:q≤1000000:=by have:=left_len (Hq ++ [h]);rw [List.length_append] at this;have:=HM.out;omega
   have e0:wr.cell? ⟨g,q,none⟩=some (.pointer (some ⟨h.b,h.off,none⟩)):=by
    rw [hown.cellAt _ (by omega),ptrs_app,List.getElem?_append_right (by rw [ptrs_len];omega),ptrs_len,hq]
    simp [ptrs]
   have hcp:q+1≤cp:=by
    obtain ⟨_,_,hv,h1,_⟩:=own_form hown
    injection hv with _ _ h3
    omega
   have hz:decide ((q:Int)≤(cp:Int))=true:=by simp;omega
   have hz0:(0:Int)≤(q:Int):=by omega
   have own1:wr.ownsRow w.heap.size 169 1 (.slice (some ⟨g,0,none⟩) q cp) q (ptrs Hq):=by
    rw [ptrs_app] at hown
    exact own_cut hown q (by omega) (by rw [ptrs_len,hq,Nat.mul_one])
   have hfz:∀off,wr.frozen? ⟨h.b,off,none⟩=false:=fun off=>by
    obtain ⟨_,cs,hcs⟩:=hT
    exact frozen_cells hcs off
   have hfz1:=hfz (h.off+1)
   have hfz2:=hfz (h.off+2)
   have hgh:g≠h.b:=by
    rintro rfl
    obtain ⟨_,cs,hcs⟩:=hT
    exact row_not own1 (by decide) _ rfl cs hcs
   have hnc:=HN.out h.n wr hb
   have hwr:w.heap.size+1<wr.heap.size:=(gL hrt).1
   have hlt:=hT.lt
   have HD:=kI (aI d0 (aI d1 d2))
   have HV:=kI hv
   have HT:=kI hT
   have HAP:=kI hap
   have HWD:=kI hwd
   have HRB:Hid (isT 25 (w.heap.size+1) wr w.heap.size):=kI hrb
   have HAT:=kI hat
   have HO:=kI own1
   have HB:=kI hb
   have HQ:=kI hq
   have HRT:=kI hrt
   have HRB:=kI hrb
   have HSM:=kI (show left_ (Hq ++ [h])≤1000000 by have:=HM.out;omega)
   obtain ⟨m,hm⟩:∃m,h.ps.len=m:=⟨_,rfl⟩
   have hml:m≤1000000:=by
    have:=h.ps.len_le_size
    have h2:=HSM.out
    rw [left_app] at h2
    simp only [left_,List.map_cons,List.map_nil,List.sum_cons,List.sum_nil] at h2
    omega
   have HMM:=kI hm
      -- what the two ways through the question 'is it a variable?' leave
   have mid:∀wA,Tch 25 (w.heap.size+1) w.heap.size h wr wA→wr.heap.size=wA.heap.size→wA.cell? ⟨h.b,h.off,none⟩=some (.int .i64 h.k)→wA.cell? ⟨h.b,h.off+1,none⟩=some (.int .i64 (nm num h.k h.n))→wA.cell? ⟨h.b,h.off+2,none⟩=some (slv h.u)→wA.ownsRow w.heap.size 169 1 (.slice (some ⟨g,0,none⟩) q cp) q (ptrs Hq)→
     ∃(A1:Option Addr) (c1 c:Nat) (w1 w2:World),(app_ #[23,23] 23 #[.slice none 0 0,slv h.u]).run Tryz.prog wA = .ok (.slice A1 m c1) w1∧w1.setCell ⟨h.b,h.off+2,none⟩ (.slice A1 m c1)=w2∧w1.cell? ⟨h.b,h.off+2,none⟩=some (slv h.u)∧w1.frozen? ⟨h.b,h.off+2,none⟩=false∧
      w2.cell? ⟨h.b,h.off+2,none⟩=some (.slice A1 m c1)∧(0<m→A1=some ⟨c,0,none⟩)∧
      Hid (Tch 25 (w.heap.size+1) w.heap.size h wr w2∧w2.cell? ⟨h.b,h.off,none⟩=some (.int .i64 h.k)∧w2.cell? ⟨h.b,h.off+1,none⟩=some (.int .i64 (nm num h.k h.n))∧wr.heap.size≤c∧
       ((m=0∧∃A cp,(A1,m,c1)=(A,0,cp))∨(0<m∧(∃cs,w2.heap[c]? = some (Obj.cells cs 25))∧(∀j u,(h.ps.top.flatMap trC)[j]? = some u→w2.cell? ⟨c,j,none⟩=some u)∧∃cp,(A1,m,c1)=(some ⟨c,0,none⟩,m,cp)∧m≤cp∧cp≤maxLen))∧
       w2.ownsRow w.heap.size 169 1 (.slice (some ⟨g,0,none⟩) q cp) q (ptrs Hq)):=by
    intro wA tA hsz a0 a1 a2 ownA
    have hTA:=tA.kept _ HT.out
    have hvA:=HV.out.below tA.below
    obtain ⟨i0,hi0,hz0,hz1,hz2⟩:=info_parts tyInfo
    have rd:=TyV.rd3 (Nat.le_trans HB.out.size tA.below.size) hvA
    rw [hm] at rd
    have own0:wA.ownsRow wA.heap.size 25 3 (.slice none 0 0) 0 []:=⟨rfl,.inl ⟨rfl,rfl⟩⟩
    obtain ⟨v1,w1,hrun,hown1,hg1,hat1⟩:=run_append_rd (P:=Tryz.prog) wA wA.heap.size 23 23 25 i0 _ 3 40 Tryz.underlying23 hi0 hz0 hz1 hz2 rfl (by omega) (.slice none 0 0) 0 [] own0 _ m _ rd (trC_one _) (by unfold maxLen;omega) (by omega) (Nat.le_refl _)
    simp only [Nat.zero_add,List.nil_append] at hown1
    obtain ⟨A1,c1,rfl,hmc,hcm⟩:=own_form hown1
    have kT:KeepT 25 wA w1:=KeepT.grown hg1 (fun r e=>by cases e)
    have bT:Below w.heap.size wA w1:=(Below.refl _ _).grown hg1 (Nat.le_trans HB.out.size tA.below.size) (fun r e=>by cases e)
    have t1:Tch 25 (w.heap.size+1) w.heap.size h wr w1:=tA.trans (Tch.keep kT bT)
    have hT1:=t1.kept _ HT.out
    have x0:=(kT.cell hTA h.off).trans a0
    have x1:=(kT.cell hTA (h.off+1)).trans a1
    have x2:=(kT.cell hTA (h.off+2)).trans a2
    have t2:Tch 25 (w.heap.size+1) w.heap.size h wr (w1.setCell ⟨h.b,h.off+2,none⟩ (.slice A1 m c1)):=t1.trans (Tch.set 2 (by omega) hT1 hbB _)
    have y0:(w1.setCell ⟨h.b,h.off+2,none⟩ (.slice A1 m c1)).cell? ⟨h.b,h.off,none⟩=some (.int .i64 h.k):=(World.cell?_setCell_other _ _ _ _ (by intro e;injection e with _ e;omega)).trans x0
    have y1:(w1.setCell ⟨h.b,h.off+2,none⟩ (.slice A1 m c1)).cell? ⟨h.b,h.off+1,none⟩=some (.int .i64 (nm num h.k h.n)):=(World.cell?_setCell_other _ _ _ _ (by intro e;injection e with _ e;omega)).trans x1
    have hfzz:w1.frozen? ⟨h.b,h.off+2,none⟩=false:=by obtain ⟨_,cs,hcs⟩:=hT1;exact frozen_cells hcs _
    have ownT:w1.ownsRow w.heap.size 169 1 (.slice (some ⟨g,0,none⟩) q cp) q (ptrs Hq):=ownA.kept hg1 (.inr (by simp [Value.ownBlock]))
    have ownW:(w1.setCell ⟨h.b,h.off+2,none⟩ (.slice A1 m c1)).ownsRow w.heap.size 169 1 (.slice (some ⟨g,0,none⟩) q cp) q (ptrs Hq):=own_touch ownT hT1.2 (by decide) _ _
    rcases Nat.eq_zero_or_pos m with h0|h0
    ·exact ⟨A1,c1,wr.heap.size,w1,_,hrun,rfl,x2,hfzz,World.cell?_setCell_same _ _ _ x2,fun h=>by omega,kI ⟨t2,y0,y1,Nat.le_refl _,.inl ⟨h0,A1,c1,by rw [h0]⟩,ownW⟩⟩
    ·obtain ⟨c,c1',hv1,hc1,hc2⟩:=own_shape hown1 h0
     injection hv1 with e1 _ e3
     subst e1;subst e3
     have hcb:c≠h.b:=by have:=tA.below.size;omega
     obtain ⟨_,cap,cur,hv1,_,hcur,_⟩:=hown1.2.resolve_left (by rintro ⟨h,_⟩;omega)
     injection hv1 with e1 _ e3
     injection e1 with e1
     injection e1 with e1
     subst e1
     refine ⟨_,c1,c,w1,_,hrun,rfl,x2,hfzz,World.cell?_setCell_same _ _ _ x2,fun _=>rfl,kI ⟨t2,y0,y1,by omega,.inr ⟨h0,⟨cur,(Below.heap_setCell _ _ _ _ hcb).trans hcur⟩,fun j u hj=>?_,c1,rfl,hmc,hcm⟩,ownW⟩⟩
     have hjl:j<m*3:=by have:=(List.getElem?_eq_some_iff.1 hj).1;rw [trC_len,Fo.top_len,hm] at this;exact this
     rw [World.cell?_setCell_other _ _ _ _ (by intro e;injection e with e _;exact hcb e.symm),hown1.cellAt j hjl]
     exact hj
   have MID:=kI mid
   clear mid hown own1 hat hap hwd hv hT hb hq hfz hrt hrb hm HN HI
   obtain ⟨hB_,hO,hk_,hn_,⟨p1,p2,p3⟩,hps_⟩:=h
   dsimp only [slv] at d0 d1 d2 MID hnc e0 hfz1 hfz2 hgh hbB hlt ⊢
   generalize wr=wo at *
   by_cases hk1:hk_=1
   case' pos=>
    subst hk1
    obtain ⟨wA,hwA⟩:∃wA,wo.setCell ⟨hB_,hO+1,none⟩ (.int .i64 (num hn_))=wA:=⟨_,rfl⟩
    have a2:wA.cell? ⟨hB_,hO+2,none⟩=some (.slice p1 p2 p3):=by rw [←hwA];exact (World.cell?_setCell_other _ _ _ _ (by intro e;injection e with _ e;omega)).trans d2
    obtain ⟨A1,c1,c,w1,w2,hrun,hset,hsome,hfr,hc2,hA1,HF⟩:=MID.out wA (by rw [←hwA];exact Tch.set 1 (by omega) HT.out hbB _) (by rw [←hwA];simp [World.setCell]) (by rw [←hwA];exact (World.cell?_setCell_other _ _ _ _ (by intro e;injection e with _ e;omega)).trans d0) (by rw [←hwA,World.cell?_setCell_same _ _ _ d1];rfl) a2 (by rw [←hwA];exact own_touch HO.out HT.out.2 (by decide) _ _)
    have HA1:=kI hA1
    have HC:=kI hnc
    clear hA1 hnc
    go_wp2_with (go_at_fn gf;refine HC.out.mono ?_;rintro e w' ⟨rfl,hw'⟩;subst w')
   case' neg=>
    have f1:(hk_ == 1)=false:=beq_eq_false_iff_ne.2 hk1
    obtain ⟨A1,c1,c,w1,w2,hrun,hset,hsome,hfr,hc2,hA1,HF⟩:=MID.out wo (Tch.refl _ _ _ _ _) rfl d0 (by rw [d1,nm,if_neg hk1]) d2 HO.out
    have HA1:=kI hA1
    clear hA1 hnc hk1
    go_wp2_with fail
   all_goals
    go_loopw [5,50] (fun t5 t50 w5=>∃j:Nat,j≤m∧t50 = .int .i64 j∧w5.ownsRow w.heap.size 169 1 t5 (q+j) (ptrs Hq++ptrs ((holesOf c 0 hps_).take j))∧KeepT 25 w2 w5∧Below w.heap.size w2 w5) (fun _ t _=>m-(intOf t).toNat)
    case atStart=>exact ⟨0,Nat.zero_le _,rfl,by simpa [ptrs] using HF.out.2.2.2.2.2,KeepT.refl _ _,Below.refl _ _⟩
    case round=>
     obtain ⟨j,hj,rfl,hown,hkt,hbw⟩:=hrel
     have hT2:=HF.out.1.kept _ HT.out
     have hx2:wr.cell? ⟨hB_,hO+2,none⟩=some (.slice A1 m c1):=(hkt.cell hT2 _).trans hc2
     have HOW:=kI hown
     have HKT:=kI hkt
     have HBW:=kI hbw
     clear hown hkt hbw hT2
     by_cases hjl:j<m
     ·have hA2:=HA1.out (by omega)
      subst hA2
      have hpt:=ptrs_take c hps_ 0 j (by rw [HMM.out];exact hjl)
      rw [Nat.zero_add] at hpt
      have hwz:=Nat.le_trans HB.out.size (Nat.le_trans HF.out.1.below.size HBW.out.size)
      obtain ⟨W1,hW1⟩:∃W1,W1=wr.alloc (.cells #[.pointer (some ⟨c,j*3,none⟩)] 169):=⟨_,rfl⟩
      have rd1:Rd W1 1 (.slice (some ⟨wr.heap.size,0,none⟩) 1 1) 1 [.pointer (some ⟨c,j*3,none⟩)]:=by
       rw [hW1];exact rd_new wr [.pointer (some ⟨c,j*3,none⟩)] 169 1 1 rfl (by unfold maxLen;omega)
      have own1:=HOW.out.alloc (.cells #[.pointer (some ⟨c,j*3,none⟩)] 169)
      rw [←hW1] at own1
      have hbW:Below w.heap.size wr W1:=by rw [hW1];exact (Below.refl _ _).alloc hwz _
      obtain ⟨i0,hi0,hz0,hz1,hz2⟩:=info_parts ptrInfo
      obtain ⟨v1,w7,hrun7,hown7,hg7,_⟩:=run_append_rd (P:=Tryz.prog) W1 w.heap.size 170 170 169 i0 _ 1 8 Tryz.underlying170 hi0 hz0 hz1 hz2 rfl (by omega) u5 _ _ own1 _ 1 _ rd1 (by simp [Value.oneCell']) (by unfold maxLen;omega) (by omega) (Nat.le_trans hwz hbW.size)
      have k1:KeepT 25 wr W1:=by rw [hW1];exact (KeepT.refl _ _).alloc _
      have k7:KeepT 25 w2 w7:=(HKT.out.trans k1).trans (KeepT.grown hg7 (row_not own1 (by decide)))
      have b7:Below w.heap.size w2 w7:=HBW.out.trans (hbW.trans ((Below.refl _ _).grown hg7 (Nat.le_trans hwz hbW.size) (fun k e=>(own1.lt k e).1)))
      have hrun8:(app_ #[170,170] 170 #[u5,.slice (some ⟨wr.heap.size,0,none⟩) 1 1]).run Tryz.prog W1 = .ok v1 w7:=hrun7
      rw [hW1] at hrun8
      rw [List.append_assoc,←hpt] at hown7
      have HO7:=kI hown7
      have HK7:=kI k7
      have HB7:=kI b7
      clear hrun7 hown7 hg7 own1 rd1 hbW hW1 k1 k7 b7 hpt hwz hrun hset
      go_wp2_with fail
      go_roundw
      case rel=>exact ⟨j+1,by omega,by go_num,HO7.out,HK7.out,HB7.out⟩
      case measure=>simp [intOf];omega
     ·obtain rfl:j=m:=by omega
      have hnew:ChInv num 25 169 w (w.heap.size+1) w.heap.size k n ps u5 wr (left_ Hq+hps_.size):=by
       obtain ⟨t2,y0,y1,hcl,hu,_⟩:=HF.out
       have hT2:=t2.kept _ HT.out
       refine ch_step (c:=c) (m:=j) (u2:=(A1,j,c1)) HAT.out HAP.out HWD.out HB.out HRT.out hrt2 HRB.out HSM.out (t2.trans (Tch.keep HKT.out HBW.out)) HMM.out hcl ((HKT.out.cell hT2 _).trans y0) ((HKT.out.cell hT2 _).trans y1) hx2 ?_ ?_
       ·rcases hu with h0|⟨hp,⟨cs,hcs⟩,hcc,hh⟩
        ·exact .inl h0
        ·exact .inr ⟨hp,⟨cs,HKT.out.2 _ _ hcs⟩,fun i u hi=>(World.cell?_of_block ((HKT.out.2 _ _ hcs).trans hcs.symm)).trans (hcc i u hi),hh⟩
       ·rw [HQ.out]
        have:=HOW.out
        rw [List.take_of_length_le (by rw [holesOf_len,HMM.out];exact Nat.le_refl _)] at this
        exact this
      have HN:=kI hnew
      clear hnew hrun hset
      go_wp2_with fail
      go_roundw
      case rel=>exact ⟨_,HN.out⟩
      case measure=>
       have h1:=HM.out
       rw [HQ.out,left_app] at h1
       simp only [left_,List.map_cons,List.map_nil,List.sum_cons,List.sum_nil] at h1
       refine Nat.lt_of_lt_of_le (Nat.lt_of_le_of_lt (least_of HN.out).2 ?_) (Nat.le_of_eq h1)
       simp only [left_]
       omega
  ·obtain ⟨A,c,rfl,_,_⟩:=own_form hown
   obtain ⟨g,hg,c0,c1,u',c2,hv⟩:=hwd wr (Nat.le_refl _) (fun h hh=>by cases hh) (fun _ _ _ _ _=>rfl)
   have HWD:=kI hwd
   have HRB:Hid (isT 25 (w.heap.size+1) wr w.heap.size):=kI hrb
   have hfz:=frozen_cells hrt
   have r0:=cell_of_row wr (w.heap.size+1) 0 _ _ (0,0) hrt
   have r1:=cell_of_row wr (w.heap.size+1) 1 _ _ (0,0) hrt
   have r2:=cell_of_row wr (w.heap.size+1) 2 _ _ (0,0) hrt
   simp [rt0] at r0 r1 r2
   have HRT:=kI hrt
   have z0:=hfz 0
   have z1:=hfz 1
   have z2:=hfz 2
   obtain ⟨u1',u2',u3'⟩:=u'
   dsimp only [slv] at c2
   clear hwd hown hat hap hs hfz hrt hrb
   dsimp only [List.length_nil]
   go_wp2_with fail
   have hb1:Below w.heap.size wr (((wr.setCell ⟨w.heap.size+1,0,none⟩ (.int .i64 k)).setCell ⟨w.heap.size+1,1,none⟩ (.int .i64 (nm num k n))).setCell ⟨w.heap.size+1,2,none⟩ (.slice u1' u2' u3')):=
    (((Below.refl _ _).setCell (by simp) _).setCell (by simp) _).setCell (by simp) _
   have far:∀b off,b≠w.heap.size+1→(((wr.setCell ⟨w.heap.size+1,0,none⟩ (.int .i64 k)).setCell ⟨w.heap.size+1,1,none⟩ (.int .i64 (nm num k n))).setCell ⟨w.heap.size+1,2,none⟩ (.slice u1' u2' u3')).cell? ⟨b,off,none⟩=wr.cell? ⟨b,off,none⟩:=by
    intro b off hne
    rw [World.cell?_setCell_other _ _ _ _ (by intro e;injection e with e _;exact hne e.symm),World.cell?_setCell_other _ _ _ _ (by intro e;injection e with e _;exact hne e.symm),World.cell?_setCell_other _ _ _ _ (by intro e;injection e with e _;exact hne e.symm)]
   have s0:(((wr.setCell ⟨w.heap.size+1,0,none⟩ (.int .i64 k)).setCell ⟨w.heap.size+1,1,none⟩ (.int .i64 (nm num k n))).setCell ⟨w.heap.size+1,2,none⟩ (.slice u1' u2' u3')).cell? ⟨w.heap.size+1,0,none⟩=some (.int .i64 k):=by
    rw [World.cell?_setCell_other _ _ _ _ (by intro e;injection e with _ e;omega),World.cell?_setCell_other _ _ _ _ (by intro e;injection e with _ e;omega),World.cell?_setCell_same _ _ _ r0]
   have s1:(((wr.setCell ⟨w.heap.size+1,0,none⟩ (.int .i64 k)).setCell ⟨w.heap.size+1,1,none⟩ (.int .i64 (nm num k n))).setCell ⟨w.heap.size+1,2,none⟩ (.slice u1' u2' u3')).cell? ⟨w.heap.size+1,1,none⟩=some (.int .i64 (nm num k n)):=by
    rw [World.cell?_setCell_other _ _ _ _ (by intro e;injection e with _ e;omega)]
    exact World.cell?_setCell_same _ _ _ ((World.cell?_setCell_other _ _ _ _ (by intro e;injection e with _ e;omega)).trans r1)
   have s2:(((wr.setCell ⟨w.heap.size+1,0,none⟩ (.int .i64 k)).setCell ⟨w.heap.size+1,1,none⟩ (.int .i64 (nm num k n))).setCell ⟨w.heap.size+1,2,none⟩ (.slice u1' u2' u3')).cell? ⟨w.heap.size+1,2,none⟩=some (slv (u1',u2',u3')):=
    World.cell?_setCell_same _ _ _ ((World.cell?_setCell_other _ _ _ _ (by intro e;injection e with _ e;omega)).trans ((World.cell?_setCell_other _ _ _ _ (by intro e;injection e with _ e;omega)).trans r2))
   refine bodyPost_ret (results_box rfl _ _ _ _ rfl (load_ty s0 s1 s2)) rfl ?_
   refine ⟨(u1',u2',u3'),rfl,hb.trans hb1,fun W hWs hWc=>?_⟩
   have hrl:=(gL HRT.out).1
   have hWf:∀b off,w.heap.size≤b→isT 25 (w.heap.size+1) wr b→W.cell? ⟨b,off,none⟩=wr.cell? ⟨b,off,none⟩:=by
    intro b off hB ⟨hne,cs,hc⟩
    exact World.cell?_of_block ((hWc b cs hB (by
     rw [Below.heap_setCell _ _ _ _ (by simpa using hne),Below.heap_setCell _ _ _ _ (by simpa using hne),Below.heap_setCell _ _ _ _ (by simpa using hne)]
     exact hc)).trans hc.symm)
   obtain ⟨g',hg',_,_,⟨v1',v2',v3'⟩,c2',hv'⟩:=HWD.out W (Nat.le_trans hb1.size hWs) (fun h hh=>by cases hh) (fun b off hB hT _=>hWf b off hB hT)
   have hrbT:isT 25 (w.heap.size+1) wr w.heap.size:=HRB.out
   rw [hWf _ _ (Nat.le_refl _) hrbT,c2] at c2'
   unfold slv at c2'
   injection c2' with c2'
   injection c2' with e1 e2 e3
   subst e1;subst e2;subst e3
   exact ⟨g',hg',hv'⟩
end
section
open Go.RowKit Go.Shelf
def alone (k n:Int) (m:Nat):Bool:=
 if k=1 then decide (0≤n) && decide (n<1073741824) && ((m:Int) == 0)
 else if k=2∨k=3 then (n == 0) && ((m:Int) == 0)
 else if k=4 then (n == 0) && ((m:Int) == 2)
 else if k=5 then (n == 0) && decide (2≤(m:Int)) && decide ((m:Int)≤8)
 else false
theorem number_any (n:Int) (w:World):Calls Tryz.prog 125 #[.int .i64 n] w fun e w'=>e = .returned (.bool (decide (0≤n) && decide (n<1073741824)))∧w'=w:=by
 go_enter Tryz.func125,Tryz.ntmps125
 by_cases h:0≤n
 ·have h2:decide (0≤n)=true:=decide_eq_true h
  go_wp2
  go_ret
  exact ⟨by rw [h2];rfl,rfl⟩
 ·have h2:decide (0≤n)=false:=decide_eq_false h
  go_wp2
  go_ret
  exact ⟨rfl,rfl⟩
set_option maxHeartbeats 1000000 in
theorem alone_any (k n:Int) (A:Option Addr) (m c:Nat) (w:World):Calls Tryz.prog 90 #[tyVal k n (.slice A m c)] w fun e w'=>e = .returned (.bool (alone k n m))∧Below w.heap.size w w':=by
 dsimp only [tyVal]
 go_enter Tryz.func90,Tryz.ntmps90
 have HB:=kI (show ∀(cs:Array Value) (t:TypeId),Below w.heap.size w (w.alloc (Obj.cells cs t)) from fun cs t=>(Below.refl _ w).alloc (Nat.le_refl _) _)
 by_cases h1:k=1
 ·subst h1
  go_wp2_with fail
  refine (number_any n _).mono ?_
  rintro e w' ⟨rfl,rfl⟩
  obtain ⟨b,hb⟩:∃b,(decide (0≤n) && decide (n<1073741824))=b:=⟨_,rfl⟩
  rw [hb]
  have HN:=kI hb
  clear hb
  cases b
  ·go_wp2
   go_ret
   refine ⟨?_,HB.out _ _⟩
   simp [alone,HN.out]
  ·go_wp2
   go_ret
   refine ⟨?_,HB.out _ _⟩
   simp [alone,HN.out]
 by_cases h2:k=2
 ·subst h2
  obtain ⟨b,hb⟩:∃b,(n == 0)=b:=⟨_,rfl⟩
  cases b
  ·go_wp2
   go_ret
   refine ⟨?_,HB.out _ _⟩
   simp [alone,hb]
  ·go_wp2
   go_ret
   refine ⟨?_,HB.out _ _⟩
   simp [alone,hb]
 by_cases h3:k=3
 ·subst h3
  obtain ⟨b,hb⟩:∃b,(n == 0)=b:=⟨_,rfl⟩
  cases b
  ·go_wp2
   go_ret
   refine ⟨?_,HB.out _ _⟩
   simp [alone,hb]
  ·go_wp2
   go_ret
   refine ⟨?_,HB.out _ _⟩
   simp [alone,hb]
 by_cases h4:k=4
 ·subst h4
  obtain ⟨b,hb⟩:∃b,(n == 0)=b:=⟨_,rfl⟩
  cases b
  ·go_wp2
   go_ret
   refine ⟨?_,HB.out _ _⟩
   simp [alone,hb]
  ·go_wp2
   go_ret
   refine ⟨?_,HB.out _ _⟩
   simp [alone,hb]
 by_cases h5:k=5
 ·subst h5
  obtain ⟨b,hb⟩:∃b,(n == 0)=b:=⟨_,rfl⟩
  obtain ⟨d,hd⟩:∃d,decide (2≤(m:Int))=d:=⟨_,rfl⟩
  cases b
  ·go_wp2
   go_ret
   refine ⟨?_,HB.out _ _⟩
   simp [alone,hb]
  cases d
  ·go_wp2
   go_ret
   refine ⟨?_,HB.out _ _⟩
   simp [alone,hb,hd]
  ·go_wp2
   go_ret
   refine ⟨?_,HB.out _ _⟩
   simp [alone,hb,hd]
 have f1:(k == 1)=false:=beq_eq_false_iff_ne.2 h1
 have f2:(k == 2)=false:=beq_eq_false_iff_ne.2 h2
 have f3:(k == 3)=false:=beq_eq_false_iff_ne.2 h3
 have f4:(k == 4)=false:=beq_eq_false_iff_ne.2 h4
 have f5:(k == 5)=false:=beq_eq_false_iff_ne.2 h5
 go_wp2
 go_ret
 refine ⟨?_,HB.out _ _⟩
 simp [alone,h1,h2,h3,h4,h5]
end
section
open Go.RowKit
namespace Fo
def same:Fo→Fo→Bool
 | nil,nil=>true
 | cons k n _ ps r,cons k' n' _ ps' r'=>k == k' && n == n' && ps.same ps' && r.same r'
 | _,_=>false
def same1 (x y:Int×Int×Sl×Fo):Bool:=x.1 == y.1 && x.2.1 == y.2.1 && x.2.2.2.same y.2.2.2
theorem same_len (f g:Fo) (h:f.same g=true):f.len=g.len:=by
 induction f generalizing g with
 | nil=>cases g<;>simp [same] at h ⊢
 | cons k n u ps r _ ih=>
  cases g with
  | nil=>simp [same] at h
  | cons k' n' u' ps' r'=>
   simp only [same,Bool.and_eq_true] at h
   simp [len,ih r' h.2]
theorem same_split (f g:Fo) (j:Nat) (h:f.len=g.len) (hj:j<f.len):f.same g=((f.take j).same (g.take j) && (same1 (f.at_ j) (g.at_ j) && (f.drop (j+1)).same (g.drop (j+1)))):=by
 induction f generalizing g j with
 | nil=>simp [len] at hj
 | cons k n u ps r _ ih=>
  cases g with
  | nil=>simp [len] at h
  | cons k' n' u' ps' r'=>
   cases j with
   | zero=>simp [same,take,at_,drop,same1]
   | succ j=>
    have:=ih r' j (by simpa [len] using h) (by simpa [len] using hj)
    simp only [same,take,at_,drop]
    rw [this]
    simp [Bool.and_assoc]
theorem same_take (f g:Fo) (j:Nat) (h:f.len=g.len) (hj:j<f.len):(f.take (j+1)).same (g.take (j+1))=((f.take j).same (g.take j) && same1 (f.at_ j) (g.at_ j)):=by
 induction f generalizing g j with
 | nil=>simp [len] at hj
 | cons k n u ps r _ ih=>
  cases g with
  | nil=>simp [len] at h
  | cons k' n' u' ps' r'=>
   cases j with
   | zero=>simp [same,take,at_,same1]
   | succ j=>
    have:=ih r' j (by simpa [len] using h) (by simpa [len] using hj)
    simp only [same,take,at_] at this ⊢
    rw [this]
    simp [Bool.and_assoc]
end Fo
set_option maxHeartbeats 2000000 in
set_option maxRecDepth 100000 in
theorem rsame_any (m:Nat):∀(f g:Fo) (k n k' n':Int) (v v':Value) (w:World),f.size<m→f.size≤1000000→g.size≤1000000→TyV w.heap.size w f v→TyV w.heap.size w g v'→
  Calls Tryz.prog 15 #[tyVal k n v,tyVal k' n' v'] w fun e w'=>e = .returned (.bool (k == k' && n == n' && f.same g))∧Below w.heap.size w w':=by
 induction m with
 | zero=>intro f g k n k' n' v v' w h;omega
 | succ m ih=>
  intro f g k n k' n' v v' w hm hs hs' h h'
  obtain ⟨A,c,rfl⟩:=h.slice
  obtain ⟨A',c',rfl⟩:=h'.slice
  have H:=kI h
  have H':=kI h'
  have IH:=kI ih
  have hll:=f.len_le_size
  have hll':=g.len_le_size
  clear h ih h'
  unfold tyVal
  go_enter Tryz.func15,Tryz.ntmps15
  have HB0:=kI (show ∀(cs cs':Array Value) (t t':TypeId),Below w.heap.size w ((w.alloc (Obj.cells cs t)).alloc (Obj.cells cs' t')) from fun cs cs' t t'=>((Below.refl _ w).alloc (Nat.le_refl _) _).alloc (by simp) _)
  obtain ⟨q,hq⟩:∃q,f.len=q:=⟨_,rfl⟩
  obtain ⟨q',hq'⟩:∃q',g.len=q':=⟨_,rfl⟩
  rw [hq] at hll ⊢
  rw [hq'] at hll' ⊢
  have HQ:=kI hq
  have HQ':=kI hq'
  clear hq hq'
  by_cases h1:k=k'
  case neg=>
   have f1:(k != k')=true:=bne_iff_ne.2 h1
   go_wp2_with fail
   go_ret
   exact ⟨ret_bool (by rw [beq_eq_false_iff_ne.2 h1];rfl),HB0.out _ _ _ _⟩
  have f1:(k != k')=false:=by rw [h1];simp
  by_cases h2:n=n'
  case neg=>
   have f2:(n != n')=true:=bne_iff_ne.2 h2
   go_wp2_with fail
   go_ret
   exact ⟨ret_bool (by rw [beq_eq_false_iff_ne.2 h2];simp),HB0.out _ _ _ _⟩
  have f2:(n != n')=false:=by rw [h2];simp
  have hkn:(k == k' && n == n')=true:=by rw [h1,h2];simp
  have HKN:=kI hkn
  clear hkn
  by_cases h3:q=q'
  case neg=>
   have f3:((q:Int) != q')=true:=bne_iff_ne.2 (by omega)
   have hsf:f.same g=false:=by
    cases hb:f.same g with
    | false=>rfl
    | true=>exact absurd (f.same_len g hb) (by rw [HQ.out,HQ'.out];exact h3)
   have HSF:=kI hsf
   clear h1 h2 hsf
   go_wp2_with fail
   go_ret
   exact ⟨ret_bool (by rw [HKN.out,HSF.out];rfl),HB0.out _ _ _ _⟩
  subst h3
  clear h1 h2
  have HFG:=kI (show f.len=g.len by rw [HQ.out,HQ'.out])
  go_wp2_with fail
  go_loopw [5] (fun t5 wr=>∃j:Nat,j≤q∧t5 = .int .i64 j∧(f.take j).same (g.take j)=true∧wr.cell? ⟨w.heap.size,2,none⟩=some (.slice A q c)∧wr.cell? ⟨w.heap.size+1,2,none⟩=some (.slice A' q c')∧Below w.heap.size w wr∧w.heap.size+2≤wr.heap.size) (fun t _=>q-(intOf t).toNat)
  case atStart=>exact ⟨0,Nat.zero_le _,rfl,by simp [Fo.take_zero,Fo.same],by go_simp,by go_simp,HB0.out _ _ _ _,by simp⟩
  case round=>
   obtain ⟨j,hj,rfl,hja,e2,e3,hb,hz⟩:=hrel
   have HB:=kI hb
   have HJA:=kI hja
   clear hja hb
   by_cases hjl:j<q
   ·have hjf:j<f.len:=by rw [HQ.out];exact hjl
    have hjg:j<g.len:=by rw [HQ'.out];exact hjl
    obtain ⟨b,off,cap,hv,_,_,hlt,hC⟩:=H.out.form (by omega)
    injection hv with hA _ hcc
    subst hA;subst hcc
    obtain ⟨b',off',cap',hv',_,_,hlt',hC'⟩:=H'.out.form (by omega)
    injection hv' with hA' _ hcc'
    subst hA';subst hcc'
    obtain ⟨d0,d1,d2,hch⟩:=tyC_at hC j hjf
    obtain ⟨d0',d1',d2',hch2⟩:=tyC_at hC' j hjg
    have c0:=(HB.out.cell (p:=⟨b,off+j*3,none⟩) hlt).trans d0
    have c1:=(HB.out.cell (p:=⟨b,off+j*3+1,none⟩) hlt).trans d1
    have c2:=(HB.out.cell (p:=⟨b,off+j*3+2,none⟩) hlt).trans d2
    have c0':=(HB.out.cell (p:=⟨b',off'+j*3,none⟩) hlt').trans d0'
    have c1':=(HB.out.cell (p:=⟨b',off'+j*3+1,none⟩) hlt').trans d1'
    have c2':=(HB.out.cell (p:=⟨b',off'+j*3+2,none⟩) hlt').trans d2'
    have hch':TyV wr.heap.size wr (f.at_ j).2.2.2 (slv (f.at_ j).2.2.1):=hch.keep HB.out.size fun b off hb'=>HB.out.cell (p:=⟨b,off,none⟩) hb'
    have hch3:TyV wr.heap.size wr (g.at_ j).2.2.2 (slv (g.at_ j).2.2.1):=hch2.keep HB.out.size fun b off hb'=>HB.out.cell (p:=⟨b,off,none⟩) hb'
    have hsz:=f.at_size j hjf
    have hsz':=g.at_size j hjg
    have hsp:=f.same_split g j HFG.out hjf
    have htk:=f.same_take g j HFG.out hjf
    have hrec:=IH.out (f.at_ j).2.2.2 (g.at_ j).2.2.2 (f.at_ j).1 (f.at_ j).2.1 (g.at_ j).1 (g.at_ j).2.1 (slv (f.at_ j).2.2.1) (slv (g.at_ j).2.2.1) wr.drew (by omega) (by omega) (by omega) (hch'.below (Below.refl _ wr).drew) (hch3.below (Below.refl _ wr).drew)
    clear d0 d1 d2 hC hch hch' hsz d0' d1' d2' hC' hch2 hch3 hsz'
    unfold tyVal at hrec
    generalize f.at_ j=p at *
    generalize g.at_ j=p' at *
    obtain ⟨pk,pn,pv,pf⟩:=p
    obtain ⟨pk',pn',pv',pf'⟩:=p'
    dsimp only [Fo.same1] at hsp htk hrec c0 c1 c2 c0' c1' c2'
    obtain ⟨x,hx⟩:∃x,(pk == pk' && pn == pn' && pf.same pf')=x:=⟨_,rfl⟩
    rw [hx] at hrec hsp htk
    have HREC:=kI hrec
    have HSP:=kI (show f.same g=(x && (f.drop (j+1)).same (g.drop (j+1))) by rw [hsp,HJA.out];rfl)
    have HTK:=kI (show (f.take (j+1)).same (g.take (j+1))=x by rw [htk,HJA.out];rfl)
    clear hrec hsp htk hx hjf hjg
    go_wp2_with fail
    dsimp only [slv] at *
    go_region_with (go_at_call 15;refine HREC.out.mono ?_;rintro e w2 ⟨rfl,hb3⟩)
    all_goals
     have e2':=(hb3.cell (p:=⟨w.heap.size,2,none⟩) (by show w.heap.size<wr.heap.size;omega)).trans e2
     have e3':=(hb3.cell (p:=⟨w.heap.size+1,2,none⟩) (by show w.heap.size+1<wr.heap.size;omega)).trans e3
     have HB3:=kI (show Below wr.heap.size wr w2 from (Below.refl _ wr).drew.trans hb3)
     clear hb3
     cases x
     ·go_wp2_with fail
      go_ret
      exact ⟨ret_bool (by rw [HKN.out,HSP.out];rfl),HB.out.trans (HB3.out.mono (by omega))⟩
     ·go_wp2_with fail
      go_roundw
      case rel=>exact ⟨j+1,by omega,by go_num,HTK.out,e2',e3',HB.out.trans (HB3.out.mono (by omega)),Nat.le_trans hz HB3.out.size⟩
      case measure=>simp [intOf];omega
   ·obtain rfl:j=q:=by omega
    have HT:Hid (f.take j=f):=kI (by rw [←HQ.out];exact f.take_len)
    have HT':Hid (g.take j=g):=kI (by rw [←HQ'.out];exact g.take_len)
    go_wp2_with fail
    go_ret
    exact ⟨ret_bool (by rw [HKN.out,←HT.out,←HT'.out,HJA.out];rfl),HB.out⟩
end
section
open Go.RowKit Go.Shelf
theorem ret_cells {w:World}(g:Nat) (k n:Int) (u:Sl) (hg:w.heap[g]? = some (Obj.cells rt0 25)):
  w.cell? ⟨g,0,none⟩=some (.int .i64 0)∧w.cell? ⟨g,1,none⟩=some (.int .i64 0)∧w.cell? ⟨g,2,none⟩=some (.slice none 0 0)∧w.frozen? ⟨g,0,none⟩=false∧w.frozen? ⟨g,1,none⟩=false∧w.frozen? ⟨g,2,none⟩=false∧
  ∃w',((w.setCell ⟨g,0,none⟩ (.int .i64 k)).setCell ⟨g,1,none⟩ (.int .i64 n)).setCell ⟨g,2,none⟩ (slv u)=w'∧(loadVar 25 ⟨g,0,none⟩).run Tryz.prog w' = .ok (tyVal k n (slv u)) w'∧w'.heap.size=w.heap.size∧(∀b,b≠g→w'.heap[b]? = w.heap[b]?)∧Below g w w':=by
 have r0:=cell_of_row w g 0 _ _ (0,0) hg
 have r1:=cell_of_row w g 1 _ _ (0,0) hg
 have r2:=cell_of_row w g 2 _ _ (0,0) hg
 simp [rt0] at r0 r1 r2
 have e01:(⟨g,1,none⟩:Addr)≠⟨g,0,none⟩:=by intro e;injection e with _ e;omega
 have e02:(⟨g,2,none⟩:Addr)≠⟨g,0,none⟩:=by intro e;injection e with _ e;omega
 have e12:(⟨g,2,none⟩:Addr)≠⟨g,1,none⟩:=by intro e;injection e with _ e;omega
 refine ⟨r0,r1,r2,frozen_cells hg 0,frozen_cells hg 1,frozen_cells hg 2,_,rfl,load_ty ?_ ?_ ?_,by simp [World.setCell],fun b hne=>?_,?_⟩
 rotate_right
 ·exact (((Below.refl g w).setCell (p:=⟨g,0,none⟩) (Nat.le_refl g) _).setCell (p:=⟨g,1,none⟩) (Nat.le_refl g) _).setCell (p:=⟨g,2,none⟩) (Nat.le_refl g) _
 ·rw [World.cell?_setCell_other _ _ _ _ e02,World.cell?_setCell_other _ _ _ _ e01,World.cell?_setCell_same _ _ _ r0]
 ·rw [World.cell?_setCell_other _ _ _ _ e12]
  exact World.cell?_setCell_same _ _ _ ((World.cell?_setCell_other _ _ _ _ e01.symm).trans r1)
 ·exact World.cell?_setCell_same _ _ _ ((World.cell?_setCell_other _ _ _ _ e12.symm).trans ((World.cell?_setCell_other _ _ _ _ e02.symm).trans r2))
 ·rw [Below.heap_setCell _ _ _ _ (by simpa using hne),Below.heap_setCell _ _ _ _ (by simpa using hne),Below.heap_setCell _ _ _ _ (by simpa using hne)]
theorem copy1_any (m:Int) (W:World):Calls Tryz.prog 88 (#[.int .i64 m] ++ #[]) W fun e W'=>e = .returned (.int .i64 (idn m))∧W'=W:=by
 rw [Array.append_empty]
 go_enter Tryz.func88,Tryz.ntmps88
 go_wp2
 go_ret
 exact ⟨rfl,rfl⟩
theorem copy_any (w:World) (k n:Int) (u:Sl) (ps:Fo) (hps:TyV w.heap.size w ps (slv u)) (hs:ps.size<1000000):
  Calls Tryz.prog 47 #[tyVal k n (slv u)] w fun e w'=>∃u':Sl,e = .returned (tyVal k n (slv u'))∧Below w.heap.size w w'∧FreshT 25 w.heap.size w' idn ps u':=by
 obtain ⟨u1,u2,u3⟩:=u
 obtain ⟨w2,hw2⟩:∃w2,(w.alloc (.cells #[.int .i64 k,.int .i64 n,.slice u1 u2 u3] 25)).alloc (.cells #[.int .i64 0,.int .i64 0,.slice none 0 0] 25)=w2:=⟨_,rfl⟩
 have hs2:w2.heap.size=w.heap.size+1+1:=by rw [←hw2];simp
 have hb2:Below w.heap.size w w2:=by rw [←hw2];exact ((Below.refl _ w).alloc (Nat.le_refl _) _).alloc (by simp) _
 have h0:w2.heap[w.heap.size]? = some (.cells #[.int .i64 k,.int .i64 n,.slice u1 u2 u3] 25):=by
  rw [←hw2];exact (Below.heap_alloc _ _ _ (by simp)).trans (heap_alloc_new w _)
 have h1:w2.heap[w.heap.size+1]? = some (.cells rt0 25):=by
  rw [←hw2]
  have:=heap_alloc_new (w.alloc (.cells #[.int .i64 k,.int .i64 n,.slice u1 u2 u3] 25)) (.cells #[.int .i64 0,.int .i64 0,.slice none 0 0] 25)
  rwa [World.size_alloc] at this
 have c0:w2.cell? ⟨w.heap.size,0,none⟩=some (.int .i64 k):=cell_of_row w2 w.heap.size 0 _ _ (0,0) h0
 have c1:w2.cell? ⟨w.heap.size,1,none⟩=some (.int .i64 n):=cell_of_row w2 w.heap.size 1 _ _ (0,0) h0
 have c2:w2.cell? ⟨w.heap.size,2,none⟩=some (.slice u1 u2 u3):=cell_of_row w2 w.heap.size 2 _ _ (0,0) h0
 have hc:=change_any idn 88 #[] (enters_of Tryz.func88 (by kernel_rfl) rfl) w2 k n (u1,u2,u3) ps ((hps.below hb2).keep hb2.size fun _ _ _=>rfl) hs (fun m W _=>copy1_any m W)
 rw [nm_id] at hc
 have HC:=kI hc
 have HB:=kI hb2
 have H1:=kI h1
 clear hps hc hb2 h0 h1
 dsimp only [tyVal,slv] at HC ⊢
 go_enter Tryz.func47,Tryz.ntmps47
 go_wp2_with fail
 refine HC.out.mono ?_
 rintro e w3 ⟨u',rfl,hb3,hf⟩
 obtain ⟨r0,r1,r2,z0,z1,z2,w4,hw4,hld,hsz,hfar,hbl⟩:=ret_cells (w:=w3) (w.heap.size+1) k n u' ((hb3.block _ (by omega)).trans H1.out)
 have HL:=kI hld
 have HF:=kI hf
 have HFR:=kI hfar
 obtain ⟨u1',u2',u3'⟩:=u'
 dsimp only [tyVal,slv] at hw4 ⊢
 clear hld hf hfar
 go_wp2_with fail
 refine bodyPost_ret (results_box rfl _ _ _ _ rfl HL.out) rfl ?_
 have hb4:Below w.heap.size w w4:=(HB.out.trans (hb3.mono (by omega))).trans (hbl.mono (by omega))
 refine ⟨(u1',u2',u3'),rfl,hb4,FreshT.mono (HF.out.to (by omega) fun b cs hb hc=>(HFR.out b (by omega)).trans hc) (by omega)⟩
end
section
open Go.RowKit Go.Shelf
theorem two_cells {X:World}(g cp:Nat) (k0 n0 k1 n1:Int) (u0 u1:Sl) (f0 f1:Fo) (hg:g<X.heap.size) (hcp:2≤cp) (hcm:cp≤maxLen) (c0:X.cell? ⟨g,0,none⟩=some (.int .i64 k0)) (c1:X.cell? ⟨g,1,none⟩=some (.int .i64 n0)) (c2:X.cell? ⟨g,2,none⟩=some (slv u0)) (c3:X.cell? ⟨g,3,none⟩=some (.int .i64 k1)) (c4:X.cell? ⟨g,4,none⟩=some (.int .i64 n1)) (c5:X.cell? ⟨g,5,none⟩=some (slv u1)) (h0:TyV X.heap.size X f0 (slv u0)) (h1:TyV X.heap.size X f1 (slv u1)):TyV X.heap.size X (.cons k0 n0 u0 f0 (.cons k1 n1 u1 f1 .nil)) (.slice (some ⟨g,0,none⟩) 2 cp):=
 tyV_cons.2 ⟨g,0,cp,rfl,hcp,hcm,hg,tyC_cons.2 ⟨c0,c1,c2,h0,tyC_cons.2 ⟨c3,c4,c5,h1,tyC_nil⟩⟩⟩
theorem no_parts (B:Nat) (w:World):TyV B w .nil (slv (none,0,0)):=tyV_nil.2 ⟨none,0,rfl⟩
set_option maxRecDepth 100000 in
theorem var_any (n:Int) (w:World):Calls Tryz.prog 38 #[.int .i64 n] w fun e w'=>e = .returned (tyVal 1 n (.slice none 0 0))∧Below w.heap.size w w':=by
 obtain ⟨w1,hw1⟩:∃w1,w.alloc (.cells rt0 25)=w1:=⟨_,rfl⟩
 have hb1:Below w.heap.size w w1:=by rw [←hw1];exact (Below.refl _ _).alloc (Nat.le_refl _) _
 have hx1:w1.heap[w.heap.size]? = some (Obj.cells rt0 25):=by rw [←hw1];exact heap_alloc_new w _
 obtain ⟨r0,r1,r2,z0,z1,z2,w2,hw2,hld,hsz,hfar,hbl⟩:=ret_cells (w:=w1) w.heap.size 1 n (none,0,0) hx1
 have HLD:=kI hld
 have HB:=kI (hb1.trans hbl)
 unfold rt0 at hw1
 clear hld hfar hbl hb1 hx1
 dsimp only [slv] at hw2
 go_enter Tryz.func38,Tryz.ntmps38
 go_wp2
 refine bodyPost_ret (results_box rfl _ _ _ _ rfl HLD.out) rfl ?_
 exact ⟨rfl,HB.out⟩
end
section
open Go.RowKit
theorem own_below {w w':World}{base:Nat}{e:TypeId}{size:Nat}{v:Value}{n:Nat}{xs:List Value}(h:w.ownsRow base e size v n xs) (hb:Below w.heap.size w w'):w'.ownsRow base e size v n xs:=by
 refine ⟨h.1,?_⟩
 rcases h.2 with h0|⟨g,cap,cur,h0,hbg,hg,hr⟩
 ·exact .inl h0
 ·exact .inr ⟨g,cap,cur,h0,hbg,(hb.block g (gL hg).1).trans hg,hr⟩
end
section
open Go.RowKit
variable {n:Nat}{P:Program}
def SeqG {α:Type}(n:Nat) (P:Program) (g:Nat) (lb:Array Value) (t:TypeId) (encs:α→Array Value) (Kp:World→World→Prop) (S Sp:List α→Prop) (G:List α→α→Prop) (w:World):Prop:=
 ∀(l:Nat) (J Jx:List α→World→Prop) (W:World),Below w.heap.size w W→AbC W.heap.size t J→AbC W.heap.size t Jx→
  (∀pre x W1,J pre W1→G pre x→YieldAt Fence.wide (n-1) P l (encs x) W1 fun e W'=>
   (e = .returned (.bool true)∧J (pre ++ [x]) W'∧Kp W1 W')∨(e = .returned (.bool false)∧Jx (pre ++ [x]) W'))→J [] W→
  CallsIn Fence.wide n P g (#[.func (.yield l) #[] #[]]++lb) W fun e W'=>(∃v,e = .returned v)∧((∃xs,S xs∧J xs W')∨(∃pre,Sp pre∧Jx pre W'))
theorem wpIn_rangeG {α:Type}{g:Operand}{ps:Array Tmp}{assign body:Code}{Q:Exit→Act→World→Prop}{a:Act}{w:World}
  (h1:1≤n) {gf:Nat} {lb:Array Value} (hg:a.eval g = .func (.func gf) #[] lb) (eg:∀args w,(callFunc gf args).run P w = .ok (.enter gf args) w)
  {t:TypeId} {encs:α→Array Value} {Kp:World→World→Prop} {S Sp:List α→Prop} {G:List α→α→Prop} {w0:World} (hseq:SeqG (n-1) P gf lb t encs Kp S Sp G w0) (hb0:Below w0.heap.size w0 w)
  (hKt:∀ {A B C:World},Kp A B→Kp B C→Kp A C) (hKb:∀(W:World) (l:Nat) (o o':Obj),w.heap.size≤l→W.heap[l]? = some o→o.isCells=false→o.isWalk=false→Kp W (W.putObj l o')) (hps:∀x,(encs x).size=ps.size)
  (I:List α→World→Prop) (Ix:Code→List α→World→Prop) (hI:OwnFrom w.heap.size I) (hIx:∀c,OwnFrom w.heap.size (Ix c)) (hIc:AbC w.heap.size t I) (hIxc:∀c,AbC w.heap.size t (Ix c)) (h0:I [] w)
  (Ax:α→Act→World→Prop) (hAx:∀x a',OwnFrom w.heap.size (fun (_:Unit) W=>Ax x a' W))
  (hassign:∀(l:Nat) (pre:List α) (x:α) (W:World) (K:Act→World→Prop),I pre W→(∀a' W',KeepsFrom w.heap.size W W'→Kp W W'→I pre W'→Ax x a' W'→K a' W')→
   assign.wpIn (Fence.wide.inRound l) (n-1-1) P (Exit.then K (fun _ _ _=>False)) { tmps:=(ps.zip (encs x)).foldl (fun t (p,v)=>t.setIfInBounds p v) a.tmps,defers:=[] } W)
  (hbody:∀(l:Nat) (pre:List α) (x:α) (a':Act) (W:World),w.heap.size≤l→I pre W→Ax x a' W→G pre x→body.wpIn (Fence.wide.inRound l) (n-1-1) P (ownPostG w.heap.size Kp I Ix (pre ++ [x]) W) a' W)
  (hdone:∀(D:Nat) (xs:List α) (W:World),w.heap.size≤D→S xs→I xs W→W.heap[D]? = some (.deferred (some []))→Q .normal { a with defers:={ target:=.collected D,args:=#[] } :: a.defers } W)
  (hstop:∀(D:Nat) (c:Code) (pre:List α) (W:World),w.heap.size≤D→Sp pre→Ix c pre W→W.heap[D]? = some (.deferred (some []))→c.wpIn Fence.wide n P Q { a with defers:={ target:=.collected D,args:=#[] } :: a.defers } W):
  (Code.rangeFunc g ps assign body).wpIn Fence.wide n P Q a w:=by
 refine wpIn_rangeFunc fun fn hfn=>?_
 obtain ⟨R,hR⟩:∃R:LoopState→Option Code→Loop,R=fun st pe=>{ state:=st,pending:=pe,fn,tmps:=a.tmps,params:=ps,assign,body,defers:=w.heap.size }:=⟨_,rfl⟩
 obtain ⟨W1,hW1⟩:∃W1,(w.alloc (.deferred (some []))).alloc (.loop (R .ready none))=W1:=⟨_,rfl⟩
 have hL1:Laid w (R .ready none) W1:=by rw [←hW1];exact Laid.new w _
 have hI1:I [] W1:=by rw [←hW1];exact hI.alloc _ (hI.alloc _ h0)
 have hs1:W1.heap.size=w.heap.size+2:=by rw [←hW1];simp
 have hb1:Below w0.heap.size w0 W1:=by
  rw [←hW1];exact hb0.trans ((((Below.refl _ w).alloc (Nat.le_refl _) _).alloc (by simp) _).mono hb0.size)
  -- the caller's word, put where a round's record stands
 have put:∀ {r:Loop} (r':Loop) {W:World},Laid w r W→Kp W (W.putObj (w.heap.size+1) (.loop r')):=fun r' W h=>hKb _ _ _ _ (by omega) h.1 rfl rfl
 have wide:∀ {W W':World},CStep W1.heap.size t W W'→CStep w.heap.size t W W':=fun h=>h.mono (by omega)
 refine ⟨w.heap.size+1,[{ target:=.collected w.heap.size,args:=#[] }],W1,{ target:=.fn (.func gf) lb,args:=#[.func (.yield (w.heap.size+1)) #[] #[]] },W1,gf,#[.func (.yield (w.heap.size+1)) #[] #[]]++lb,W1,?_,?_,?_,?_,fun _=>h1,?_⟩
 ·rw [←hW1,hR];exact run_enterLoop_outer _ _ _ _ _
 ·simp only [resolve,hg];simp [go_sem]
 ·exact fun _ _=>trivial
 ·simp [invoke,go_sem,eg]
 refine (hseq (w.heap.size+1) (fun pre W=>I pre W∧Laid w (R .ready none) W) (fun pre W=>∃c,Ix c pre W∧Laid w (R .done (some c)) W) W1 hb1
  (fun s X Y hs hc=>⟨hIc s X Y hs.1 (wide hc),hs.2.step hc⟩) (fun s X Y ⟨c,hs,hl⟩ hc=>⟨c,hIxc c s X Y hs (wide hc),hl.step hc⟩) ?_ ⟨hI1,hL1⟩).mono ?_
 ·rintro pre x W ⟨hi,hl⟩ hlen
  have hy:=run_yield (P:=P) (args:=encs x) hl.1 (by rw [hR];exact hps x)
  rw [hR] at hy
  refine ⟨fn,_,assign,body,hy,roundIn_of_wpIn hfn (hassign _ pre x W _ hi ?_)⟩
  clear hy
  intro a' X hkX hpX hiX hax
  have hlX:=hl.from hkX
  refine ⟨_,run_beginRound hlX.1 (by rw [hR]),?_⟩
  have hlB:=hlX.put { R .ready none with state:=.busy }
  have hiB:=hI.putObj (.loop { R .ready none with state:=.busy }) hiX (by omega) hlX.1 rfl
  have haB:=(hAx x a').putObj (s:=()) (.loop { R .ready none with state:=.busy }) hax (by omega) hlX.1 rfl
  have hpB:=hKt hpX (put { R .ready none with state:=.busy } hlX)
  refine wpIn_mono (hbody _ pre x a' _ (by omega) hiB haB hlen) ?_
  have stop:∀(c:Code) (W3:World),KeepsFrom w.heap.size (X.putObj (w.heap.size+1) (.loop { R .ready none with state:=.busy })) W3→Ix c (pre ++ [x]) W3→
    ∃v w',(Instr.endRound (w.heap.size+1) (some c)).run P W3 = .ok v w'∧(((.returned v:Ending) = .returned (.bool true)∧(I (pre ++ [x]) w'∧Laid w (R .ready none) w')∧Kp W w')∨((.returned v:Ending) = .returned (.bool false)∧∃c,Ix c (pre ++ [x]) w'∧Laid w (R .done (some c)) w')):=by
   intro c W3 hk3 hi3
   have hl3:=hlB.from hk3
   have he:=run_endRound (P:=P) (some c) hl3.1
   refine ⟨_,_,he,.inr ⟨rfl,c,(hIx c).putObj _ hi3 (by omega) hl3.1 rfl,?_⟩⟩
   have:=hl3.put (R .done (some c))
   rw [hR] at this ⊢
   exact this
  rintro e a3 W3 hp
  cases e with
  | normal=>
   obtain ⟨hk3,hp3,hi3⟩:=hp
   have hl3:=hlB.from hk3
   have he:=run_endRound (P:=P) none hl3.1
   refine ⟨_,_,he,.inl ⟨rfl,⟨hI.putObj _ hi3 (by omega) hl3.1 rfl,?_⟩,hKt (hKt hpB hp3) (put _ hl3)⟩⟩
   have:=hl3.put (R .ready none)
   rw [hR] at this ⊢
   exact this
  | ret=>exact stop .ret W3 hp.1 hp.2
  | exit id=>exact stop (.exit id) W3 hp.1 hp.2
  | goto t=>exact stop (.goto t) W3 hp.1 hp.2
  | panic ch=>exact hp.elim
  | outgrown=>exact hp.elim
 ·rintro e W2 ⟨⟨v,rfl⟩,(⟨xs,hS,hi,hl⟩|⟨pre,hSp,c,hi,hl⟩)⟩
  ·have he:=run_endLoop (P:=P) hl.1 (by rw [hR];simp)
   rw [hR] at he
   exact ⟨none,_,he,hdone _ xs _ (Nat.le_refl _) hS (hI.putObj _ hi (by omega) hl.1 rfl) ((World.putObj_heap_other (by omega)).trans hl.2)⟩
  ·have he:=run_endLoop (P:=P) hl.1 (by rw [hR];simp)
   rw [hR] at he
   exact ⟨some c,_,he,hstop _ c pre _ (Nat.le_refl _) hSp ((hIx c).putObj _ hi (by omega) hl.1 rfl) ((World.putObj_heap_other (by omega)).trans hl.2)⟩
end
end Go.Proofs.YtmamdiggjghjkaaGreatDoor
namespace Go.Proofs
open Go.Shelf
def Tryz.lays166_ren:Go.Shelf.Ren:=⟨fun|166=>72|240=>103|276=>127|n=>n,fun|0=>0|3=>3|4=>4|5=>5|9=>9|20=>20|37=>61|70=>114|72=>116|75=>121|80=>128|164=>201|n=>n,fun|n=>n⟩
theorem Tryz.lays166:Go.Proofs.Lays.n166 Tryz.prog Tryz.lays166_ren:={
 mixed:=by kernel_rfl
 f166:=Tryz.func72.trans (congrArg some (by kernel_rfl))
 f240:=Tryz.func103.trans (congrArg some (by kernel_rfl))
 f276:=Tryz.func127.trans (congrArg some (by kernel_rfl))
 t0:=Tryz.underlying0
 a0:=Tryz.isAgg0
 z0:=Tryz.sizeOf0
 v0:=Tryz.zeroValue0
 t3:=Tryz.underlying3
 a3:=Tryz.isAgg3
 z3:=Tryz.sizeOf3
 v3:=Tryz.zeroValue3
 t4:=Tryz.underlying4
 a4:=Tryz.isAgg4
 z4:=Tryz.sizeOf4
 v4:=Tryz.zeroValue4
 t9:=Tryz.underlying9
 a9:=Tryz.isAgg9
 z9:=Tryz.sizeOf9
 v9:=Tryz.zeroValue9
 t20:=Tryz.underlying20
 a20:=Tryz.isAgg20
 z20:=Tryz.sizeOf20
 v20:=Tryz.zeroValue20
 t37:=Tryz.underlying61
 a37:=Tryz.isAgg61
 z37:=Tryz.sizeOf61
 v37:=Tryz.zeroValue61
 t70:=Tryz.underlying114
 a70:=Tryz.isAgg114
 z70:=Tryz.sizeOf114
 v70:=Tryz.zeroValue114
 t72:=Tryz.underlying116
 a72:=Tryz.isAgg116
 z72:=Tryz.sizeOf116
 v72:=Tryz.zeroValue116
 t75:=Tryz.underlying121
 a75:=Tryz.isAgg121
 z75:=Tryz.sizeOf121
 v75:=Tryz.zeroValue121
 t164:=Tryz.underlying201
 a164:=Tryz.isAgg201
 z164:=Tryz.sizeOf201
 v164:=Tryz.zeroValue201 }
theorem Tryz.Builder_Extra_166:Builder.Extra Tryz.prog Tryz.lays166_ren:={
 sizeBuilder:=by kernel_rfl
 liesBuilder:=by kernel_rfl
 t5:=Tryz.underlying5
 a5:=Tryz.isAgg5
 z5:=Tryz.sizeOf5
 v5:=Tryz.zeroValue5
 infoByte:=by kernel_rfl
 cellsByte:=by kernel_rfl
 sizeByte:=by kernel_rfl
 neB5:=by decide }
open Go.RowKit in
theorem Tryz.Builder_WriteString_k (B b:Nat) (bs:List Value) (s:ByteArray) (w:World) (h:Lib.IsBuilderF 116 5 B b bs w) (hlen:bs.length+s.size≤140737488355328) (hBw:B≤w.heap.size):
  Calls Tryz.prog 72 #[.pointer (some ⟨b,0,none⟩),.string s] w fun e w'=>e = .returned (.tuple #[.int .i64 s.size,.nilIface])∧(Lib.BuilderAtF 116 5 B b (.pointer (some ⟨b,0,none⟩)) (bs++Lib.strCells s) w'∧Below B w w'∧Lib.OthersKept 5 (some b) w w'):=Any.Builder_WriteString_k Tryz.lays166 Tryz.Builder_Extra_166 B b bs s w h hlen hBw
end Go.Proofs
