/- Texts of one proof, one behind the other. -/
import Derived.Test.YtgjlmjlfghodmaaGreatDoorMgSolveSat1
import Derived.Test.YtgjlmjlfghodmaaGreatDoorMgSolveSat3
import Derived.Deep.RegionWith
import Derived.Test.YtgjlmjlfghodmaaGreatDoorMgSolveSat2
set_option linter.unusedVariables false
namespace Go.Proofs.YtgjlmjlfghodmaaGreatDoor
open Go.RowKit Go.Shelf
attribute [local go_sem ↓] builtin_app
theorem ptrInfo:(Tryz.prog.info? 171).map (fun i=>(i.zero,i.size,i.bytes))=some (some (.pointer none),1,8):=by kernel_rfl
set_option maxHeartbeats 1000000 in
set_option maxRecDepth 100000 in
theorem change_any (num:Int→Int) (gf:Nat) (lb:Array Value) (eg:∀args w,(callFunc gf args).run Tryz.prog w = .ok (.enter gf args) w) (w:World) (k n:Int) (u:Sl) (ps:Fo) (hps:TyV w.heap.size w ps (slv u)) (hs:ps.size<1000000)
  (hnum:∀(m:Int) (W:World),Below w.heap.size w W→Calls Tryz.prog gf (#[.int .i64 m]++lb) W fun e W'=>e = .returned (.int .i64 (num m))∧W'=W):
  Calls Tryz.prog 92 #[tyVal k n (slv u),.func (.func gf) #[] lb] w fun e w'=>∃u':Sl,e = .returned (tyVal k (nm num k n) (slv u'))∧Below w.heap.size w w'∧FreshT 28 w.heap.size w' num ps u':=by
 obtain ⟨u1,u2,u3⟩:=u
 dsimp only [tyVal,slv] at hps ⊢
 obtain ⟨w3,hw3⟩:∃w3,((w.alloc (.cells #[.int .i64 k,.int .i64 n,.slice u1 u2 u3] 28)).alloc (.cells #[.int .i64 0,.int .i64 0,.slice none 0 0] 28)).alloc (.cells #[.pointer (some ⟨w.heap.size,0,none⟩)] 171)=w3:=⟨_,rfl⟩
 have hinv:ChInv num 28 171 w (w.heap.size+1) w.heap.size k n ps (.slice (some ⟨w.heap.size+1+1,0,none⟩) 1 1) w3 (1+ps.size):=by
  have hb:Below w.heap.size w w3:=by rw [←hw3];exact (((Below.refl _ w).alloc (Nat.le_refl _) _).alloc (by simp) _).alloc (by simp only [World.size_alloc];omega) _
  have h0:w3.heap[w.heap.size]? = some (.cells #[.int .i64 k,.int .i64 n,.slice u1 u2 u3] 28):=by
   rw [←hw3]
   exact (Below.heap_alloc _ _ _ (by simp only [World.size_alloc];omega)).trans ((Below.heap_alloc _ _ _ (by simp)).trans (heap_alloc_new w _))
  have h1:w3.heap[w.heap.size+1]? = some (.cells #[.int .i64 0,.int .i64 0,.slice none 0 0] 28):=by
   rw [←hw3]
   refine (Below.heap_alloc _ _ _ (by simp only [World.size_alloc];omega)).trans ?_
   have:=heap_alloc_new (w.alloc (.cells #[.int .i64 k,.int .i64 n,.slice u1 u2 u3] 28)) (.cells #[.int .i64 0,.int .i64 0,.slice none 0 0] 28)
   rwa [World.size_alloc] at this
  have c0:=cell_of_row w3 w.heap.size 0 _ _ (0,0) h0
  have c1:=cell_of_row w3 w.heap.size 1 _ _ (0,0) h0
  have c2:=cell_of_row w3 w.heap.size 2 _ _ (0,0) h0
  refine ⟨[⟨w.heap.size,0,k,n,(u1,u2,u3),ps⟩],by simp [left_],by omega,?_,?_,List.pairwise_singleton _ _,?_,hb,h1,by omega,⟨by omega,_,h0⟩⟩
  ·have:=own_full ((w.alloc (.cells #[.int .i64 k,.int .i64 n,.slice u1 u2 u3] 28)).alloc (.cells #[.int .i64 0,.int .i64 0,.slice none 0 0] 28)) w.heap.size (by simp only [World.size_alloc];omega) 171 1 1 [.pointer (some ⟨w.heap.size,0,none⟩)] rfl (by unfold maxLen;omega)
   simp only [World.size_alloc] at this
   rw [←hw3]
   simpa [ptrs] using this
  ·intro h hh
   obtain rfl:h=⟨w.heap.size,0,k,n,(u1,u2,u3),ps⟩:=by simpa using hh
   exact ⟨Nat.le_refl _,⟨by simp only;omega,_,h0⟩,c0,c1,c2,hps.below hb⟩
  ·intro W hsz hd _
   exact hd _ (List.mem_singleton.2 rfl)
 have HI:=kI hinv
 have HN:=kI hnum
 have HW3:=kI hw3
 clear hps hinv hnum hw3
 go_enter Tryz.func92,Tryz.ntmps92
 go_wp2_with fail
 go_loopw [5] (fun t5 wr=>∃s,ChInv num 28 171 w (w.heap.size+1) w.heap.size k n ps t5 wr s) (fun t5 wr=>least (ChInv num 28 171 w (w.heap.size+1) w.heap.size k n ps t5 wr))
 case atStart=>exact ⟨_,by rw [HW3.out];exact HI.out⟩
 case round=>
  obtain ⟨s,hs⟩:=hrel
  obtain ⟨⟨Hs,hsum,hsm,hown,hat,hap,hwd,hb,hrt,hrt2,hrb⟩,_⟩:=least_of hs
  have HM:=kI hsum
  clear hs hsum
  rcases List.eq_nil_or_concat Hs with rfl|⟨Hq,h,rfl⟩
  rotate_left
  ·rw [List.concat_eq_append] at *
   rw [List.length_append,List.length_singleton] at hown
   obtain ⟨g,cp,rfl,hg1,hg2⟩:=own_shape hown (by omega)
   obtain ⟨hbB,hT,d0,d1,d2,hv⟩:=hat h (List.mem_append_right _ (List.mem_singleton.2 rfl))
   obtain ⟨q,hq⟩:∃q,Hq.length=q:=⟨_,rfl⟩
   rw [hq] at hown ⊢
   have hql:q≤1000000:=by have:=left_len (Hq ++ [h]);rw [List.length_append] at this;have:=HM.out;omega
   have e0:wr.cell? ⟨g,q,none⟩=some (.pointer (some ⟨h.b,h.off,none⟩)):=by
    rw [hown.cellAt _ (by omega),ptrs_app,List.getElem?_append_right (by rw [ptrs_len];omega),ptrs_len,hq]
    simp [ptrs]
   have hcp:q+1≤cp:=by
    obtain ⟨_,_,hv,h1,_⟩:=own_form hown
    injection hv with _ _ h3
    omega
   have hz:decide ((q:Int)≤(cp:Int))=true:=by simp;omega
   have hz0:(0:Int)≤(q:Int):=by omega
   have own1:wr.ownsRow w.heap.size 171 1 (.slice (some ⟨g,0,none⟩) q cp) q (ptrs Hq):=by
    rw [ptrs_app] at hown
    exact own_cut hown q (by omega) (by rw [ptrs_len,hq,Nat.mul_one])
   have hfz:∀off,wr.frozen? ⟨h.b,off,none⟩=false:=fun off=>by
    obtain ⟨_,cs,hcs⟩:=hT
    exact frozen_cells hcs off
   have hfz1:=hfz (h.off+1)
   have hfz2:=hfz (h.off+2)
   have hgh:g≠h.b:=by
    rintro rfl
    obtain ⟨_,cs,hcs⟩:=hT
    exact row_not own1 (by decide) _ rfl cs hcs
   have hnc:=HN.out h.n wr hb
   have hwr:w.heap.size+1<wr.heap.size:=(gL hrt).1
   have hlt:=hT.lt
   have HD:=kI (aI d0 (aI d1 d2))
   have HV:=kI hv
   have HT:=kI hT
   have HAP:=kI hap
   have HWD:=kI hwd
   have HRB:Hid (isT 28 (w.heap.size+1) wr w.heap.size):=kI hrb
   have HAT:=kI hat
   have HO:=kI own1
   have HB:=kI hb
   have HQ:=kI hq
   have HRT:=kI hrt
   have HRB:=kI hrb
   have HSM:=kI (show left_ (Hq ++ [h])≤1000000 by have:=HM.out;omega)
   obtain ⟨m,hm⟩:∃m,h.ps.len=m:=⟨_,rfl⟩
   have hml:m≤1000000:=by
    have:=h.ps.len_le_size
    have h2:=HSM.out
    rw [left_app] at h2
    simp only [left_,List.map_cons,List.map_nil,List.sum_cons,List.sum_nil] at h2
    omega
   have HMM:=kI hm
      -- what the two ways through the question 'is it a variable?' leave
   have mid:∀wA,Tch 28 (w.heap.size+1) w.heap.size h wr wA→wr.heap.size=wA.heap.size→wA.cell? ⟨h.b,h.off,none⟩=some (.int .i64 h.k)→wA.cell? ⟨h.b,h.off+1,none⟩=some (.int .i64 (nm num h.k h.n))→wA.cell? ⟨h.b,h.off+2,none⟩=some (slv h.u)→wA.ownsRow w.heap.size 171 1 (.slice (some ⟨g,0,none⟩) q cp) q (ptrs Hq)→
     ∃(A1:Option Addr) (c1 c:Nat) (w1 w2:World),(app_ #[26,26] 26 #[.slice none 0 0,slv h.u]).run Tryz.prog wA = .ok (.slice A1 m c1) w1∧w1.setCell ⟨h.b,h.off+2,none⟩ (.slice A1 m c1)=w2∧w1.cell? ⟨h.b,h.off+2,none⟩=some (slv h.u)∧w1.frozen? ⟨h.b,h.off+2,none⟩=false∧
      w2.cell? ⟨h.b,h.off+2,none⟩=some (.slice A1 m c1)∧(0<m→A1=some ⟨c,0,none⟩)∧
      Hid (Tch 28 (w.heap.size+1) w.heap.size h wr w2∧w2.cell? ⟨h.b,h.off,none⟩=some (.int .i64 h.k)∧w2.cell? ⟨h.b,h.off+1,none⟩=some (.int .i64 (nm num h.k h.n))∧wr.heap.size≤c∧
       ((m=0∧∃A cp,(A1,m,c1)=(A,0,cp))∨(0<m∧(∃cs,w2.heap[c]? = some (Obj.cells cs 28))∧(∀j u,(h.ps.top.flatMap trC)[j]? = some u→w2.cell? ⟨c,j,none⟩=some u)∧∃cp,(A1,m,c1)=(some ⟨c,0,none⟩,m,cp)∧m≤cp∧cp≤maxLen))∧
       w2.ownsRow w.heap.size 171 1 (.slice (some ⟨g,0,none⟩) q cp) q (ptrs Hq)):=by
    intro wA tA hsz a0 a1 a2 ownA
    have hTA:=tA.kept _ HT.out
    have hvA:=HV.out.below tA.below
    obtain ⟨i0,hi0,hz0,hz1,hz2⟩:=info_parts tyInfo
    have rd:=TyV.rd3 (Nat.le_trans HB.out.size tA.below.size) hvA
    rw [hm] at rd
    have own0:wA.ownsRow wA.heap.size 28 3 (.slice none 0 0) 0 []:=⟨rfl,.inl ⟨rfl,rfl⟩⟩
    obtain ⟨v1,w1,hrun,hown1,hg1,hat1⟩:=run_append_rd (P:=Tryz.prog) wA wA.heap.size 26 26 28 i0 _ 3 40 Tryz.underlying26 hi0 hz0 hz1 hz2 rfl (by omega) (.slice none 0 0) 0 [] own0 _ m _ rd (trC_one _) (by unfold maxLen;omega) (by omega) (Nat.le_refl _)
    simp only [Nat.zero_add,List.nil_append] at hown1
    obtain ⟨A1,c1,rfl,hmc,hcm⟩:=own_form hown1
    have kT:KeepT 28 wA w1:=KeepT.grown hg1 (fun r e=>by cases e)
    have bT:Below w.heap.size wA w1:=(Below.refl _ _).grown hg1 (Nat.le_trans HB.out.size tA.below.size) (fun r e=>by cases e)
    have t1:Tch 28 (w.heap.size+1) w.heap.size h wr w1:=tA.trans (Tch.keep kT bT)
    have hT1:=t1.kept _ HT.out
    have x0:=(kT.cell hTA h.off).trans a0
    have x1:=(kT.cell hTA (h.off+1)).trans a1
    have x2:=(kT.cell hTA (h.off+2)).trans a2
    have t2:Tch 28 (w.heap.size+1) w.heap.size h wr (w1.setCell ⟨h.b,h.off+2,none⟩ (.slice A1 m c1)):=t1.trans (Tch.set 2 (by omega) hT1 hbB _)
    have y0:(w1.setCell ⟨h.b,h.off+2,none⟩ (.slice A1 m c1)).cell? ⟨h.b,h.off,none⟩=some (.int .i64 h.k):=(World.cell?_setCell_other _ _ _ _ (by intro e;injection e with _ e;omega)).trans x0
    have y1:(w1.setCell ⟨h.b,h.off+2,none⟩ (.slice A1 m c1)).cell? ⟨h.b,h.off+1,none⟩=some (.int .i64 (nm num h.k h.n)):=(World.cell?_setCell_other _ _ _ _ (by intro e;injection e with _ e;omega)).trans x1
    have hfzz:w1.frozen? ⟨h.b,h.off+2,none⟩=false:=by obtain ⟨_,cs,hcs⟩:=hT1;exact frozen_cells hcs _
    have ownT:w1.ownsRow w.heap.size 171 1 (.slice (some ⟨g,0,none⟩) q cp) q (ptrs Hq):=ownA.kept hg1 (.inr (by simp [Value.ownBlock]))
    have ownW:(w1.setCell ⟨h.b,h.off+2,none⟩ (.slice A1 m c1)).ownsRow w.heap.size 171 1 (.slice (some ⟨g,0,none⟩) q cp) q (ptrs Hq):=own_touch ownT hT1.2 (by decide) _ _
    rcases Nat.eq_zero_or_pos m with h0|h0
    ·exact ⟨A1,c1,wr.heap.size,w1,_,hrun,rfl,x2,hfzz,World.cell?_setCell_same _ _ _ x2,fun h=>by omega,kI ⟨t2,y0,y1,Nat.le_refl _,.inl ⟨h0,A1,c1,by rw [h0]⟩,ownW⟩⟩
    ·obtain ⟨c,c1',hv1,hc1,hc2⟩:=own_shape hown1 h0
     injection hv1 with e1 _ e3
     subst e1;subst e3
     have hcb:c≠h.b:=by have:=tA.below.size;omega
     obtain ⟨_,cap,cur,hv1,_,hcur,_⟩:=hown1.2.resolve_left (by rintro ⟨h,_⟩;omega)
     injection hv1 with e1 _ e3
     injection e1 with e1
     injection e1 with e1
     subst e1
     refine ⟨_,c1,c,w1,_,hrun,rfl,x2,hfzz,World.cell?_setCell_same _ _ _ x2,fun _=>rfl,kI ⟨t2,y0,y1,by omega,.inr ⟨h0,⟨cur,(Below.heap_setCell _ _ _ _ hcb).trans hcur⟩,fun j u hj=>?_,c1,rfl,hmc,hcm⟩,ownW⟩⟩
     have hjl:j<m*3:=by have:=(List.getElem?_eq_some_iff.1 hj).1;rw [trC_len,Fo.top_len,hm] at this;exact this
     rw [World.cell?_setCell_other _ _ _ _ (by intro e;injection e with e _;exact hcb e.symm),hown1.cellAt j hjl]
     exact hj
   have MID:=kI mid
   clear mid hown own1 hat hap hwd hv hT hb hq hfz hrt hrb hm HN HI
   obtain ⟨hB_,hO,hk_,hn_,⟨p1,p2,p3⟩,hps_⟩:=h
   dsimp only [slv] at d0 d1 d2 MID hnc e0 hfz1 hfz2 hgh hbB hlt ⊢
   generalize wr=wo at *
   by_cases hk1:hk_=1
   case' pos=>
    subst hk1
    obtain ⟨wA,hwA⟩:∃wA,wo.setCell ⟨hB_,hO+1,none⟩ (.int .i64 (num hn_))=wA:=⟨_,rfl⟩
    have a2:wA.cell? ⟨hB_,hO+2,none⟩=some (.slice p1 p2 p3):=by rw [←hwA];exact (World.cell?_setCell_other _ _ _ _ (by intro e;injection e with _ e;omega)).trans d2
    obtain ⟨A1,c1,c,w1,w2,hrun,hset,hsome,hfr,hc2,hA1,HF⟩:=MID.out wA (by rw [←hwA];exact Tch.set 1 (by omega) HT.out hbB _) (by rw [←hwA];simp [World.setCell]) (by rw [←hwA];exact (World.cell?_setCell_other _ _ _ _ (by intro e;injection e with _ e;omega)).trans d0) (by rw [←hwA,World.cell?_setCell_same _ _ _ d1];rfl) a2 (by rw [←hwA];exact own_touch HO.out HT.out.2 (by decide) _ _)
    have HA1:=kI hA1
    have HC:=kI hnc
    clear hA1 hnc
    go_wp2_with (go_at_fn gf;refine HC.out.mono ?_;rintro e w' ⟨rfl,hw'⟩;subst w')
   case' neg=>
    have f1:(hk_ == 1)=false:=beq_eq_false_iff_ne.2 hk1
    obtain ⟨A1,c1,c,w1,w2,hrun,hset,hsome,hfr,hc2,hA1,HF⟩:=MID.out wo (Tch.refl _ _ _ _ _) rfl d0 (by rw [d1,nm,if_neg hk1]) d2 HO.out
    have HA1:=kI hA1
    clear hA1 hnc hk1
    go_wp2_with fail
   all_goals
    go_loopw [5,50] (fun t5 t50 w5=>∃j:Nat,j≤m∧t50 = .int .i64 j∧w5.ownsRow w.heap.size 171 1 t5 (q+j) (ptrs Hq++ptrs ((holesOf c 0 hps_).take j))∧KeepT 28 w2 w5∧Below w.heap.size w2 w5) (fun _ t _=>m-(intOf t).toNat)
    case atStart=>exact ⟨0,Nat.zero_le _,rfl,by simpa [ptrs] using HF.out.2.2.2.2.2,KeepT.refl _ _,Below.refl _ _⟩
    case round=>
     obtain ⟨j,hj,rfl,hown,hkt,hbw⟩:=hrel
     have hT2:=HF.out.1.kept _ HT.out
     have hx2:wr.cell? ⟨hB_,hO+2,none⟩=some (.slice A1 m c1):=(hkt.cell hT2 _).trans hc2
     have HOW:=kI hown
     have HKT:=kI hkt
     have HBW:=kI hbw
     clear hown hkt hbw hT2
     by_cases hjl:j<m
     ·have hA2:=HA1.out (by omega)
      subst hA2
      have hpt:=ptrs_take c hps_ 0 j (by rw [HMM.out];exact hjl)
      rw [Nat.zero_add] at hpt
      have hwz:=Nat.le_trans HB.out.size (Nat.le_trans HF.out.1.below.size HBW.out.size)
      obtain ⟨W1,hW1⟩:∃W1,W1=wr.alloc (.cells #[.pointer (some ⟨c,j*3,none⟩)] 171):=⟨_,rfl⟩
      have rd1:Rd W1 1 (.slice (some ⟨wr.heap.size,0,none⟩) 1 1) 1 [.pointer (some ⟨c,j*3,none⟩)]:=by
       rw [hW1];exact rd_new wr [.pointer (some ⟨c,j*3,none⟩)] 171 1 1 rfl (by unfold maxLen;omega)
      have own1:=HOW.out.alloc (.cells #[.pointer (some ⟨c,j*3,none⟩)] 171)
      rw [←hW1] at own1
      have hbW:Below w.heap.size wr W1:=by rw [hW1];exact (Below.refl _ _).alloc hwz _
      obtain ⟨i0,hi0,hz0,hz1,hz2⟩:=info_parts ptrInfo
      obtain ⟨v1,w7,hrun7,hown7,hg7,_⟩:=run_append_rd (P:=Tryz.prog) W1 w.heap.size 172 172 171 i0 _ 1 8 Tryz.underlying172 hi0 hz0 hz1 hz2 rfl (by omega) u5 _ _ own1 _ 1 _ rd1 (by simp [Value.oneCell']) (by unfold maxLen;omega) (by omega) (Nat.le_trans hwz hbW.size)
      have k1:KeepT 28 wr W1:=by rw [hW1];exact (KeepT.refl _ _).alloc _
      have k7:KeepT 28 w2 w7:=(HKT.out.trans k1).trans (KeepT.grown hg7 (row_not own1 (by decide)))
      have b7:Below w.heap.size w2 w7:=HBW.out.trans (hbW.trans ((Below.refl _ _).grown hg7 (Nat.le_trans hwz hbW.size) (fun k e=>(own1.lt k e).1)))
      have hrun8:(app_ #[172,172] 172 #[u5,.slice (some ⟨wr.heap.size,0,none⟩) 1 1]).run Tryz.prog W1 = .ok v1 w7:=hrun7
      rw [hW1] at hrun8
      rw [List.append_assoc,←hpt] at hown7
      have HO7:=kI hown7
      have HK7:=kI k7
      have HB7:=kI b7
      clear hrun7 hown7 hg7 own1 rd1 hbW hW1 k1 k7 b7 hpt hwz hrun hset
      go_wp2_with fail
      go_roundw
      case rel=>exact ⟨j+1,by omega,by go_num,HO7.out,HK7.out,HB7.out⟩
      case measure=>simp [intOf];omega
     ·obtain rfl:j=m:=by omega
      have hnew:ChInv num 28 171 w (w.heap.size+1) w.heap.size k n ps u5 wr (left_ Hq+hps_.size):=by
       obtain ⟨t2,y0,y1,hcl,hu,_⟩:=HF.out
       have hT2:=t2.kept _ HT.out
       refine ch_step (c:=c) (m:=j) (u2:=(A1,j,c1)) HAT.out HAP.out HWD.out HB.out HRT.out hrt2 HRB.out HSM.out (t2.trans (Tch.keep HKT.out HBW.out)) HMM.out hcl ((HKT.out.cell hT2 _).trans y0) ((HKT.out.cell hT2 _).trans y1) hx2 ?_ ?_
       ·rcases hu with h0|⟨hp,⟨cs,hcs⟩,hcc,hh⟩
        ·exact .inl h0
        ·exact .inr ⟨hp,⟨cs,HKT.out.2 _ _ hcs⟩,fun i u hi=>(World.cell?_of_block ((HKT.out.2 _ _ hcs).trans hcs.symm)).trans (hcc i u hi),hh⟩
       ·rw [HQ.out]
        have:=HOW.out
        rw [List.take_of_length_le (by rw [holesOf_len,HMM.out];exact Nat.le_refl _)] at this
        exact this
      have HN:=kI hnew
      clear hnew hrun hset
      go_wp2_with fail
      go_roundw
      case rel=>exact ⟨_,HN.out⟩
      case measure=>
       have h1:=HM.out
       rw [HQ.out,left_app] at h1
       simp only [left_,List.map_cons,List.map_nil,List.sum_cons,List.sum_nil] at h1
       refine Nat.lt_of_lt_of_le (Nat.lt_of_le_of_lt (least_of HN.out).2 ?_) (Nat.le_of_eq h1)
       simp only [left_]
       omega
  ·obtain ⟨A,c,rfl,_,_⟩:=own_form hown
   obtain ⟨g,hg,c0,c1,u',c2,hv⟩:=hwd wr (Nat.le_refl _) (fun h hh=>by cases hh) (fun _ _ _ _ _=>rfl)
   have HWD:=kI hwd
   have HRB:Hid (isT 28 (w.heap.size+1) wr w.heap.size):=kI hrb
   have hfz:=frozen_cells hrt
   have r0:=cell_of_row wr (w.heap.size+1) 0 _ _ (0,0) hrt
   have r1:=cell_of_row wr (w.heap.size+1) 1 _ _ (0,0) hrt
   have r2:=cell_of_row wr (w.heap.size+1) 2 _ _ (0,0) hrt
   simp [rt0] at r0 r1 r2
   have HRT:=kI hrt
   have z0:=hfz 0
   have z1:=hfz 1
   have z2:=hfz 2
   obtain ⟨u1',u2',u3'⟩:=u'
   dsimp only [slv] at c2
   clear hwd hown hat hap hs hfz hrt hrb
   dsimp only [List.length_nil]
   go_wp2_with fail
   have hb1:Below w.heap.size wr (((wr.setCell ⟨w.heap.size+1,0,none⟩ (.int .i64 k)).setCell ⟨w.heap.size+1,1,none⟩ (.int .i64 (nm num k n))).setCell ⟨w.heap.size+1,2,none⟩ (.slice u1' u2' u3')):=
    (((Below.refl _ _).setCell (by simp) _).setCell (by simp) _).setCell (by simp) _
   have far:∀b off,b≠w.heap.size+1→(((wr.setCell ⟨w.heap.size+1,0,none⟩ (.int .i64 k)).setCell ⟨w.heap.size+1,1,none⟩ (.int .i64 (nm num k n))).setCell ⟨w.heap.size+1,2,none⟩ (.slice u1' u2' u3')).cell? ⟨b,off,none⟩=wr.cell? ⟨b,off,none⟩:=by
    intro b off hne
    rw [World.cell?_setCell_other _ _ _ _ (by intro e;injection e with e _;exact hne e.symm),World.cell?_setCell_other _ _ _ _ (by intro e;injection e with e _;exact hne e.symm),World.cell?_setCell_other _ _ _ _ (by intro e;injection e with e _;exact hne e.symm)]
   have s0:(((wr.setCell ⟨w.heap.size+1,0,none⟩ (.int .i64 k)).setCell ⟨w.heap.size+1,1,none⟩ (.int .i64 (nm num k n))).setCell ⟨w.heap.size+1,2,none⟩ (.slice u1' u2' u3')).cell? ⟨w.heap.size+1,0,none⟩=some (.int .i64 k):=by
    rw [World.cell?_setCell_other _ _ _ _ (by intro e;injection e with _ e;omega),World.cell?_setCell_other _ _ _ _ (by intro e;injection e with _ e;omega),World.cell?_setCell_same _ _ _ r0]
   have s1:(((wr.setCell ⟨w.heap.size+1,0,none⟩ (.int .i64 k)).setCell ⟨w.heap.size+1,1,none⟩ (.int .i64 (nm num k n))).setCell ⟨w.heap.size+1,2,none⟩ (.slice u1' u2' u3')).cell? ⟨w.heap.size+1,1,none⟩=some (.int .i64 (nm num k n)):=by
    rw [World.cell?_setCell_other _ _ _ _ (by intro e;injection e with _ e;omega)]
    exact World.cell?_setCell_same _ _ _ ((World.cell?_setCell_other _ _ _ _ (by intro e;injection e with _ e;omega)).trans r1)
   have s2:(((wr.setCell ⟨w.heap.size+1,0,none⟩ (.int .i64 k)).setCell ⟨w.heap.size+1,1,none⟩ (.int .i64 (nm num k n))).setCell ⟨w.heap.size+1,2,none⟩ (.slice u1' u2' u3')).cell? ⟨w.heap.size+1,2,none⟩=some (slv (u1',u2',u3')):=
    World.cell?_setCell_same _ _ _ ((World.cell?_setCell_other _ _ _ _ (by intro e;injection e with _ e;omega)).trans ((World.cell?_setCell_other _ _ _ _ (by intro e;injection e with _ e;omega)).trans r2))
   refine bodyPost_ret (results_box rfl _ _ _ _ rfl (load_ty s0 s1 s2)) rfl ?_
   refine ⟨(u1',u2',u3'),rfl,hb.trans hb1,fun W hWs hWc=>?_⟩
   have hrl:=(gL HRT.out).1
   have hWf:∀b off,w.heap.size≤b→isT 28 (w.heap.size+1) wr b→W.cell? ⟨b,off,none⟩=wr.cell? ⟨b,off,none⟩:=by
    intro b off hB ⟨hne,cs,hc⟩
    exact World.cell?_of_block ((hWc b cs hB (by
     rw [Below.heap_setCell _ _ _ _ (by simpa using hne),Below.heap_setCell _ _ _ _ (by simpa using hne),Below.heap_setCell _ _ _ _ (by simpa using hne)]
     exact hc)).trans hc.symm)
   obtain ⟨g',hg',_,_,⟨v1',v2',v3'⟩,c2',hv'⟩:=HWD.out W (Nat.le_trans hb1.size hWs) (fun h hh=>by cases hh) (fun b off hB hT _=>hWf b off hB hT)
   have hrbT:isT 28 (w.heap.size+1) wr w.heap.size:=HRB.out
   rw [hWf _ _ (Nat.le_refl _) hrbT,c2] at c2'
   unfold slv at c2'
   injection c2' with c2'
   injection c2' with e1 e2 e3
   subst e1;subst e2;subst e3
   exact ⟨g',hg',hv'⟩
end Go.Proofs.YtgjlmjlfghodmaaGreatDoor
namespace Go.Proofs.YtgjlmjlfghodmaaGreatDoor
open Go.RowKit Go.Shelf
def alone (k n:Int) (m:Nat):Bool:=
 if k=1 then decide (0≤n) && decide (n<1073741824) && ((m:Int) == 0)
 else if k=2∨k=3 then (n == 0) && ((m:Int) == 0)
 else if k=4 then (n == 0) && ((m:Int) == 2)
 else if k=5 then (n == 0) && decide (2≤(m:Int)) && decide ((m:Int)≤8)
 else false
theorem number_any (n:Int) (w:World):Calls Tryz.prog 129 #[.int .i64 n] w fun e w'=>e = .returned (.bool (decide (0≤n) && decide (n<1073741824)))∧w'=w:=by
 go_enter Tryz.func129,Tryz.ntmps129
 by_cases h:0≤n
 ·have h2:decide (0≤n)=true:=decide_eq_true h
  go_wp2
  go_ret
  exact ⟨by rw [h2];rfl,rfl⟩
 ·have h2:decide (0≤n)=false:=decide_eq_false h
  go_wp2
  go_ret
  exact ⟨rfl,rfl⟩
set_option maxHeartbeats 1000000 in
theorem alone_any (k n:Int) (A:Option Addr) (m c:Nat) (w:World):Calls Tryz.prog 95 #[tyVal k n (.slice A m c)] w fun e w'=>e = .returned (.bool (alone k n m))∧Below w.heap.size w w':=by
 dsimp only [tyVal]
 go_enter Tryz.func95,Tryz.ntmps95
 have HB:=kI (show ∀(cs:Array Value) (t:TypeId),Below w.heap.size w (w.alloc (Obj.cells cs t)) from fun cs t=>(Below.refl _ w).alloc (Nat.le_refl _) _)
 by_cases h1:k=1
 ·subst h1
  go_wp2_with fail
  refine (number_any n _).mono ?_
  rintro e w' ⟨rfl,rfl⟩
  obtain ⟨b,hb⟩:∃b,(decide (0≤n) && decide (n<1073741824))=b:=⟨_,rfl⟩
  rw [hb]
  have HN:=kI hb
  clear hb
  cases b
  ·go_wp2
   go_ret
   refine ⟨?_,HB.out _ _⟩
   simp [alone,HN.out]
  ·go_wp2
   go_ret
   refine ⟨?_,HB.out _ _⟩
   simp [alone,HN.out]
 by_cases h2:k=2
 ·subst h2
  obtain ⟨b,hb⟩:∃b,(n == 0)=b:=⟨_,rfl⟩
  cases b
  ·go_wp2
   go_ret
   refine ⟨?_,HB.out _ _⟩
   simp [alone,hb]
  ·go_wp2
   go_ret
   refine ⟨?_,HB.out _ _⟩
   simp [alone,hb]
 by_cases h3:k=3
 ·subst h3
  obtain ⟨b,hb⟩:∃b,(n == 0)=b:=⟨_,rfl⟩
  cases b
  ·go_wp2
   go_ret
   refine ⟨?_,HB.out _ _⟩
   simp [alone,hb]
  ·go_wp2
   go_ret
   refine ⟨?_,HB.out _ _⟩
   simp [alone,hb]
 by_cases h4:k=4
 ·subst h4
  obtain ⟨b,hb⟩:∃b,(n == 0)=b:=⟨_,rfl⟩
  cases b
  ·go_wp2
   go_ret
   refine ⟨?_,HB.out _ _⟩
   simp [alone,hb]
  ·go_wp2
   go_ret
   refine ⟨?_,HB.out _ _⟩
   simp [alone,hb]
 by_cases h5:k=5
 ·subst h5
  obtain ⟨b,hb⟩:∃b,(n == 0)=b:=⟨_,rfl⟩
  obtain ⟨d,hd⟩:∃d,decide (2≤(m:Int))=d:=⟨_,rfl⟩
  cases b
  ·go_wp2
   go_ret
   refine ⟨?_,HB.out _ _⟩
   simp [alone,hb]
  cases d
  ·go_wp2
   go_ret
   refine ⟨?_,HB.out _ _⟩
   simp [alone,hb,hd]
  ·go_wp2
   go_ret
   refine ⟨?_,HB.out _ _⟩
   simp [alone,hb,hd]
 have f1:(k == 1)=false:=beq_eq_false_iff_ne.2 h1
 have f2:(k == 2)=false:=beq_eq_false_iff_ne.2 h2
 have f3:(k == 3)=false:=beq_eq_false_iff_ne.2 h3
 have f4:(k == 4)=false:=beq_eq_false_iff_ne.2 h4
 have f5:(k == 5)=false:=beq_eq_false_iff_ne.2 h5
 go_wp2
 go_ret
 refine ⟨?_,HB.out _ _⟩
 simp [alone,h1,h2,h3,h4,h5]
end Go.Proofs.YtgjlmjlfghodmaaGreatDoor
namespace Go.Proofs.YtgjlmjlfghodmaaGreatDoor
open Go.RowKit
namespace Fo
def same:Fo→Fo→Bool
 | nil,nil=>true
 | cons k n _ ps r,cons k' n' _ ps' r'=>k == k' && n == n' && ps.same ps' && r.same r'
 | _,_=>false
end Fo
end Go.Proofs.YtgjlmjlfghodmaaGreatDoor
namespace Go.Proofs.YtgjlmjlfghodmaaGreatDoor
open Go.RowKit Go.Shelf
theorem ret_cells {w:World}(g:Nat) (k n:Int) (u:Sl) (hg:w.heap[g]? = some (Obj.cells rt0 28)):
  w.cell? ⟨g,0,none⟩=some (.int .i64 0)∧w.cell? ⟨g,1,none⟩=some (.int .i64 0)∧w.cell? ⟨g,2,none⟩=some (.slice none 0 0)∧w.frozen? ⟨g,0,none⟩=false∧w.frozen? ⟨g,1,none⟩=false∧w.frozen? ⟨g,2,none⟩=false∧
  ∃w',((w.setCell ⟨g,0,none⟩ (.int .i64 k)).setCell ⟨g,1,none⟩ (.int .i64 n)).setCell ⟨g,2,none⟩ (slv u)=w'∧(loadVar 28 ⟨g,0,none⟩).run Tryz.prog w' = .ok (tyVal k n (slv u)) w'∧w'.heap.size=w.heap.size∧(∀b,b≠g→w'.heap[b]? = w.heap[b]?)∧Below g w w':=by
 have r0:=cell_of_row w g 0 _ _ (0,0) hg
 have r1:=cell_of_row w g 1 _ _ (0,0) hg
 have r2:=cell_of_row w g 2 _ _ (0,0) hg
 simp [rt0] at r0 r1 r2
 have e01:(⟨g,1,none⟩:Addr)≠⟨g,0,none⟩:=by intro e;injection e with _ e;omega
 have e02:(⟨g,2,none⟩:Addr)≠⟨g,0,none⟩:=by intro e;injection e with _ e;omega
 have e12:(⟨g,2,none⟩:Addr)≠⟨g,1,none⟩:=by intro e;injection e with _ e;omega
 refine ⟨r0,r1,r2,frozen_cells hg 0,frozen_cells hg 1,frozen_cells hg 2,_,rfl,load_ty ?_ ?_ ?_,by simp [World.setCell],fun b hne=>?_,?_⟩
 rotate_right
 ·exact (((Below.refl g w).setCell (p:=⟨g,0,none⟩) (Nat.le_refl g) _).setCell (p:=⟨g,1,none⟩) (Nat.le_refl g) _).setCell (p:=⟨g,2,none⟩) (Nat.le_refl g) _
 ·rw [World.cell?_setCell_other _ _ _ _ e02,World.cell?_setCell_other _ _ _ _ e01,World.cell?_setCell_same _ _ _ r0]
 ·rw [World.cell?_setCell_other _ _ _ _ e12]
  exact World.cell?_setCell_same _ _ _ ((World.cell?_setCell_other _ _ _ _ e01.symm).trans r1)
 ·exact World.cell?_setCell_same _ _ _ ((World.cell?_setCell_other _ _ _ _ e12.symm).trans ((World.cell?_setCell_other _ _ _ _ e02.symm).trans r2))
 ·rw [Below.heap_setCell _ _ _ _ (by simpa using hne),Below.heap_setCell _ _ _ _ (by simpa using hne),Below.heap_setCell _ _ _ _ (by simpa using hne)]
theorem copy1_any (m:Int) (W:World):Calls Tryz.prog 93 (#[.int .i64 m] ++ #[]) W fun e W'=>e = .returned (.int .i64 (idn m))∧W'=W:=by
 rw [Array.append_empty]
 go_enter Tryz.func93,Tryz.ntmps93
 go_wp2
 go_ret
 exact ⟨rfl,rfl⟩
theorem copy_any (w:World) (k n:Int) (u:Sl) (ps:Fo) (hps:TyV w.heap.size w ps (slv u)) (hs:ps.size<1000000):
  Calls Tryz.prog 52 #[tyVal k n (slv u)] w fun e w'=>∃u':Sl,e = .returned (tyVal k n (slv u'))∧Below w.heap.size w w'∧FreshT 28 w.heap.size w' idn ps u':=by
 obtain ⟨u1,u2,u3⟩:=u
 obtain ⟨w2,hw2⟩:∃w2,(w.alloc (.cells #[.int .i64 k,.int .i64 n,.slice u1 u2 u3] 28)).alloc (.cells #[.int .i64 0,.int .i64 0,.slice none 0 0] 28)=w2:=⟨_,rfl⟩
 have hs2:w2.heap.size=w.heap.size+1+1:=by rw [←hw2];simp
 have hb2:Below w.heap.size w w2:=by rw [←hw2];exact ((Below.refl _ w).alloc (Nat.le_refl _) _).alloc (by simp) _
 have h0:w2.heap[w.heap.size]? = some (.cells #[.int .i64 k,.int .i64 n,.slice u1 u2 u3] 28):=by
  rw [←hw2];exact (Below.heap_alloc _ _ _ (by simp)).trans (heap_alloc_new w _)
 have h1:w2.heap[w.heap.size+1]? = some (.cells rt0 28):=by
  rw [←hw2]
  have:=heap_alloc_new (w.alloc (.cells #[.int .i64 k,.int .i64 n,.slice u1 u2 u3] 28)) (.cells #[.int .i64 0,.int .i64 0,.slice none 0 0] 28)
  rwa [World.size_alloc] at this
 have c0:w2.cell? ⟨w.heap.size,0,none⟩=some (.int .i64 k):=cell_of_row w2 w.heap.size 0 _ _ (0,0) h0
 have c1:w2.cell? ⟨w.heap.size,1,none⟩=some (.int .i64 n):=cell_of_row w2 w.heap.size 1 _ _ (0,0) h0
 have c2:w2.cell? ⟨w.heap.size,2,none⟩=some (.slice u1 u2 u3):=cell_of_row w2 w.heap.size 2 _ _ (0,0) h0
 have hc:=change_any idn 93 #[] (enters_of Tryz.func93 (by kernel_rfl) rfl) w2 k n (u1,u2,u3) ps ((hps.below hb2).keep hb2.size fun _ _ _=>rfl) hs (fun m W _=>copy1_any m W)
 rw [nm_id] at hc
 have HC:=kI hc
 have HB:=kI hb2
 have H1:=kI h1
 clear hps hc hb2 h0 h1
 dsimp only [tyVal,slv] at HC ⊢
 go_enter Tryz.func52,Tryz.ntmps52
 go_wp2_with fail
 refine HC.out.mono ?_
 rintro e w3 ⟨u',rfl,hb3,hf⟩
 obtain ⟨r0,r1,r2,z0,z1,z2,w4,hw4,hld,hsz,hfar,hbl⟩:=ret_cells (w:=w3) (w.heap.size+1) k n u' ((hb3.block _ (by omega)).trans H1.out)
 have HL:=kI hld
 have HF:=kI hf
 have HFR:=kI hfar
 obtain ⟨u1',u2',u3'⟩:=u'
 dsimp only [tyVal,slv] at hw4 ⊢
 clear hld hf hfar
 go_wp2_with fail
 refine bodyPost_ret (results_box rfl _ _ _ _ rfl HL.out) rfl ?_
 have hb4:Below w.heap.size w w4:=(HB.out.trans (hb3.mono (by omega))).trans (hbl.mono (by omega))
 refine ⟨(u1',u2',u3'),rfl,hb4,FreshT.mono (HF.out.to (by omega) fun b cs hb hc=>(HFR.out b (by omega)).trans hc) (by omega)⟩
end Go.Proofs.YtgjlmjlfghodmaaGreatDoor
namespace Go.Proofs.YtgjlmjlfghodmaaGreatDoor
open Go.RowKit
variable {n:Nat}{P:Program}
def SeqG {α:Type}(n:Nat) (P:Program) (g:Nat) (lb:Array Value) (t:TypeId) (encs:α→Array Value) (Kp:World→World→Prop) (S Sp:List α→Prop) (G:List α→α→Prop) (w:World):Prop:=
 ∀(l:Nat) (J Jx:List α→World→Prop) (W:World),Below w.heap.size w W→AbC W.heap.size t J→AbC W.heap.size t Jx→
  (∀pre x W1,J pre W1→G pre x→YieldAt Fence.wide (n-1) P l (encs x) W1 fun e W'=>
   (e = .returned (.bool true)∧J (pre ++ [x]) W'∧Kp W1 W')∨(e = .returned (.bool false)∧Jx (pre ++ [x]) W'))→J [] W→
  CallsIn Fence.wide n P g (#[.func (.yield l) #[] #[]]++lb) W fun e W'=>(∃v,e = .returned v)∧((∃xs,S xs∧J xs W')∨(∃pre,Sp pre∧Jx pre W'))
theorem wpIn_rangeG {α:Type}{g:Operand}{ps:Array Tmp}{assign body:Code}{Q:Exit→Act→World→Prop}{a:Act}{w:World}
  (h1:1≤n) {gf:Nat} {lb:Array Value} (hg:a.eval g = .func (.func gf) #[] lb) (eg:∀args w,(callFunc gf args).run P w = .ok (.enter gf args) w)
  {t:TypeId} {encs:α→Array Value} {Kp:World→World→Prop} {S Sp:List α→Prop} {G:List α→α→Prop} {w0:World} (hseq:SeqG (n-1) P gf lb t encs Kp S Sp G w0) (hb0:Below w0.heap.size w0 w)
  (hKt:∀ {A B C:World},Kp A B→Kp B C→Kp A C) (hKb:∀(W:World) (l:Nat) (o o':Obj),w.heap.size≤l→W.heap[l]? = some o→o.isCells=false→o.isWalk=false→Kp W (W.putObj l o')) (hps:∀x,(encs x).size=ps.size)
  (I:List α→World→Prop) (Ix:Code→List α→World→Prop) (hI:OwnFrom w.heap.size I) (hIx:∀c,OwnFrom w.heap.size (Ix c)) (hIc:AbC w.heap.size t I) (hIxc:∀c,AbC w.heap.size t (Ix c)) (h0:I [] w)
  (Ax:α→Act→World→Prop) (hAx:∀x a',OwnFrom w.heap.size (fun (_:Unit) W=>Ax x a' W))
  (hassign:∀(l:Nat) (pre:List α) (x:α) (W:World) (K:Act→World→Prop),I pre W→(∀a' W',KeepsFrom w.heap.size W W'→Kp W W'→I pre W'→Ax x a' W'→K a' W')→
   assign.wpIn (Fence.wide.inRound l) (n-1-1) P (Exit.then K (fun _ _ _=>False)) { tmps:=(ps.zip (encs x)).foldl (fun t (p,v)=>t.setIfInBounds p v) a.tmps,defers:=[] } W)
  (hbody:∀(l:Nat) (pre:List α) (x:α) (a':Act) (W:World),w.heap.size≤l→I pre W→Ax x a' W→G pre x→body.wpIn (Fence.wide.inRound l) (n-1-1) P (ownPostG w.heap.size Kp I Ix (pre ++ [x]) W) a' W)
  (hdone:∀(D:Nat) (xs:List α) (W:World),w.heap.size≤D→S xs→I xs W→W.heap[D]? = some (.deferred (some []))→Q .normal { a with defers:={ target:=.collected D,args:=#[] } :: a.defers } W)
  (hstop:∀(D:Nat) (c:Code) (pre:List α) (W:World),w.heap.size≤D→Sp pre→Ix c pre W→W.heap[D]? = some (.deferred (some []))→c.wpIn Fence.wide n P Q { a with defers:={ target:=.collected D,args:=#[] } :: a.defers } W):
  (Code.rangeFunc g ps assign body).wpIn Fence.wide n P Q a w:=by
 refine wpIn_rangeFunc fun fn hfn=>?_
 obtain ⟨R,hR⟩:∃R:LoopState→Option Code→Loop,R=fun st pe=>{ state:=st,pending:=pe,fn,tmps:=a.tmps,params:=ps,assign,body,defers:=w.heap.size }:=⟨_,rfl⟩
 obtain ⟨W1,hW1⟩:∃W1,(w.alloc (.deferred (some []))).alloc (.loop (R .ready none))=W1:=⟨_,rfl⟩
 have hL1:Laid w (R .ready none) W1:=by rw [←hW1];exact Laid.new w _
 have hI1:I [] W1:=by rw [←hW1];exact hI.alloc _ (hI.alloc _ h0)
 have hs1:W1.heap.size=w.heap.size+2:=by rw [←hW1];simp
 have hb1:Below w0.heap.size w0 W1:=by
  rw [←hW1];exact hb0.trans ((((Below.refl _ w).alloc (Nat.le_refl _) _).alloc (by simp) _).mono hb0.size)
  -- the caller's word, put where a round's record stands
 have put:∀ {r:Loop} (r':Loop) {W:World},Laid w r W→Kp W (W.putObj (w.heap.size+1) (.loop r')):=fun r' W h=>hKb _ _ _ _ (by omega) h.1 rfl rfl
 have wide:∀ {W W':World},CStep W1.heap.size t W W'→CStep w.heap.size t W W':=fun h=>h.mono (by omega)
 refine ⟨w.heap.size+1,[{ target:=.collected w.heap.size,args:=#[] }],W1,{ target:=.fn (.func gf) lb,args:=#[.func (.yield (w.heap.size+1)) #[] #[]] },W1,gf,#[.func (.yield (w.heap.size+1)) #[] #[]]++lb,W1,?_,?_,?_,?_,fun _=>h1,?_⟩
 ·rw [←hW1,hR];exact run_enterLoop_outer _ _ _ _ _
 ·simp only [resolve,hg];simp [go_sem]
 ·exact fun _ _=>trivial
 ·simp [invoke,go_sem,eg]
 refine (hseq (w.heap.size+1) (fun pre W=>I pre W∧Laid w (R .ready none) W) (fun pre W=>∃c,Ix c pre W∧Laid w (R .done (some c)) W) W1 hb1
  (fun s X Y hs hc=>⟨hIc s X Y hs.1 (wide hc),hs.2.step hc⟩) (fun s X Y ⟨c,hs,hl⟩ hc=>⟨c,hIxc c s X Y hs (wide hc),hl.step hc⟩) ?_ ⟨hI1,hL1⟩).mono ?_
 ·rintro pre x W ⟨hi,hl⟩ hlen
  have hy:=run_yield (P:=P) (args:=encs x) hl.1 (by rw [hR];exact hps x)
  rw [hR] at hy
  refine ⟨fn,_,assign,body,hy,roundIn_of_wpIn hfn (hassign _ pre x W _ hi ?_)⟩
  clear hy
  intro a' X hkX hpX hiX hax
  have hlX:=hl.from hkX
  refine ⟨_,run_beginRound hlX.1 (by rw [hR]),?_⟩
  have hlB:=hlX.put { R .ready none with state:=.busy }
  have hiB:=hI.putObj (.loop { R .ready none with state:=.busy }) hiX (by omega) hlX.1 rfl
  have haB:=(hAx x a').putObj (s:=()) (.loop { R .ready none with state:=.busy }) hax (by omega) hlX.1 rfl
  have hpB:=hKt hpX (put { R .ready none with state:=.busy } hlX)
  refine wpIn_mono (hbody _ pre x a' _ (by omega) hiB haB hlen) ?_
  have stop:∀(c:Code) (W3:World),KeepsFrom w.heap.size (X.putObj (w.heap.size+1) (.loop { R .ready none with state:=.busy })) W3→Ix c (pre ++ [x]) W3→
    ∃v w',(Instr.endRound (w.heap.size+1) (some c)).run P W3 = .ok v w'∧(((.returned v:Ending) = .returned (.bool true)∧(I (pre ++ [x]) w'∧Laid w (R .ready none) w')∧Kp W w')∨((.returned v:Ending) = .returned (.bool false)∧∃c,Ix c (pre ++ [x]) w'∧Laid w (R .done (some c)) w')):=by
   intro c W3 hk3 hi3
   have hl3:=hlB.from hk3
   have he:=run_endRound (P:=P) (some c) hl3.1
   refine ⟨_,_,he,.inr ⟨rfl,c,(hIx c).putObj _ hi3 (by omega) hl3.1 rfl,?_⟩⟩
   have:=hl3.put (R .done (some c))
   rw [hR] at this ⊢
   exact this
  rintro e a3 W3 hp
  cases e with
  | normal=>
   obtain ⟨hk3,hp3,hi3⟩:=hp
   have hl3:=hlB.from hk3
   have he:=run_endRound (P:=P) none hl3.1
   refine ⟨_,_,he,.inl ⟨rfl,⟨hI.putObj _ hi3 (by omega) hl3.1 rfl,?_⟩,hKt (hKt hpB hp3) (put _ hl3)⟩⟩
   have:=hl3.put (R .ready none)
   rw [hR] at this ⊢
   exact this
  | ret=>exact stop .ret W3 hp.1 hp.2
  | exit id=>exact stop (.exit id) W3 hp.1 hp.2
  | goto t=>exact stop (.goto t) W3 hp.1 hp.2
  | panic ch=>exact hp.elim
  | outgrown=>exact hp.elim
 ·rintro e W2 ⟨⟨v,rfl⟩,(⟨xs,hS,hi,hl⟩|⟨pre,hSp,c,hi,hl⟩)⟩
  ·have he:=run_endLoop (P:=P) hl.1 (by rw [hR];simp)
   rw [hR] at he
   exact ⟨none,_,he,hdone _ xs _ (Nat.le_refl _) hS (hI.putObj _ hi (by omega) hl.1 rfl) ((World.putObj_heap_other (by omega)).trans hl.2)⟩
  ·have he:=run_endLoop (P:=P) hl.1 (by rw [hR];simp)
   rw [hR] at he
   exact ⟨some c,_,he,hstop _ c pre _ (Nat.le_refl _) hSp ((hIx c).putObj _ hi (by omega) hl.1 rfl) ((World.putObj_heap_other (by omega)).trans hl.2)⟩
end Go.Proofs.YtgjlmjlfghodmaaGreatDoor
namespace Go.Proofs.YtgjlmjlfghodmaaGreatDoor
open Go.RowKit Go.Shelf
attribute [local go_sem] Oper.semAt_some
def NextB (L:List Tr) (pre:List (Int×Tr)) (x:Int×Tr):Prop:=∃_:pre.length<L.length,x=(((L.length-1-pre.length:Nat):Int),L[L.length-1-pre.length])
set_option maxRecDepth 100000 in
set_option maxHeartbeats 2000000 in
theorem back1G (n:Nat) (hn:1≤n) (l Bs B:Nat) (A:Option Addr) (c:Nat) (L:List Tr) (hL:L.length≤1000000) (J Jx:List (Int×Tr)→World→Prop)
  (hY:∀pre x W,J pre W→NextB L pre x→YieldAt Fence.wide (n-1) Tryz.prog l #[.int .i64 x.1,trV x.2] W fun e W'=>
   (e = .returned (.bool true)∧J (pre ++ [x]) W'∧KpB B Bs W W')∨(e = .returned (.bool false)∧Jx (pre ++ [x]) W'))
  (W:World) (hBs:Boxed W Bs 26 (.slice A L.length c)) (hR:RdX B W (.slice A L.length c) L) (h0:J [] W):
  CallsIn Fence.wide n Tryz.prog 102 #[.func (.yield l) #[] #[],.pointer (some ⟨Bs,0,none⟩)] W fun e W'=>(∃v,e = .returned v)∧
   ((∃ys:List (Int×Tr),ys.map (·.2)=L.reverse∧J ys W')∨(∃pre,Jx pre W')):=by
 refine callsIn_of_wp Tryz.func102 rfl trivial ?_ rfl
 simp only [Tryz.ntmps102,List.size_toArray,List.length_cons,List.length_nil,Nat.reduceAdd,Nat.reduceSub,Array.replicate_succ,Array.replicate_zero,List.push_toArray,List.append_toArray,List.nil_append,List.cons_append]
 have e00:W.cell? ⟨Bs,0,none⟩=some (.slice A L.length c):=hBs.cell
 have HBS:=kI hBs
 clear hBs
 gi_wp2
 gi_loopw [3] (fun i wr=>∃(k:Nat) (z:Int) (pre:List (Int×Tr)),k≤L.length∧i = .int .i64 z∧z+1=k∧pre.map (·.2)=(L.drop k).reverse∧J pre wr∧Below B W wr∧Boxed wr Bs 26 (.slice A L.length c))
  (fun i _=>(intOf i+1).toNat)
 case atStart=>exact ⟨L.length,_,[],Nat.le_refl _,rfl,by omega,by simp,h0,Below.refl _ _,HBS.out⟩
 case round=>
  obtain ⟨k,z,pre,hk,rfl,hz,hpre,hJs,hnx,hbx⟩:=hrel
  have e0:wr.cell? ⟨Bs,0,none⟩=some (.slice A L.length c):=hbx.cell
  have HBX:=kI hbx
  clear hbx
  by_cases hk0:1≤k
  ·obtain ⟨A',c',hv,hf⟩:=hR.below hnx
   injection hv with hv1 _ hv3
   subst hv1;subst hv3
   obtain ⟨b,off,rfl,hlt,hc⟩:=hf (by omega)
   obtain ⟨c0,c1,c2⟩:=hc (k-1) (by omega)
   have hdrop:L.drop (k-1)=L[k-1] :: L.drop k:=by
    have:=List.drop_eq_getElem_cons (l:=L) (i:=k-1) (by omega)
    rwa [show k-1+1=k by omega] at this
   have hpl:pre.length<L.length:=by
    have:(pre.map (·.2)).length=pre.length:=by simp
    rw [hpre] at this
    simp at this
    omega
   have hnb:NextB L pre (z,L[k-1]):=by
    have hpl2:pre.length=L.length-k:=by
     have:(pre.map (·.2)).length=pre.length:=by simp
     rw [hpre] at this
     simp at this
     omega
    refine ⟨hpl,?_⟩
    have e:L.length-1-pre.length=k-1:=by omega
    rw [Prod.mk.injEq]
    exact ⟨by omega,by simp only [e]⟩
   obtain ⟨x,hx⟩:∃x,L[k-1]=x:=⟨_,rfl⟩
   rw [hx] at c0 c1 c2 hdrop hnb
   obtain ⟨x1,x2,x3⟩:=x
   dsimp only [slv] at c2
   obtain ⟨fn,tmps,assign,body,hy,hR2⟩:=hY pre (z,x1,x2,x3) wr hJs hnb
   dsimp only [trV,slv] at hy
   have f1:(0:Int)≤z:=by omega
   have f2:z<(L.length:Int):=by omega
   have f3:z.toNat=k-1:=by omega
   have f4:decide ((0:Int)≤z)=true:=decide_eq_true f1
   have HZ:=kI hz
   have HP:=kI hpre
   have HD:=kI hdrop
   clear hz hpre hdrop hx hc hf hpl hnb
   gi_wp2
   refine hR2.mono ?_
   rintro e W3 (⟨rfl,hJ3,hk3⟩|⟨rfl,hJx3⟩)
   ·gi_wp2
    go_roundw
    case rel=>exact ⟨k-1,z-1,pre ++ [(z,x1,x2,x3)],by omega,by go_num,by have:=HZ.out;omega,by simp [HP.out,HD.out],hJ3,hnx.trans hk3.below,hk3.boxed HBX.out⟩
    case measure=>simp [intOf];omega
   ·gi_wp2
    refine bodyPost_ret (results_none rfl _ _ _) rfl ?_
    exact ⟨⟨_,rfl⟩,.inr ⟨_,hJx3⟩⟩
  ·obtain rfl:k=0:=by omega
   have f1:¬ (0:Int)≤z:=by omega
   have f4:decide ((0:Int)≤z)=false:=decide_eq_false f1
   have HP:=kI hpre
   clear hz hpre
   gi_wp2
   go_end0
   exact ⟨⟨_,rfl⟩,.inl ⟨pre,by simpa using HP.out,hJs⟩⟩
theorem back_seqG (n:Nat) (hn:1≤n) (Bs B:Nat) (t:TypeId) (A:Option Addr) (c:Nat) (L:List Tr) (hL:L.length≤1000000) (w:World) (hBw:B≤w.heap.size) (hBs:Boxed w Bs 26 (.slice A L.length c)) (hR:RdX B w (.slice A L.length c) L):
  SeqG n Tryz.prog 102 #[.pointer (some ⟨Bs,0,none⟩)] t (fun x:Int×Tr=>#[Value.int .i64 x.1,trV x.2]) (KpB B Bs) (fun ys=>ys.map (·.2)=L.reverse) (fun _=>True) (NextB L) w:=fun l J Jx W hW _ _ hY h0=>by
 have hbs:Boxed W Bs 26 (.slice A L.length c):=(hW.block Bs hBs.lt).trans hBs
 refine (back1G n hn l Bs B A c L hL J Jx hY W hbs (hR.below (hW.mono hBw)) h0).mono ?_
 rintro e W' ⟨he,⟨ys,hy,hj⟩|⟨pre,hj⟩⟩
 ·exact ⟨he,.inl ⟨ys,hy,hj⟩⟩
 ·exact ⟨he,.inr ⟨pre,trivial,hj⟩⟩
namespace Fo
def arrF:Fo→Int×Int×Fo
 | nil=>(0,0,nil)
 | cons k n v ps r=>if r.len=0 then (k,n,ps) else (4,0,cons k n v ps (cons r.arrF.1 r.arrF.2.1 (none,0,0) r.arrF.2.2 nil))
theorem len_drop (f:Fo) (j:Nat):(f.drop j).len=f.len-j:=by
 induction f generalizing j with
 | nil=>cases j<;>simp [drop,len]
 | cons k n v ps r _ ih=>
  cases j with
  | zero=>simp [drop]
  | succ j=>simp [drop,len,ih]
theorem top_get (f:Fo) (j:Nat) (hj:j<f.top.length):f.top[j]=((f.at_ j).1,(f.at_ j).2.1,(f.at_ j).2.2.1):=by
 induction f generalizing j with
 | nil=>simp [top] at hj
 | cons k n v ps r _ ih=>
  cases j with
  | zero=>rfl
  | succ j=>simpa [top,at_] using ih j (by simpa [top] using hj)
end Fo
theorem FreshT.two {T:TypeId}{B:Nat}{w:World}{psx psy:Fo}{kx nx ky ny:Int}{ux uy vx vy:Sl}(hx:FreshT T B w idn psx ux) (hy:FreshT T B w idn psy uy) (c:Nat) (hB:B≤c) (hc:w.heap[c]? = some (Obj.cells #[.int .i64 kx,.int .i64 nx,slv ux,.int .i64 ky,.int .i64 ny,slv uy] T)):
  FreshT T B w idn (.cons kx nx vx psx (.cons ky ny vy psy .nil)) (some ⟨c,0,none⟩,2,2):=by
 intro W hs hk
 obtain ⟨gx,ix,tx⟩:=hx W hs hk
 obtain ⟨gy,iy,ty⟩:=hy W hs hk
 have hcW:=hk c _ hB hc
 have cell:=fun j=>cell_of_row W c j _ _ (0,0) hcW
 refine ⟨.cons kx nx ux gx (.cons ky ny uy gy .nil),⟨rfl,(nm_id _ _).symm,ix,rfl,(nm_id _ _).symm,iy,trivial⟩,tyV_cons.2 ⟨c,0,2,rfl,Nat.le_refl _,by unfold maxLen;omega,(gL hcW).1,tyC_cons.2 ⟨cell 0,cell 1,cell 2,tx,tyC_cons.2 ⟨cell 3,cell 4,cell 5,ty,tyC_nil⟩⟩⟩⟩
end Go.Proofs.YtgjlmjlfghodmaaGreatDoor
namespace Go.Proofs.YtgjlmjlfghodmaaGreatDoor
open Go.RowKit Go.Shelf
attribute [local go_sem] Oper.semAt_some
theorem set3 {T:TypeId}{w:World}(g:Nat) (x y z k n u:Value) (hg:w.heap[g]? = some (Obj.cells #[x,y,z] T)):
  w.cell? ⟨g,0,none⟩=some x∧w.cell? ⟨g,1,none⟩=some y∧w.cell? ⟨g,2,none⟩=some z∧w.frozen? ⟨g,0,none⟩=false∧w.frozen? ⟨g,1,none⟩=false∧w.frozen? ⟨g,2,none⟩=false∧
  ∃w',((w.setCell ⟨g,0,none⟩ k).setCell ⟨g,1,none⟩ n).setCell ⟨g,2,none⟩ u=w'∧w'.heap[g]? = some (Obj.cells #[k,n,u] T)∧w'.heap.size=w.heap.size∧(∀b,b≠g→w'.heap[b]? = w.heap[b]?)∧Below g w w':=by
 refine ⟨cell_of_row w g 0 _ _ (0,0) hg,cell_of_row w g 1 _ _ (0,0) hg,cell_of_row w g 2 _ _ (0,0) hg,frozen_cells hg 0,frozen_cells hg 1,frozen_cells hg 2,_,rfl,?_,by simp [World.setCell],fun b hne=>?_,?_⟩
 ·exact heap_setCell_same _ g 2 _ T u (heap_setCell_same _ g 1 _ T n (heap_setCell_same w g 0 _ T k hg))
 ·rw [Below.heap_setCell _ _ _ _ (by simpa using hne),Below.heap_setCell _ _ _ _ (by simpa using hne),Below.heap_setCell _ _ _ _ (by simpa using hne)]
 ·exact (((Below.refl g w).setCell (p:=⟨g,0,none⟩) (Nat.le_refl g) _).setCell (p:=⟨g,1,none⟩) (Nat.le_refl g) _).setCell (p:=⟨g,2,none⟩) (Nat.le_refl g) _
def ArInv (w:World) (vl:Value) (f:Fo) (j:Nat) (W:World):Prop:=
 (∃u:Sl,W.heap[w.heap.size+2]? = some (Obj.cells #[.int .i64 (f.drop (f.len-j)).arrF.1,.int .i64 (f.drop (f.len-j)).arrF.2.1,slv u] 28)∧FreshT 28 (w.heap.size+3) W idn (f.drop (f.len-j)).arrF.2.2 u)∧
  Boxed W w.heap.size 26 vl∧W.heap[w.heap.size+1]? = some (Obj.cells rt0 28)∧Below w.heap.size w W
theorem ArInv.kept {w:World}{vl:Value}{f:Fo}{j:Nat}{W W':World}(h:ArInv w vl f j W) (hs:W.heap.size≤W'.heap.size) (hk:∀(b:Nat) (cs:Array Value) (t:TypeId),t≠171→W.heap[b]? = some (Obj.cells cs t)→W'.heap[b]? = some (Obj.cells cs t)) (hb:Below w.heap.size w W'):ArInv w vl f j W':=by
 obtain ⟨⟨u,hu,hf⟩,hx,hr,_⟩:=h
 exact ⟨⟨u,hk _ _ _ (by decide) hu,hf.to hs fun b cs _ hc=>hk _ _ _ (by decide) hc⟩,hk _ _ _ (by decide) hx,hk _ _ _ (by decide) hr,hb⟩
theorem ArInv.own {w:World}{vl:Value}{f:Fo}(B:Nat) (hB:w.heap.size≤B):OwnFrom B (fun (pre:List (Int×Tr)) W=>ArInv w vl f pre.length W):=by
 intro s W W' row hs hg hr
 have hb:Below w.heap.size w W':=⟨hg.os.trans hs.2.2.2.os,hg.tape.trans hs.2.2.2.tape,hg.output.trans hs.2.2.2.output,Nat.le_trans hs.2.2.2.size hg.size,fun k hk=>(hg.block k (Nat.lt_of_lt_of_le hk hs.2.2.2.size) (fun e=>by have:=(hr k e.symm).1;omega)).trans (hs.2.2.2.block k hk)⟩
 refine hs.kept hg.size (fun b cs t _ hc=>(hg.block b (gL hc).1 fun e=>?_).trans hc) hb
 obtain ⟨o,ho,hoc⟩:=(hr b e.symm).2
 rw [hc] at ho
 cases ho
 cases hoc
theorem ArInv.ab {w:World}{vl:Value}{f:Fo}(B:Nat) (hB:w.heap.size≤B):AbC B 171 (fun (pre:List (Int×Tr)) W=>ArInv w vl f pre.length W):=by
 intro s W W' hs hc
 have hb:Below w.heap.size w W':=hs.2.2.2.trans (hc.below hB hs.2.2.2.size)
 obtain ⟨row,hg,hr⟩:=hc
 refine hs.kept hg.size (fun b cs t hne hcc=>(hg.block b (gL hcc).1 fun e=>?_).trans hcc) hb
 obtain ⟨_,cs',hc'⟩:=hr b e.symm
 rw [hcc] at hc'
 cases hc'
 exact hne rfl
theorem ar_fin {w:World}{vl:Value}{f:Fo}{pre:List (Int×Tr)}{x:Int×Tr}{W W3 W4:World}{k n:Int}{u:Sl}{o:Array Value}(hi:ArInv w vl f pre.length W) (h3:Below W.heap.size W W3) (h4:W4.heap[w.heap.size+2]? = some (Obj.cells #[.int .i64 k,.int .i64 n,slv u] 28)) (hs:W4.heap.size=W3.heap.size) (hfar:∀b,b≠w.heap.size+2→W4.heap[b]? = W3.heap[b]?) (hb4:Below (w.heap.size+2) W3 W4)
  (hk:k=(f.drop (f.len-(pre.length+1))).arrF.1) (hn:n=(f.drop (f.len-(pre.length+1))).arrF.2.1) (hf:FreshT 28 (w.heap.size+3) W3 idn (f.drop (f.len-(pre.length+1))).arrF.2.2 u)
  (_hW0:W.heap[w.heap.size+3]? = some (Obj.cells o 26)) (B0:Nat) (hB0:w.heap.size+4≤B0) (hBW:B0≤W.heap.size):
  KeepsFrom B0 W W4∧KpB w.heap.size (w.heap.size+3) W W4∧ArInv w vl f (pre ++ [x]).length W4:=by
 have hz:=h3.size
 have all:∀b,b<W.heap.size→b≠w.heap.size+2→W4.heap[b]? = W.heap[b]?:=fun b hb hne=>(hfar b hne).trans (h3.block b hb)
 have hbl:Below w.heap.size w W4:=(hi.2.2.2.trans (h3.mono (by omega))).trans (hb4.mono (by omega))
 refine ⟨⟨by omega,fun b o' hb ho _=>(all b (gL ho).1 (by omega)).trans ho⟩,⟨(h3.mono (by omega)).trans (hb4.mono (by omega)),fun o' ho _=>(all _ (gL ho).1 (by omega)).trans ho⟩,?_⟩
 rw [List.length_append,List.length_singleton]
 refine ⟨⟨u,by rw [←hk,←hn];exact h4,hf.to (by omega) fun b cs hb hc=>(hfar b (by omega)).trans hc⟩,(all _ (by omega) (by omega)).trans hi.2.1,(all _ (by omega) (by omega)).trans hi.2.2.1,hbl⟩
end Go.Proofs.YtgjlmjlfghodmaaGreatDoor
