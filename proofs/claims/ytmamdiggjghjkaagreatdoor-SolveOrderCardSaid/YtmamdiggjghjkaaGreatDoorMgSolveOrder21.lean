/- Texts of one proof, one behind the other. -/
import Derived.Test.YtmamdiggjghjkaaGreatDoorMgSolveOrder1
import Derived.Test.YtmamdiggjghjkaaGreatDoorMgSolveOrder17
import Derived.Test.YtmamdiggjghjkaaGreatDoorMgSolveOrder6
import Derived.Test.YtmamdiggjghjkaaGreatDoorMgSolveOrder11
import Derived.Test.YtmamdiggjghjkaaGreatDoorMgSolveOrder5
import Derived.Test.YtmamdiggjghjkaaGreatDoorMgSolveOrder3
import Derived.Test.YtmamdiggjghjkaaGreatDoorMgSolveOrder7
set_option linter.unusedVariables false
namespace Go.Proofs.YtmamdiggjghjkaaGreatDoor
section
open Go.RowKit Go.Shelf
attribute [local go_sem ↓] builtin_app
set_option maxRecDepth 100000
theorem Vok.at {F:Fo}(h:Vok F) (j:Nat) (hj:j<F.len):((F.at_ j).1=1→(F.at_ j).2.2.2 = .nil)∧Vok (F.at_ j).2.2.2:=by
 induction F generalizing j with
 | nil=>simp [Fo.len] at hj
 | cons k n u ps r _ ih=>
  cases j with
  | zero=>exact ⟨h.1,h.2.1⟩
  | succ j=>exact ih h.2.2 j (by simp only [Fo.len] at hj;omega)
set_option maxHeartbeats 8000000 in
theorem raddw_any (BT m:Nat):∀(D:Nat→Prop) (F:Fo) (k n:Int) (u:Sl) (w:World) (M:List Rm) (vm:Value),F.size<m→M.length+F.size≤100000→BT≤w.heap.size→TyV BT w F (slv u)→(k=1→F = .nil)→Vok F→(∀b,w.heap.size≤b→D b)→RgM D BT w vm M→
  Calls Tryz.prog 65 #[vm,tyVal k n (slv u)] w (AddsTo D BT w M k n u F):=by
 induction m with
 | zero=>intro D F k n u w M vm h;omega
 | succ m ih=>
  intro D F k n u w M vm hm hs hT h hk1 hvk hD hR
  obtain ⟨A,u2,c⟩:=u
  obtain rfl:u2=F.len:=TyV.len (u:=(A,u2,c)) h
  obtain ⟨A0,c00,rfl⟩:=hR.row.1.form
  obtain ⟨W0,hW0⟩:∃W0,w.alloc (.cells #[.int .i64 k,.int .i64 n,.slice A F.len c] 25)=W0:=⟨_,rfl⟩
  have hb0:Below w.heap.size w W0:=by rw [←hW0];exact (Below.refl _ _).alloc (Nat.le_refl _) _
  have hx0:W0.heap[w.heap.size]? = some (Obj.cells #[.int .i64 k,.int .i64 n,.slice A F.len c] 25):=by rw [←hW0];exact heap_alloc_new w _
  have hl0:w.heap.size<W0.heap.size:=(gL hx0).1
  have x0:W0.cell? ⟨w.heap.size,0,none⟩=some (.int .i64 k):=cell_of_row W0 _ 0 _ _ (0,0) hx0
  have x1:W0.cell? ⟨w.heap.size,1,none⟩=some (.int .i64 n):=cell_of_row W0 _ 1 _ _ (0,0) hx0
  have x2:W0.cell? ⟨w.heap.size,2,none⟩=some (.slice A F.len c):=cell_of_row W0 _ 2 _ _ (0,0) hx0
  have H:=kI h
  have IH:=kI ih
  have HR:=kI hR
  have HT:=kI hT
  have HV:=kI hvk
  have HK:=kI hk1
  have HD:=kI hD
  have HSZ:=kI hs
  have HM:=kI hm
  have hll:=F.len_le_size
  have hlen:F.len≤100000:=by omega
  have hml6:M.length≤1000000:=by omega
  clear h ih hR hT hvk hk1 hD hx0 hll
  unfold tyVal
  dsimp only [slv]
  go_enter Tryz.func65,Tryz.ntmps65
  by_cases h1:k=1
  ·subst h1
   have hvar:=rvar_graph W0 _ M (HR.out.row.1.below hb0) hml6 n
   have HVR:=kI hvar
   have HB0:=kI hb0
   clear hvar hb0
   go_wp2_with fail
   refine HVR.out.mono ?_
   rintro e wx ⟨rfl,hbx⟩
   have y0:wx.cell? ⟨w.heap.size,0,none⟩=some (.int .i64 1):=(hbx.cell (p:=⟨w.heap.size,0,none⟩) hl0).trans x0
   have y1:wx.cell? ⟨w.heap.size,1,none⟩=some (.int .i64 n):=(hbx.cell (p:=⟨w.heap.size,1,none⟩) hl0).trans x1
   have y2:wx.cell? ⟨w.heap.size,2,none⟩=some (.slice A F.len c):=(hbx.cell (p:=⟨w.heap.size,2,none⟩) hl0).trans x2
   have hl1:w.heap.size<wx.heap.size:=Nat.lt_of_lt_of_le hl0 hbx.size
   have HBX:=kI (HB0.out.trans (hbx.mono (Nat.le_of_lt hl0)))
   obtain ⟨z,hz⟩:∃z,ivar (gM M) n=z:=⟨_,rfl⟩
   rw [hz]
   have HZ:=kI hz
   clear x0 x1 x2 hbx hz
   by_cases hz0:0≤z
   ·have f1:decide (0≤z)=true:=decide_eq_true hz0
    go_wp2_with fail
    have hz:=HZ.out
    subst hz
    obtain ⟨i,hi,hi2⟩:=ivar_nonneg hz0
    have hF:F = .nil:=by first|exact HK.out rfl|exact HK.out trivial
    refine bodyPost_ret (results_tmp2 rfl _ _ _) rfl ⟨_,M,?_,?_,HR.out.below HT.out HBX.out,HBX.out⟩
    ·rw [hi2,radd1_eq,hF,radd_nil,rnode,if_pos rfl,←gM_eq,hi]
     rfl
    ·rw [radd1_eq,hF,radd_nil,rnode,if_pos rfl,←gM_eq,hi]
   ·have f1:decide (0≤z)=false:=decide_eq_false hz0
    have x0:=y0
    have x1:=y1
    have x2:=y2
    have hl0:=hl1
    clear y0 y1 y2 hl1
    have HGN:=kI (show (1:Int)=1→gvar (gM M) n=none from fun _=>ivar_neg (by rw [HZ.out];omega))
    have hN0:=RaI.start (k:=1) (n:=n) (u:=(A,F.len,c)) (F:=F) (HR.out.below HT.out HBX.out) (Nat.le_trans HT.out HBX.out.size)
    dsimp only [slv] at hN0
    obtain ⟨w1,hw1⟩:∃w1,wx.alloc (.cells #[.int .i64 1,.int .i64 n,.slice A F.len c,.slice none 0 0] 108)=w1:=⟨_,rfl⟩
    rw [hw1] at hN0
    have HI:=kI hN0
    have hbz:=HBX.out.size
    have HW1:=kI hw1
    clear hN0 hw1
    go_wp2_with fail
    rw [HW1.out]
    go_loopw [0,8] (fun t0 t8 wr=>∃j:Nat,j≤F.len∧t8 = .int .i64 j∧RaI D BT wx M 1 n (A,F.len,c) F j t0 wr) (fun _ t _=>F.len-(intOf t).toNat)
    case atStart=>exact ⟨0,Nat.zero_le _,rfl,HI.out⟩
    case round=>
     obtain ⟨j,hj,rfl,Mj,vq,hMj,hM1,hbox,hq,hb,hsz⟩:=hrel
     have hbb:=HBX.out.trans (hb.mono hbz)
     have e0:wr.cell? ⟨w.heap.size,0,none⟩=some (.int .i64 1):=(hb.cell (p:=⟨w.heap.size,0,none⟩) (by simp only;omega)).trans x0
     have e1:wr.cell? ⟨w.heap.size,1,none⟩=some (.int .i64 n):=(hb.cell (p:=⟨w.heap.size,1,none⟩) (by simp only;omega)).trans x1
     have e2:wr.cell? ⟨w.heap.size,2,none⟩=some (.slice A F.len c):=(hb.cell (p:=⟨w.heap.size,2,none⟩) (by simp only;omega)).trans x2
     by_cases hjl:j<F.len
     ·obtain ⟨b,off,cap,hv,_,_,hlt,hC⟩:=H.out.form (by omega)
      injection hv with hA _ hcc
      subst hA;subst hcc
      obtain ⟨d0,d1,d2,hch⟩:=tyC_at hC j hjl
      have hltw:b<w.heap.size:=Nat.lt_of_lt_of_le hlt HT.out
      have c0:=(hbb.cell (p:=⟨b,off+j*3,none⟩) hltw).trans d0
      have c1:=(hbb.cell (p:=⟨b,off+j*3+1,none⟩) hltw).trans d1
      have c2:=(hbb.cell (p:=⟨b,off+j*3+2,none⟩) hltw).trans d2
      have hch':TyV BT wr (F.at_ j).2.2.2 (slv (F.at_ j).2.2.1):=hch.below (hbb.mono HT.out)
      have hat:=F.at_size j hjl
      have hst:=F.size_take_step j hjl
      have hle:=F.size_take_le (j+1)
      have hrl:=(radd_len (F.take j) (M1 M)).1
      have hml:Mj.length=(M1 Mj).length:=by simp [M1]
      rw [←hM1,←hml] at hrl
      simp only [M1,List.length_map] at hrl
      obtain ⟨hvk,hvp⟩:=HV.out.at j hjl
      obtain ⟨A0',c0',rfl⟩:=hMj.row.1.form
      have hrec:=IH.out (fun b=>D b∧b≠wx.heap.size∧vq.ownBlock≠some b) (F.at_ j).2.2.2 (F.at_ j).1 (F.at_ j).2.1 (F.at_ j).2.2.1 wr Mj (.slice A0' Mj.length c0') (by omega) (by omega) (Nat.le_trans HT.out (Nat.le_trans HBX.out.size hb.size)) hch' hvk hvp (fun b hb2=>⟨HD.out b (by have:=hb.size;omega),by have:=hb.size;omega,fun e=>by have:=(hq.lt b e).2;omega⟩) hMj
      have hstep:=fun (M5:List Rm) (v5:Value) (w5:World) h1 h2 h3 i h4=>RaI.step (D:=D) (BT:=BT) (wx:=wx) (M:=M) (k:=1) (n:=n) (u:=(some ⟨b,off,none⟩,F.len,c)) (F:=F) (j:=j) hjl HSZ.out (Nat.le_trans HT.out HBX.out.size) (Mj:=Mj) (M5:=M5) (vq:=vq) (v5:=v5) (wr:=wr) (w5:=w5) h1 hM1 hbox hq hb hsz h2 h3 i h4
      have HST:=kI hstep
      have HBW:=kI (aI hb hsz)
      clear d0 d1 d2 hC hch hstep hbb hst hle hrl hml hat hvk hvp
      unfold tyVal at hrec
      generalize F.at_ j=p at *
      obtain ⟨pk,pn,⟨p1,p2,p3⟩,pf⟩:=p
      dsimp only [slv] at c0 c1 c2 hrec
      have HREC:=kI hrec
      have HMJ:=kI hMj
      obtain ⟨Aq,cq,rfl,-,-⟩:=own_form hq
      obtain ⟨lq,hlq⟩:∃lq,(radd (M1 M) (F.take j)).2.length=lq:=⟨_,rfl⟩
      have HLQ:=kI hlq
      rw [hlq] at HST HREC
      have HQ:=kI hq
      clear hrec hch' hMj hM1 hbox hq hb hlq
      go_wp2_with fail
      refine HREC.out.mono ?_
      rintro e w5 ⟨v5,M5,rfl,hM5,hR5,hb5⟩
      obtain ⟨i,hi⟩:∃i:Nat,(radd1 (M1 Mj) pk pn (p1,p2,p3) pf).2=i:=⟨_,rfl⟩
      obtain ⟨A6,n6,c6,w6,run6,z5,z6,zf,hfin⟩:=HST.out M5 v5 w5 hR5 hM5 hb5 i hi.symm
      rw [hi]
      have HFIN:=kI hfin
      obtain ⟨A5,c5,rfl⟩:=hR5.row.1.form
      clear hM5 hR5 hb5 hi hfin
      go_wp2_with fail
      go_roundw
      case rel=>exact ⟨j+1,by omega,by go_num,HFIN.out⟩
      case measure=>simp [intOf];omega
     ·obtain rfl:j=F.len:=by omega
      rw [Fo.take_len] at hM1 hq
      obtain ⟨R,P,hRP⟩:∃R P,radd (M1 M) F=(R,P):=⟨_,_,rfl⟩
      rw [hRP] at hM1 hq
      dsimp only at hM1 hq
      have hrl:=radd_len F (M1 M)
      rw [hRP] at hrl
      dsimp only at hrl
      have hml:Mj.length=R.length:=by rw [←hM1];simp [M1]
      have hmm:(M1 M).length=M.length:=by simp [M1]
      obtain ⟨A0',c0',rfl⟩:=hMj.row.1.form
      obtain ⟨Aq,cq,rfl,-,-⟩:=own_form hq
      have b0:wr.cell? ⟨wx.heap.size,0,none⟩=some (.int .i64 1):=cell_of_row wr _ 0 _ _ (0,0) hbox
      have b1:wr.cell? ⟨wx.heap.size,1,none⟩=some (.int .i64 n):=cell_of_row wr _ 1 _ _ (0,0) hbox
      have b2:wr.cell? ⟨wx.heap.size,2,none⟩=some (.slice A F.len c):=cell_of_row wr _ 2 _ _ (0,0) hbox
      have b3:wr.cell? ⟨wx.heap.size,3,none⟩=some (.slice Aq P.length cq):=cell_of_row wr _ 3 _ _ (0,0) hbox
      obtain ⟨lm,hlm⟩:∃lm,Mj.length=lm:=⟨_,rfl⟩
      obtain ⟨lp,hlp⟩:∃lp,P.length=lp:=⟨_,rfl⟩
      have ex:∀W,LS wr W→W.cell? ⟨wx.heap.size,0,none⟩=some (.int .i64 1)∧W.cell? ⟨wx.heap.size,1,none⟩=some (.int .i64 n)∧W.cell? ⟨wx.heap.size,2,none⟩=some (.slice A F.len c)∧W.cell? ⟨wx.heap.size,3,none⟩=some (.slice Aq lp cq):=fun W hW=>
       ⟨(Below.cell hW (p:=⟨wx.heap.size,0,none⟩) (by simp only;omega)).trans b0,(Below.cell hW (p:=⟨wx.heap.size,1,none⟩) (by simp only;omega)).trans b1,(Below.cell hW (p:=⟨wx.heap.size,2,none⟩) (by simp only;omega)).trans b2,(Below.cell hW (p:=⟨wx.heap.size,3,none⟩) (by simp only;omega)).trans (by rw [←hlp];exact b3)⟩
      have hrd:Rd wr 4 (.slice A0' lm c0') lm (Mj.flatMap rmC):=by rw [←hlm];exact hMj.row.1
      have EX:=kI ex
      have HRD:=kI hrd
      have HLM:=kI (aI hlm hlp)
      have HLS:=kI (show LS wr wr from Below.refl _ _)
      have hlm9:lm+1≤1000000:=by have:=hrl.1;have:=hmm;have:=hml;omega
      have HFIN:=kI (aI hMj (aI hM1 (aI hq (aI hb hRP))))
      rw [hlm]
      clear ex hrd hMj hM1 hbox hq hb hRP hrl hml hlm hlp b0 b1 b2 b3 hmm
      go_wp2_with fail
      refine wp_region_held (S:=LS wr) (by kernel_rfl) ?_
      change wpAnyH _ _ _ _ _ 10 (List.replicate 10 false).toArray _ wr.drew
      have HLD:=kI (show LS wr wr.drew from (Below.refl _ _).drew)
      simp only [List.replicate_succ,List.replicate_zero]
      refine tj (i:=1) (some 49) (.slice A0' lm c0') rfl HLD.out ?_
      simp only [Act.put,zA,zB,zC]
      refine tk (i:=3) (some 51) (.agg #[.int .i64 1,.int .i64 n,.slice A F.len c,.slice Aq lp cq]) rfl (fun w hw=>by obtain ⟨n0,n1,n2,n3⟩:=EX.out w hw;clear hw;go_simp) HLD.out ?_
      simp only [Act.put,zA,zB,zC]
      refine tj (i:=6) (some 54) (.slice A0' lm c0') rfl HLD.out ?_
      simp only [Act.put,zA,zB,zC]
      refine tj (i:=7) (some 55) (.int .i64 lm) rfl HLD.out ?_
      simp only [Act.put,zA,zB,zC]
      obtain ⟨ti,hti,hz0,hz1,hz2⟩:=info_parts nodeInfo
      refine any_copy (i0:=0) (i1:=2) (i2:=4) (i3:=5) (d0:=48) (d1:=50) (d2:=52) (d3:=53) (ts:=49) (t:=64) (e:=108) (size:=4) rfl rfl rfl rfl rfl rfl rfl rfl rfl rfl rfl rfl (by decide) (by decide) (by simp) (by kernel_rfl) (by kernel_rfl) (by kernel_rfl) (by kernel_rfl) (by kernel_rfl) (by kernel_rfl)
       Tryz.underlying64 hti hz0 hz1 hz2 rfl (by omega) (fun ev w=>by go_simp) [.int .i64 1,.int .i64 n,.slice A F.len c,.slice Aq lp cq] rfl (by intro u hu;simp only [List.mem_cons,List.not_mem_nil,or_false] at hu;rcases hu with rfl|rfl|rfl|rfl<;>rfl)
       (fun a' ha w=>by have h:a'.eval (.tmp 51) = .agg #[.int .i64 1,.int .i64 n,.slice A F.len c,.slice Aq lp cq]:=(ha 51 (by decide) (by decide)).trans (by rfl);simp only [Act.eval,Array.getD_eq_getD_getElem?] at h;go_simp) (by rfl) (by rfl) (by rfl) (by rfl) (by rfl) (HRD.out.drew) (rmC_one _) (by unfold maxLen;omega) (by omega) HLD.out ?_
      intro v0 v1 v2 v3 w' hLS hBw hown
      have HE:=kI (aI hLS hown)
      have hLS2:=hLS
      clear hLS hBw hown
      simp only [Act.put,zA,zB,zC]
      refine tj (i:=8) (some 4) v3 rfl hLS2 ?_
      simp only [Act.put,zA,zB,zC]
      refine tj (i:=9) (some 5) (.int .i64 lm) rfl hLS2 ?_
      simp only [Act.put,zA,zB,zC]
      refine wpAnyH_done (by kernel_rfl) ?_ _
      go_wp2_with fail
      obtain ⟨hMj,hM1,hq,hb,hRP⟩:=HFIN.out
      obtain ⟨hLS3,hown⟩:=HE.out
      have hst:radd1 (M1 M) 1 n (A,F.len,c) F=(R ++ [(1,n,(A,F.len,c),F,P)],R.length):=by
       rw [radd1_eq,hRP]
       refine rnode_else R 1 n _ F P fun e=>?_
       have h1:F = .nil:=by first|exact HK.out e|exact HK.out trivial
       rw [h1,radd_nil] at hRP
       injection hRP with h2 h3
       rw [←h2,←gM_eq]
       first|exact HGN.out e|exact HGN.out trivial
      have hlR:lm=R.length:=by rw [←HLM.out.1,←hM1];simp [M1]
      have hbW:Below wr.heap.size wr w':=hLS3
      refine bodyPost_ret (results_tmp2 rfl _ _ _) rfl ?_
      refine ⟨v3,Mj ++ [((1,n,(A,F.len,c),F,P),(Aq,P.length,cq))],?_,?_,?_,HBX.out.trans ((hb.trans (hbW.mono hb.size)).mono HBX.out.size)⟩
      ·rw [hst,←hlR];rfl
      ·rw [hst];simp [M1,←hM1]
      ·have hTw:=Nat.le_trans HT.out (Nat.le_trans HBX.out.size hb.size)
       refine ((hMj.below hTw hbW).imp fun b _ h=>h.1).snoc ⟨H.out.below ((HBX.out.trans ((hb.trans (hbW.mono hb.size)).mono HBX.out.size)).mono HT.out),RdD.of_own (own_below hq hbW) fun b hb2=>HD.out b (by have:=HBX.out.size;omega)⟩ ?_
       have hd:=RdD.of_own (D:=D) hown fun b hb2=>HD.out b (Nat.le_trans (Nat.le_trans HBX.out.size hb.size) hb2)
       rw [HLM.out.1]
       rw [←HLM.out.2] at hd
       exact hd
  ·have hk0:(k == 1)=false:=by simpa using h1
   obtain ⟨wx,hwx⟩:∃wx,wx=W0:=⟨_,rfl⟩
   subst hwx
   have HBX:=kI hb0
   have HGN:=kI (show k=1→gvar (gM M) n=none from fun e=>absurd e h1)
   clear hb0
   have hN0:=RaI.start (k:=k) (n:=n) (u:=(A,F.len,c)) (F:=F) (HR.out.below HT.out HBX.out) (Nat.le_trans HT.out HBX.out.size)
   dsimp only [slv] at hN0
   obtain ⟨w1,hw1⟩:∃w1,wx.alloc (.cells #[.int .i64 k,.int .i64 n,.slice A F.len c,.slice none 0 0] 108)=w1:=⟨_,rfl⟩
   rw [hw1] at hN0
   have HI:=kI hN0
   have hbz:=HBX.out.size
   have HW1:=kI hw1
   clear hN0 hw1
   go_wp2_with fail
   rw [HW1.out]
   go_loopw [0,8] (fun t0 t8 wr=>∃j:Nat,j≤F.len∧t8 = .int .i64 j∧RaI D BT wx M k n (A,F.len,c) F j t0 wr) (fun _ t _=>F.len-(intOf t).toNat)
   case atStart=>exact ⟨0,Nat.zero_le _,rfl,HI.out⟩
   case round=>
    obtain ⟨j,hj,rfl,Mj,vq,hMj,hM1,hbox,hq,hb,hsz⟩:=hrel
    have hbb:=HBX.out.trans (hb.mono hbz)
    have e0:wr.cell? ⟨w.heap.size,0,none⟩=some (.int .i64 k):=(hb.cell (p:=⟨w.heap.size,0,none⟩) (by simp only;omega)).trans x0
    have e1:wr.cell? ⟨w.heap.size,1,none⟩=some (.int .i64 n):=(hb.cell (p:=⟨w.heap.size,1,none⟩) (by simp only;omega)).trans x1
    have e2:wr.cell? ⟨w.heap.size,2,none⟩=some (.slice A F.len c):=(hb.cell (p:=⟨w.heap.size,2,none⟩) (by simp only;omega)).trans x2
    by_cases hjl:j<F.len
    ·obtain ⟨b,off,cap,hv,_,_,hlt,hC⟩:=H.out.form (by omega)
     injection hv with hA _ hcc
     subst hA;subst hcc
     obtain ⟨d0,d1,d2,hch⟩:=tyC_at hC j hjl
     have hltw:b<w.heap.size:=Nat.lt_of_lt_of_le hlt HT.out
     have c0:=(hbb.cell (p:=⟨b,off+j*3,none⟩) hltw).trans d0
     have c1:=(hbb.cell (p:=⟨b,off+j*3+1,none⟩) hltw).trans d1
     have c2:=(hbb.cell (p:=⟨b,off+j*3+2,none⟩) hltw).trans d2
     have hch':TyV BT wr (F.at_ j).2.2.2 (slv (F.at_ j).2.2.1):=hch.below (hbb.mono HT.out)
     have hat:=F.at_size j hjl
     have hst:=F.size_take_step j hjl
     have hle:=F.size_take_le (j+1)
     have hrl:=(radd_len (F.take j) (M1 M)).1
     have hml:Mj.length=(M1 Mj).length:=by simp [M1]
     rw [←hM1,←hml] at hrl
     simp only [M1,List.length_map] at hrl
     obtain ⟨hvk,hvp⟩:=HV.out.at j hjl
     obtain ⟨A0',c0',rfl⟩:=hMj.row.1.form
     have hrec:=IH.out (fun b=>D b∧b≠wx.heap.size∧vq.ownBlock≠some b) (F.at_ j).2.2.2 (F.at_ j).1 (F.at_ j).2.1 (F.at_ j).2.2.1 wr Mj (.slice A0' Mj.length c0') (by omega) (by omega) (Nat.le_trans HT.out (Nat.le_trans HBX.out.size hb.size)) hch' hvk hvp (fun b hb2=>⟨HD.out b (by have:=hb.size;omega),by have:=hb.size;omega,fun e=>by have:=(hq.lt b e).2;omega⟩) hMj
     have hstep:=fun (M5:List Rm) (v5:Value) (w5:World) h1 h2 h3 i h4=>RaI.step (D:=D) (BT:=BT) (wx:=wx) (M:=M) (k:=k) (n:=n) (u:=(some ⟨b,off,none⟩,F.len,c)) (F:=F) (j:=j) hjl HSZ.out (Nat.le_trans HT.out HBX.out.size) (Mj:=Mj) (M5:=M5) (vq:=vq) (v5:=v5) (wr:=wr) (w5:=w5) h1 hM1 hbox hq hb hsz h2 h3 i h4
     have HST:=kI hstep
     have HBW:=kI (aI hb hsz)
     clear d0 d1 d2 hC hch hstep hbb hst hle hrl hml hat hvk hvp
     unfold tyVal at hrec
     generalize F.at_ j=p at *
     obtain ⟨pk,pn,⟨p1,p2,p3⟩,pf⟩:=p
     dsimp only [slv] at c0 c1 c2 hrec
     have HREC:=kI hrec
     have HMJ:=kI hMj
     obtain ⟨Aq,cq,rfl,-,-⟩:=own_form hq
     obtain ⟨lq,hlq⟩:∃lq,(radd (M1 M) (F.take j)).2.length=lq:=⟨_,rfl⟩
     have HLQ:=kI hlq
     rw [hlq] at HST HREC
     have HQ:=kI hq
     clear hrec hch' hMj hM1 hbox hq hb hlq
     go_wp2_with fail
     refine HREC.out.mono ?_
     rintro e w5 ⟨v5,M5,rfl,hM5,hR5,hb5⟩
     obtain ⟨i,hi⟩:∃i:Nat,(radd1 (M1 Mj) pk pn (p1,p2,p3) pf).2=i:=⟨_,rfl⟩
     obtain ⟨A6,n6,c6,w6,run6,z5,z6,zf,hfin⟩:=HST.out M5 v5 w5 hR5 hM5 hb5 i hi.symm
     rw [hi]
     have HFIN:=kI hfin
     obtain ⟨A5,c5,rfl⟩:=hR5.row.1.form
     clear hM5 hR5 hb5 hi hfin
     go_wp2_with fail
     go_roundw
     case rel=>exact ⟨j+1,by omega,by go_num,HFIN.out⟩
     case measure=>simp [intOf];omega
    ·obtain rfl:j=F.len:=by omega
     rw [Fo.take_len] at hM1 hq
     obtain ⟨R,P,hRP⟩:∃R P,radd (M1 M) F=(R,P):=⟨_,_,rfl⟩
     rw [hRP] at hM1 hq
     dsimp only at hM1 hq
     have hrl:=radd_len F (M1 M)
     rw [hRP] at hrl
     dsimp only at hrl
     have hml:Mj.length=R.length:=by rw [←hM1];simp [M1]
     have hmm:(M1 M).length=M.length:=by simp [M1]
     obtain ⟨A0',c0',rfl⟩:=hMj.row.1.form
     obtain ⟨Aq,cq,rfl,-,-⟩:=own_form hq
     have b0:wr.cell? ⟨wx.heap.size,0,none⟩=some (.int .i64 k):=cell_of_row wr _ 0 _ _ (0,0) hbox
     have b1:wr.cell? ⟨wx.heap.size,1,none⟩=some (.int .i64 n):=cell_of_row wr _ 1 _ _ (0,0) hbox
     have b2:wr.cell? ⟨wx.heap.size,2,none⟩=some (.slice A F.len c):=cell_of_row wr _ 2 _ _ (0,0) hbox
     have b3:wr.cell? ⟨wx.heap.size,3,none⟩=some (.slice Aq P.length cq):=cell_of_row wr _ 3 _ _ (0,0) hbox
     obtain ⟨lm,hlm⟩:∃lm,Mj.length=lm:=⟨_,rfl⟩
     obtain ⟨lp,hlp⟩:∃lp,P.length=lp:=⟨_,rfl⟩
     have ex:∀W,LS wr W→W.cell? ⟨wx.heap.size,0,none⟩=some (.int .i64 k)∧W.cell? ⟨wx.heap.size,1,none⟩=some (.int .i64 n)∧W.cell? ⟨wx.heap.size,2,none⟩=some (.slice A F.len c)∧W.cell? ⟨wx.heap.size,3,none⟩=some (.slice Aq lp cq):=fun W hW=>
      ⟨(Below.cell hW (p:=⟨wx.heap.size,0,none⟩) (by simp only;omega)).trans b0,(Below.cell hW (p:=⟨wx.heap.size,1,none⟩) (by simp only;omega)).trans b1,(Below.cell hW (p:=⟨wx.heap.size,2,none⟩) (by simp only;omega)).trans b2,(Below.cell hW (p:=⟨wx.heap.size,3,none⟩) (by simp only;omega)).trans (by rw [←hlp];exact b3)⟩
     have hrd:Rd wr 4 (.slice A0' lm c0') lm (Mj.flatMap rmC):=by rw [←hlm];exact hMj.row.1
     have EX:=kI ex
     have HRD:=kI hrd
     have HLM:=kI (aI hlm hlp)
     have HLS:=kI (show LS wr wr from Below.refl _ _)
     have hlm9:lm+1≤1000000:=by have:=hrl.1;have:=hmm;have:=hml;omega
     have HFIN:=kI (aI hMj (aI hM1 (aI hq (aI hb hRP))))
     rw [hlm]
     clear ex hrd hMj hM1 hbox hq hb hRP hrl hml hlm hlp b0 b1 b2 b3 hmm
     go_wp2_with fail
     refine wp_region_held (S:=LS wr) (by kernel_rfl) ?_
     change wpAnyH _ _ _ _ _ 10 (List.replicate 10 false).toArray _ wr.drew
     have HLD:=kI (show LS wr wr.drew from (Below.refl _ _).drew)
     simp only [List.replicate_succ,List.replicate_zero]
     refine tj (i:=1) (some 49) (.slice A0' lm c0') rfl HLD.out ?_
     simp only [Act.put,zA,zB,zC]
     refine tk (i:=3) (some 51) (.agg #[.int .i64 k,.int .i64 n,.slice A F.len c,.slice Aq lp cq]) rfl (fun w hw=>by obtain ⟨n0,n1,n2,n3⟩:=EX.out w hw;clear hw;go_simp) HLD.out ?_
     simp only [Act.put,zA,zB,zC]
     refine tj (i:=6) (some 54) (.slice A0' lm c0') rfl HLD.out ?_
     simp only [Act.put,zA,zB,zC]
     refine tj (i:=7) (some 55) (.int .i64 lm) rfl HLD.out ?_
     simp only [Act.put,zA,zB,zC]
     obtain ⟨ti,hti,hz0,hz1,hz2⟩:=info_parts nodeInfo
     refine any_copy (i0:=0) (i1:=2) (i2:=4) (i3:=5) (d0:=48) (d1:=50) (d2:=52) (d3:=53) (ts:=49) (t:=64) (e:=108) (size:=4) rfl rfl rfl rfl rfl rfl rfl rfl rfl rfl rfl rfl (by decide) (by decide) (by simp) (by kernel_rfl) (by kernel_rfl) (by kernel_rfl) (by kernel_rfl) (by kernel_rfl) (by kernel_rfl)
      Tryz.underlying64 hti hz0 hz1 hz2 rfl (by omega) (fun ev w=>by go_simp) [.int .i64 k,.int .i64 n,.slice A F.len c,.slice Aq lp cq] rfl (by intro u hu;simp only [List.mem_cons,List.not_mem_nil,or_false] at hu;rcases hu with rfl|rfl|rfl|rfl<;>rfl)
      (fun a' ha w=>by have h:a'.eval (.tmp 51) = .agg #[.int .i64 k,.int .i64 n,.slice A F.len c,.slice Aq lp cq]:=(ha 51 (by decide) (by decide)).trans (by rfl);simp only [Act.eval,Array.getD_eq_getD_getElem?] at h;go_simp) (by rfl) (by rfl) (by rfl) (by rfl) (by rfl) (HRD.out.drew) (rmC_one _) (by unfold maxLen;omega) (by omega) HLD.out ?_
     intro v0 v1 v2 v3 w' hLS hBw hown
     have HE:=kI (aI hLS hown)
     have hLS2:=hLS
     clear hLS hBw hown
     simp only [Act.put,zA,zB,zC]
     refine tj (i:=8) (some 4) v3 rfl hLS2 ?_
     simp only [Act.put,zA,zB,zC]
     refine tj (i:=9) (some 5) (.int .i64 lm) rfl hLS2 ?_
     simp only [Act.put,zA,zB,zC]
     refine wpAnyH_done (by kernel_rfl) ?_ _
     go_wp2_with fail
     obtain ⟨hMj,hM1,hq,hb,hRP⟩:=HFIN.out
     obtain ⟨hLS3,hown⟩:=HE.out
     have hst:radd1 (M1 M) k n (A,F.len,c) F=(R ++ [(k,n,(A,F.len,c),F,P)],R.length):=by
      rw [radd1_eq,hRP]
      refine rnode_else R k n _ F P fun e=>?_
      have h1:=HK.out e
      rw [h1,radd_nil] at hRP
      injection hRP with h2 h3
      rw [←h2,←gM_eq]
      exact HGN.out e
     have hlR:lm=R.length:=by rw [←HLM.out.1,←hM1];simp [M1]
     have hbW:Below wr.heap.size wr w':=hLS3
     refine bodyPost_ret (results_tmp2 rfl _ _ _) rfl ?_
     refine ⟨v3,Mj ++ [((k,n,(A,F.len,c),F,P),(Aq,P.length,cq))],?_,?_,?_,HBX.out.trans ((hb.trans (hbW.mono hb.size)).mono HBX.out.size)⟩
     ·rw [hst,←hlR];rfl
     ·rw [hst];simp [M1,←hM1]
     ·have hTw:=Nat.le_trans HT.out (Nat.le_trans HBX.out.size hb.size)
      refine ((hMj.below hTw hbW).imp fun b _ h=>h.1).snoc ⟨H.out.below ((HBX.out.trans ((hb.trans (hbW.mono hb.size)).mono HBX.out.size)).mono HT.out),RdD.of_own (own_below hq hbW) fun b hb2=>HD.out b (by have:=HBX.out.size;omega)⟩ ?_
      have hd:=RdD.of_own (D:=D) hown fun b hb2=>HD.out b (Nat.le_trans (Nat.le_trans HBX.out.size hb.size) hb2)
      rw [HLM.out.1]
      rw [←HLM.out.2] at hd
      exact hd
end
section
open Go.RowKit Go.Shelf
set_option maxRecDepth 100000
end
section
open Go.RowKit Go.Shelf
set_option maxRecDepth 100000
theorem radd1_G (R:List Rn) (k n:Int) (u:Sl) (ps:Fo) (hG:GI (R.map rG)) (hv:Vok (Fo.cons k n u ps .nil)):(radd1 R k n u ps).1.map rG=(gadd1 (R.map rG) k n ps).1∧(radd1 R k n u ps).2=(gadd1 (R.map rG) k n ps).2∧GI ((radd1 R k n u ps).1.map rG):=by
 have h:=radd_G (Fo.cons k n u ps .nil) R hG hv
 have hok:=gadd_ok (Fo.cons k n u ps .nil) (R.map rG) hG hv
 rw [radd_cons,radd_nil,gadd_cons,gadd_nil] at h
 obtain ⟨h1,h2⟩:=h
 dsimp only at h1 h2
 injection h2 with h2 _
 refine ⟨h1,h2,?_⟩
 rw [h1]
 have h3:=hok.ok
 rw [gadd_cons,gadd_nil] at h3
 exact h3
structure BoI (w:World) (BT:Nat) (W:World) (g mb:Nat) (vg vm va:Value) (L:List Nd) (M:List Rm) (R:List Rn) (A:List Nat):Prop where
 graph:GrM w.heap.size W g vg mb L (R.map rG)
 model:RgM (fun b=>b≠g∧b≠mb∧vg.ownBlock≠some b∧va.ownBlock≠some b) BT W vm M
 eqR:M1 M=R
 row:W.ownsRow w.heap.size 3 1 va A.length (nums A)
 apart:NoP va.ownBlock L
 below:Below w.heap.size w W
end
section
def NEq (y:Rn) (q:Int×Int×Sl×Fo):Prop:=y.1=q.1∧y.2.1=q.2.1∧y.2.2.2.1.pure=q.2.2.2.pure
def RI (R:List Rn):Prop:=∀(i:Nat) (x:Rn),R[i]? = some x→x.2.2.2.2.length=x.2.2.2.1.len∧∀j,j<x.2.2.2.1.len→∃(p:Nat) (y:Rn),x.2.2.2.2[j]? = some p∧p<i∧R[p]? = some y∧NEq y (x.2.2.2.1.at_ j)
def NV (R:List Rn):Prop:=∀x∈R,x.1=1→x.2.2.2.1 = .nil
structure RadOk (R:List Rn) (F:Fo):Prop where
 ri:RI (radd R F).1
 nv:NV (radd R F).1
 ext:∃E,(radd R F).1=R++E
 parts:∀j,j<F.len→∃p y,(radd R F).2[j]? = some p∧(radd R F).1[p]? = some y∧NEq y (F.at_ j)
structure BOk (s:List Rn×List Nat):Prop where
 ri:RI s.1
 nv:NV s.1
 gi:GI (s.1.map rG)
end
section
def names (G:List Gn):List Int:=G.filterMap fun x=>if x.1=1 then some x.2.1 else none
theorem names_snoc (G:List Gn) (x:Gn):names (G ++ [x])=names G++(if x.1=1 then [x.2.1] else []):=by
 simp only [names,List.filterMap_append]
 congr 1
 by_cases h:x.1=1<;>simp [h]
theorem gvar_names (G:List Gn) (n:Int):(gvar G n).isSome=true↔n∈names G:=by
 induction G with
 | nil=>simp [gvar,names]
 | cons x G ih=>
  simp only [gvar]
  by_cases h:x.1=1∧x.2.1=n
  ·rw [if_pos h]
   simp [names,h.1,h.2]
  ·rw [if_neg h,Option.isSome_map,ih]
   simp only [names,List.filterMap_cons]
   by_cases h1:x.1=1
   ·simp only [h1,if_true,List.mem_cons]
    constructor
    ·exact .inr
    ·rintro (h2|h2)
     ·exact absurd ⟨h1,h2.symm⟩ h
     ·exact h2
   ·simp only [h1,if_false]
def insL:List Int→Int→List Int
 | [],n=>[n]
 | a :: l,n=>if a<n then a :: insL l n else n :: a :: l
theorem insL_perm (l:List Int) (n:Int):(insL l n).Perm (n :: l):=by
 induction l with
 | nil=>exact List.Perm.refl _
 | cons a l ih=>
  simp only [insL]
  split
  ·exact (ih.cons a).trans (List.Perm.swap n a l)
  ·exact List.Perm.refl _
theorem insL_sorted (l:List Int) (n:Int) (h:l.Pairwise (·≤·)):(insL l n).Pairwise (·≤·):=by
 induction l with
 | nil=>simp [insL]
 | cons a l ih=>
  obtain ⟨h1,h2⟩:=List.pairwise_cons.1 h
  simp only [insL]
  split
  ·rename_i ha
   refine List.pairwise_cons.2 ⟨fun b hb=>?_,ih h2⟩
   rcases List.mem_cons.1 ((insL_perm l n).subset hb) with rfl|hb
   ·omega
   ·exact h1 b hb
  ·rename_i ha
   refine List.pairwise_cons.2 ⟨fun b hb=>?_,h⟩
   rcases List.mem_cons.1 hb with rfl|hb
   ·omega
   ·have:=h1 b hb;omega
def vst (l:List Int) (x:Gn):List Int:=if x.1=1 then insL l x.2.1 else l
def vsort (G:List Gn):List Int:=G.foldl vst []
theorem vfold (G:List Gn):∀l,l.Pairwise (·≤·)→(G.foldl vst l).Pairwise (·≤·)∧(G.foldl vst l).Perm (l++names G):=by
 induction G with
 | nil=>intro l h;exact ⟨h,by simp [names]⟩
 | cons x G ih=>
  intro l h
  simp only [List.foldl_cons]
  by_cases hx:x.1=1
  ·have e:names (x :: G)=x.2.1 :: names G:=by simp [names,hx]
   obtain ⟨h1,h2⟩:=ih (insL l x.2.1) (insL_sorted l _ h)
   have e2:vst l x=insL l x.2.1:=by simp [vst,hx]
   rw [e2,e]
   refine ⟨h1,h2.trans ((((insL_perm l x.2.1).append_right _)).trans ?_)⟩
   exact List.perm_middle.symm
  ·have e:names (x :: G)=names G:=by simp [names,hx]
   have e2:vst l x=l:=by simp [vst,hx]
   rw [e2,e]
   exact ih l h
theorem vsort_eq (G:List Gn) (ss:List Int) (h:ss.Perm (names G)):(ss.mergeSort fun x y=>decide (x≤y))=vsort G:=by
 obtain ⟨h1,h2⟩:=vfold G [] List.Pairwise.nil
 simp only [List.nil_append] at h2
 have tr:∀a b c:Int,decide (a≤b)=true→decide (b≤c)=true→decide (a≤c)=true:=fun a b c p q=>by simp only [decide_eq_true_eq] at *;omega
 have tot:∀a b:Int,(decide (a≤b) || decide (b≤a))=true:=fun a b=>by simp only [Bool.or_eq_true,decide_eq_true_eq];omega
 refine List.Perm.eq_of_pairwise (le:=(·≤·)) (fun a b _ _ h1 h2=>Int.le_antisymm h1 h2) ?_ h1 ((List.mergeSort_perm _ _).trans (h.trans h2.symm))
 exact (List.pairwise_mergeSort (le:=fun x y=>decide (x≤y)) tr tot ss).imp fun {a b} h=>by simpa using h
structure ND (R:List Rn):Prop where
 nd:(names (R.map rG)).Nodup
 wf:∀x∈R,(Lit.int .i64 x.2.1).wf=true
end
section
open Go.RowKit Go.Shelf
end
section
open Go.RowKit Go.Shelf
set_option maxRecDepth 100000
end
end Go.Proofs.YtmamdiggjghjkaaGreatDoor
