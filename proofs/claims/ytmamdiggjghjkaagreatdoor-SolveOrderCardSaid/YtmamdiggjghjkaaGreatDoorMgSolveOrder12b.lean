/- Texts of one proof, one behind the other. -/
import Derived.Test.YtmamdiggjghjkaaGreatDoorMgSolveOrder1
import Derived.Test.YtmamdiggjghjkaaGreatDoorMgSolveOrder12a
import Derived.BigRegion
import Derived.Deep.CutBlock
import Derived.Deep.DeepCutAuto
set_option linter.unusedVariables false
namespace Go.Proofs.YtmamdiggjghjkaaGreatDoor.Un
open Go.RowKit
set_option maxRecDepth 100000 in
set_option maxHeartbeats 1000000 in
theorem join_lt {S:Nat→Prop}{w:World}{b n:Nat}{A Z X:Value}{par sz nx col rk ro:Nat→Nat}{steps:Int}(h1:FM S w b n A Z X par sz nx (cnt n col:Nat) steps) (h2:UFr n par sz col rk) (h3:Rings n nx col) (hn:n≤1048576)
  (h5:∀i,i<n→ro i<n∧par (ro i)=ro i∧col (ro i)=col i) (hst:0≤steps∧steps≤10000000000000) (x y:Nat) (hx:x<n) (hy:y<n) (hro:ro x≠ro y) (hs:sz (ro x)<sz (ro y)):
  Calls Tryz.prog 160 #[.pointer (some ⟨b,0,none⟩),.int .i64 x,.int .i64 y] w (JoinPost2 S w b n col ro steps x y):=by
 have hdg:=dg_le hn
 have HH:=has_any h1 (x:Int)
 rw [decide_eq_true (show (0:Int)≤(x:Int)∧(x:Int)<(n:Int) by omega)] at HH
 have HJ:=has_any h1 (y:Int)
 rw [decide_eq_true (show (0:Int)≤(y:Int)∧(y:Int)<(n:Int) by omega)] at HJ
 have HS:=search_ex h1 h2 hn (by omega) h5 x hx
 clear h1 h2 h5
 have HRO:=kI hro
 clear hro
 go_enter Tryz.func160,Tryz.ntmps160
 go_wp2_with fail
 refine HH.mono ?_
 rintro e w' ⟨rfl,rfl⟩
 go_wp2_with fail
 refine HJ.mono ?_
 rintro e w' ⟨rfl,rfl⟩
 go_wp2_with fail
 refine HS.mono ?_
 rintro e w2 ⟨par1,k1,rfl,hk1,h1,h2,h5,he1⟩
 have HT:=search_ex h1 h2 hn (by omega) h5 y hy
 clear h1 h2 h5
 have HF:=kI (aI hk1 he1)
 clear hk1 he1
 go_wp2_with fail
 refine HT.mono ?_
 rintro e w3 ⟨par,k2,rfl,hk2,h1,h2,h5,he2⟩
 clear HH HJ HS HT
 obtain ⟨a1,a2,a3⟩:=h5 x hx
 obtain ⟨b1,b2,b3⟩:=h5 y hy
 have hE:Else S w' w3:=HF.out.2.trans he2
 have hkk:k1+k2≤2*dg n:=by have:=HF.out.1;omega
 have HX:=kI (aI hE (aI hkk (aI a3 b3)))
 obtain ⟨r,hr⟩:∃r,ro x=r:=⟨_,rfl⟩
 obtain ⟨o,ho⟩:∃o,ro y=o:=⟨_,rfl⟩
 rw [hr] at a1 a2 a3
 rw [ho] at b1 b2 b3
 have hro:=HRO.out
 rw [hr,ho] at hro
 rw [hr,ho] at hs
 have HXR:=kI (aI hr ho)
 rw [hr,ho]
 clear hr ho
 have hce:(col x == col y)=false:=by
  rw [beq_eq_false_iff_ne]
  intro e
  exact hro (h2.root r o a1 b1 a2 b2 (by rw [a3,b3,e]))
 obtain ⟨c0,c1,c2,c3,c4⟩:=h1.cells
 have hl:=h1.lt
 obtain ⟨ga,ca,rfl,hga,hgl⟩:=own_shape h1.ra (by omega)
 obtain ⟨gz,cz,rfl,hgz,hzl⟩:=own_shape h1.rz (by omega)
 obtain ⟨gx,cx,rfl,hgx,hxl⟩:=own_shape h1.rx (by omega)
 have z1:w3.cell? ⟨gz,r,none⟩=some (.int .i64 (sz r)):=(h1.rz.cellAt r (by omega)).trans (rowI_get a1)
 have z2:w3.cell? ⟨gz,o,none⟩=some (.int .i64 (sz o)):=(h1.rz.cellAt o (by omega)).trans (rowI_get b1)
 have p1:w3.cell? ⟨ga,r,none⟩=some (.int .i64 (par r:Nat)):=(h1.ra.cellAt r (by omega)).trans (rowI_get a1)
 have p2:w3.cell? ⟨ga,o,none⟩=some (.int .i64 (par o:Nat)):=(h1.ra.cellAt o (by omega)).trans (rowI_get b1)
 have x1:w3.cell? ⟨gx,r,none⟩=some (.int .i64 (nx r)):=(h1.rx.cellAt r (by omega)).trans (rowI_get a1)
 have x2:w3.cell? ⟨gx,o,none⟩=some (.int .i64 (nx o)):=(h1.rx.cellAt o (by omega)).trans (rowI_get b1)
 have n1:ga≠b:=fun e=>row_ne h1.ra h1.blk (by decide) (by rw [e];rfl)
 have n2:gz≠b:=fun e=>row_ne h1.rz h1.blk (by decide) (by rw [e];rfl)
 have n3:gx≠b:=fun e=>row_ne h1.rx h1.blk (by decide) (by rw [e];rfl)
 have n4:gz≠ga:=fun e=>(h1.sa ga rfl).2.1 (by rw [e];rfl)
 have n5:gx≠ga:=fun e=>(h1.sa ga rfl).2.2 (by rw [e];rfl)
 have n6:gx≠gz:=fun e=>(h1.sz_ gz rfl).2 (by rw [e];rfl)
 have y1:w3.frozen? ⟨b,3,none⟩=false:=h1.frozen 3
 have y2:w3.frozen? ⟨ga,o,none⟩=false:=h1.ra.frozenAt o
 have y3:w3.frozen? ⟨ga,r,none⟩=false:=h1.ra.frozenAt r
 have y4:w3.frozen? ⟨gz,o,none⟩=false:=h1.rz.frozenAt o
 have y5:w3.frozen? ⟨gz,r,none⟩=false:=h1.rz.frozenAt r
 have y6:w3.frozen? ⟨gx,o,none⟩=false:=h1.rx.frozenAt o
 have y7:w3.frozen? ⟨gx,r,none⟩=false:=h1.rx.frozenAt r
 have sr:sz r≤1048576:=by rw [h2.size r a1 a2];have:=cls_le n col r;omega
 have so:sz o≤1048576:=by rw [h2.size o b1 b2];have:=cls_le n col o;omega
 have f6:decide ((sz r:Int)<(sz o:Int))=true:=decide_eq_true (by omega)
 have hle:sz r≤sz o:=by omega
 have HALL:=kI (aI h2 (aI h3 (aI h5 (aI hce (aI a2 (aI b2 (aI a3 (aI b3 hle))))))))
 have HFM:=kI h1
 have hct:=cnt_le n col
 obtain ⟨ct,hcte⟩:∃ct,cnt n col=ct:=⟨_,rfl⟩
 rw [hcte] at c3 hct
 have HCT:=kI hcte
 clear h1 h2 h3 h5 hce a2 b2 a3 b3 hle hE hkk hk2 he2 hcte
 go_wp2_with fail
 go_region
 go_upto_region 9 with fail
 refine wp_world (fun V=>FM S V b n (.slice (some ⟨ga,0,none⟩) n ca) (.slice (some ⟨gz,0,none⟩) n cz) (.slice (some ⟨gx,0,none⟩) n cx) (upd par r o) sz nx (cnt n col:Nat) (steps+k1+k2)∧Else S w3 V) ⟨(HFM.out.setA r o).drew,(Else.set w3 (p:=⟨ga,r,none⟩) (HFM.out.sa ga rfl).1 _).drew⟩ ?_
 rintro V ⟨g1,gE1⟩
 clear z1 z2 p1 p2 x1 x2 y1 y2 y3 y4 y5 y6 y7 c0 c1 c2 c3 c4 hl hgl hzl hxl
 have c1:=g1.cells.2.1
 have hl:=g1.lt
 have z1:V.cell? ⟨gz,r,none⟩=some (.int .i64 (sz r)):=(g1.rz.cellAt r (by omega)).trans (rowI_get a1)
 have z2:V.cell? ⟨gz,o,none⟩=some (.int .i64 (sz o)):=(g1.rz.cellAt o (by omega)).trans (rowI_get b1)
 have y5:V.frozen? ⟨gz,o,none⟩=false:=g1.rz.frozenAt o
 have G1:=kI (aI g1 gE1)
 clear g1 gE1
 go_region
 go_upto_region 10 with fail
 refine wp_world (fun V'=>FM S V' b n (.slice (some ⟨ga,0,none⟩) n ca) (.slice (some ⟨gz,0,none⟩) n cz) (.slice (some ⟨gx,0,none⟩) n cx) (upd par r o) (upd sz o (sz o+sz r)) nx (cnt n col:Nat) (steps+k1+k2)∧Else S w3 V') ?_ ?_
 ·rw [←Int.natCast_add]
  exact ⟨(G1.out.1.setZ o (sz o+sz r)).drew,(G1.out.2.trans (Else.set V (p:=⟨gz,o,none⟩) (G1.out.1.sz_ gz rfl).1 _)).drew⟩
 rintro V' ⟨g1,gE1⟩
 clear z1 z2 y5 c1 hl
 have c2:=g1.cells.2.2.1
 have hl:=g1.lt
 have x1:V'.cell? ⟨gx,r,none⟩=some (.int .i64 (nx r)):=(g1.rx.cellAt r (by omega)).trans (rowI_get a1)
 have x2:V'.cell? ⟨gx,o,none⟩=some (.int .i64 (nx o)):=(g1.rx.cellAt o (by omega)).trans (rowI_get b1)
 have y6:V'.frozen? ⟨gx,o,none⟩=false:=g1.rx.frozenAt o
 have y7:V'.frozen? ⟨gx,r,none⟩=false:=g1.rx.frozenAt r
 have c3:=g1.cells.2.2.2.1
 rw [HCT.out] at c3
 have y1:V'.frozen? ⟨b,3,none⟩=false:=g1.frozen 3
 have G2:=kI (aI g1 gE1)
 clear g1 gE1 G1
 go_region
 go_wp2_with fail
 go_ret2
 obtain ⟨h2,h3,h5,hce,a2,b2,a3,b3,hle⟩:=HALL.out
 obtain ⟨g1,gE1⟩:=G2.out
 have g2:=(((g1.setX o (nx r)).setX r (nx o)).set3 ((cnt n col:Nat)-1)).drew
 rw [HCT.out] at g2
 refine ⟨o,k1+k2,fun i=>if paint col x y i=paint col x y o then o else ro i,by rw [hce];rfl,b1,fun _ _=>rfl,.inr b3,HX.out.2.1,?_,HX.out.1.trans (gE1.trans ?_)⟩
 ·rw [show steps+((k1+k2:Nat):Int)=steps+k1+k2 by omega]
  exact join_fin h2 h3 hn h5 b1 a1 b2 a2 (Ne.symm hro) hle (.inr ⟨b3,a3⟩) (by rw [HCT.out];exact g2)
 ·exact (((Else.set V' (p:=⟨gx,o,none⟩) (g1.sx gx rfl) _).trans (Else.set _ (p:=⟨gx,r,none⟩) (g1.sx gx rfl) _)).trans (Else.set _ (p:=⟨b,3,none⟩) g1.sb _)).drew
end Go.Proofs.YtmamdiggjghjkaaGreatDoor.Un
