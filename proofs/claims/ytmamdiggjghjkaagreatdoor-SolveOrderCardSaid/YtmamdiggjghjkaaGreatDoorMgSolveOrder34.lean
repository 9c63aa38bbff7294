/- Texts of one proof, one behind the other. -/
import Derived.Test.YtmamdiggjghjkaaGreatDoorMgSolveOrder1
import Derived.Test.YtmamdiggjghjkaaGreatDoorMgSolveOrder27
import Derived.Test.YtmamdiggjghjkaaGreatDoorMgSolveOrder25
import Derived.Test.YtmamdiggjghjkaaGreatDoorMgSolveOrder33
import Derived.Test.YtmamdiggjghjkaaGreatDoorMgSolveOrder26a
import Derived.Test.YtmamdiggjghjkaaGreatDoorMgSolveOrder28
import Derived.Test.YtmamdiggjghjkaaGreatDoorMgSolveOrder10
import Derived.Test.YtmamdiggjghjkaaGreatDoorMgSolveOrder29
import Derived.Test.YtmamdiggjghjkaaGreatDoorMgSolveOrder24
import Derived.Test.YtmamdiggjghjkaaGreatDoorMgSolveOrder6
set_option linter.unusedVariables false
namespace Go.Proofs.YtmamdiggjghjkaaGreatDoor
section
open Go.RowKit
open Un (rowI rowI_get Else own_else wp_world)
attribute [local go_sem] Oper.semAt_some
set_option maxRecDepth 100000
section CyXs
variable {D:Nat→Prop}{B:Nat}{w w':World}{vm vs:Value}{M:List Rm}{G:List Gn}{cc:Nat→Nat}{i:Nat}{col ro:Nat→Nat}{kn:Kn}{E:List (Nat×Nat)}
set_option maxHeartbeats 4000000 in
theorem loop_any (hB:Both G col ro kn E cc) (hg:Gp G) (h:An3 D B w vm vs M G cc) (hl:G.length≤10000) (hi:i<G.length):
  Calls Tryz.prog 69 #[.agg #[vm,vs],.int .i64 (i:Nat)] w fun x w'=>(∃b:Bool,x = .returned (.bool b)∧(b=true↔Cp G cc (cc i) (cc i)))∧Below w.heap.size w w':=by
 have hlen:=h.len
 obtain ⟨Am,cm,rfl⟩:=h.row.form
 obtain ⟨As,cs,rfl,_,_⟩:=Un.own_form h.col
 obtain ⟨Q,hQ⟩:∃Q,M.length=Q:=⟨_,rfl⟩
 rw [hQ] at h hlen ⊢
 obtain ⟨w0,hw0⟩:∃w0,w.alloc (.cells #[.slice Am Q cm,.slice As Q cs] 67)=w0:=⟨_,rfl⟩
 have hb0:Below w.heap.size w w0:=by rw [←hw0];exact (Below.refl _ _).alloc (Nat.le_refl _) _
 have hx0:w0.heap[w.heap.size]? = some (.cells #[.slice Am Q cm,.slice As Q cs] 67):=by rw [←hw0];exact heap_alloc_new _ _
 have HCM:=kI (comes_any hB hg (h.below hb0) hl hi)
 have x0:w0.cell? ⟨w.heap.size,0,none⟩=some (.slice Am Q cm):=cell_of_row w0 _ 0 _ _ (0,0) hx0
 have x1:w0.cell? ⟨w.heap.size,1,none⟩=some (.slice As Q cs):=cell_of_row w0 _ 1 _ _ (0,0) hx0
 have hcol:w0.ownsRow B 3 1 (.slice As Q cs) Q (rowI Q cc):=by have h1:=(h.below hb0).col;rw [hQ] at h1;exact h1
 have hiQ:i<Q:=by omega
 have H:=kI (aI hb0 (aI hx0 hcol))
 have HW0:=kI hw0
 clear h hb0 hx0 hlen hw0 hB hg hQ hcol hi
 go_enter Tryz.func69,Tryz.ntmps69
 go_upto_region 1 with fail
 rw [HW0.out]
 go_wp2_with fail
 refine HCM.out.mono ?_
 clear HCM
 rintro x w1 ⟨v1,C,rfl,ho1,hC,hCl,hb1⟩
 obtain ⟨A1,c1,rfl,_,_⟩:=Un.own_form ho1
 obtain ⟨q,hq⟩:∃q,C.length=q:=⟨_,rfl⟩
 rw [hq] at ho1 hCl ⊢
 obtain ⟨bs,cs_,hsh,_,hbsl⟩:=Un.own_shape H.out.2.2 (by omega)
 injection hsh with hA1 hA2 hcc1
 subst hA1
 clear hA2 hcc1
 have FX:Hid (∀W,Below w1.heap.size w1 W→W.cell? ⟨bs,i,none⟩=some (.int .i64 (cc i:Nat))∧W.cell? ⟨w.heap.size,1,none⟩=some (.slice (some ⟨bs,0,none⟩) Q cs)):=kI fun W hW=>by
  have hb:=hb1.trans (hW.mono hb1.size)
  have hx:=(hb.block _ (gL H.out.2.1).1).trans H.out.2.1
  exact ⟨(hb.cell (p:=⟨bs,i,none⟩) hbsl).trans ((H.out.2.2.cellAt i (by omega)).trans (rowI_get hiQ)),cell_of_row W _ 1 _ _ (0,0) hx⟩
 have H1:=kI (aI ho1 (aI hC (aI hb1 hq)))
 clear ho1 hC hb1 hq hbsl x0 x1
 go_wp2_with fail
 go_loopg [6] q (fun nn s wr=>∃k:Nat,s = .int .i64 (k:Nat)∧k≤q∧q≤k+nn∧cc i ∉ C.take k∧Below w1.heap.size w1 wr)
 case atStart=>exact ⟨0,rfl,Nat.zero_le _,by omega,by simp,Below.refl _ _⟩
 case round=>
  obtain ⟨k,rfl,hk,hkn,hno,hb⟩:=hrel
  obtain ⟨y1,y2⟩:=FX.out wr hb
  have HI:=kI (aI hkn (aI hno hb))
  have hbt:Below w.heap.size w wr:=H.out.1.trans ((H1.out.2.2.1.trans (hb.mono H1.out.2.2.1.size)).mono H.out.1.size)
  have HBT:=kI hbt
  clear hkn hno hb hbt
  by_cases hkl:k<q
  ·have g1:decide ((k:Int)<(q:Int))=true:=decide_eq_true (by omega)
   have g2:decide (k<q)=true:=decide_eq_true hkl
   obtain ⟨d,hd⟩:∃d,C[k]? = some d:=⟨_,List.getElem?_eq_getElem (by rw [H1.out.2.2.2];exact hkl)⟩
   obtain ⟨bo,co_,hsh2,_,hbo⟩:=Un.own_shape H1.out.1 (by omega)
   injection hsh2 with e1 e2 e3
   subst e1
   clear e2 e3
   have y0:wr.cell? ⟨bo,k,none⟩=some (.int .i64 (d:Nat)):=(HI.out.2.2.cell (p:=⟨bo,k,none⟩) hbo).trans ((H1.out.1.cellAt k (by rw [Nat.mul_one];exact hkl)).trans (nums_get hd))
   have HK:=kI (aI hd hkl)
   clear hd hbo
   by_cases hdn:d=cc i
   ·have g3:((d:Int) == (cc i:Int))=true:=by rw [hdn];simp
    have g4:(d == cc i)=true:=by rw [hdn];simp
    have HDN:=kI hdn
    clear hdn
    go_wp2_with fail
    go_quiet (fail)
    go_wp2_with fail
    go_ret
    exact ⟨⟨true,rfl,⟨(fun _=>(H1.out.2.1 _).1 (by rw [←HDN.out];exact List.mem_of_getElem? HK.out.1)),(fun _=>rfl)⟩⟩,below_drewN HBT.out _⟩
   ·have g3:((d:Int) == (cc i:Int))=false:=by simp;omega
    have g4:(d == cc i)=false:=by simpa using hdn
    have HDN:=kI hdn
    clear hdn
    go_wp2_with fail
    go_quiet (fail)
    go_wp2_with fail
    go_roundg (q-(k+1))
    case rel=>exact ⟨k+1,by go_num,HK.out.2,by omega,by rw [List.take_add_one,HK.out.1];simp only [Option.toList_some,List.mem_append,List.mem_singleton];exact fun h=>h.elim HI.out.2.1 fun h=>HDN.out h.symm,below_drewN HI.out.2.2 _⟩
    case measure=>have h1:=HI.out.1;have h2:=HK.out.2;omega
  ·have g1:decide ((k:Int)<(q:Int))=false:=decide_eq_false (by omega)
   have g2:decide (k<q)=false:=decide_eq_false hkl
   have hke:C.take k=C:=List.take_of_length_le (by have:=H1.out.2.2.2;omega)
   have HKE:=kI hke
   clear hke
   go_wp2_with fail
   go_ret
   exact ⟨⟨false,rfl,⟨(fun h=>by cases h),(fun h=>absurd ((H1.out.2.1 _).2 h) (by have:=HI.out.2.1;rw [HKE.out] at this;exact this))⟩⟩,HBT.out⟩
set_option maxHeartbeats 4000000 in
theorem finite3_any (hB:Both G col ro kn E cc) (hg:Gp G) (h:An3 D B w vm vs M G cc) (hl:G.length≤10000):
  Calls Tryz.prog 35 #[.agg #[vm,vs]] w fun x w'=>(∃b:Bool,x = .returned (.bool b)∧(b=true↔∀i,i<G.length→¬ Cp G cc (cc i) (cc i)))∧Below w.heap.size w w':=by
 have hlen:=h.len
 obtain ⟨Am,cm,rfl⟩:=h.row.form
 obtain ⟨As,cs,rfl,_,_⟩:=Un.own_form h.col
 obtain ⟨Q,hQ⟩:∃Q,M.length=Q:=⟨_,rfl⟩
 rw [hQ] at h hlen ⊢
 obtain ⟨w0,hw0⟩:∃w0,w.alloc (.cells #[.slice Am Q cm,.slice As Q cs] 67)=w0:=⟨_,rfl⟩
 have hb0:Below w.heap.size w w0:=by rw [←hw0];exact (Below.refl _ _).alloc (Nat.le_refl _) _
 have hx0:w0.heap[w.heap.size]? = some (.cells #[.slice Am Q cm,.slice As Q cs] 67):=by rw [←hw0];exact heap_alloc_new _ _
 have hQ5:Q≤10000:=by omega
 have H:=kI (aI hb0 (aI hx0 (aI (h.below hb0) (aI hlen (aI hl (aI hB hg))))))
 have HW0:=kI hw0
 clear h hb0 hx0 hlen hw0 hl hB hg hQ
 go_enter Tryz.func35,Tryz.ntmps35
 go_upto_region 1 with fail
 rw [HW0.out]
 go_wp2_with fail
 go_loopg [3] Q (fun nn s wr=>∃k:Nat,s = .int .i64 (k:Nat)∧k≤Q∧Q≤k+nn∧(∀i,i<k→¬ Cp G cc (cc i) (cc i))∧Below w0.heap.size w0 wr)
 case atStart=>exact ⟨0,rfl,Nat.zero_le _,by omega,fun i hi=>by omega,Below.refl _ _⟩
 case round=>
  obtain ⟨k,rfl,hk,hkn,hno,hb⟩:=hrel
  have hx:=(hb.block _ (gL H.out.2.1).1).trans H.out.2.1
  have y0:wr.cell? ⟨w.heap.size,0,none⟩=some (.slice Am Q cm):=cell_of_row wr _ 0 _ _ (0,0) hx
  have y1:wr.cell? ⟨w.heap.size,1,none⟩=some (.slice As Q cs):=cell_of_row wr _ 1 _ _ (0,0) hx
  have HI:=kI (aI hkn (aI hno hb))
  have hbt:Below w.heap.size w wr:=H.out.1.trans (hb.mono H.out.1.size)
  have HBT:=kI hbt
  clear hkn hno hb hbt hx
  by_cases hkl:k<Q
  ·have g1:decide ((k:Int)<(Q:Int))=true:=decide_eq_true (by omega)
   have g2:decide (k<Q)=true:=decide_eq_true hkl
   have HLP:=kI (loop_any H.out.2.2.2.2.2.1 H.out.2.2.2.2.2.2 (H.out.2.2.1.below HI.out.2.2) H.out.2.2.2.2.1 (i:=k) (by have:=H.out.2.2.2.1;omega))
   have HK:=kI hkl
   go_wp2_with fail
   refine HLP.out.mono ?_
   clear HLP
   rintro x w2 ⟨⟨b,rfl,hb⟩,hb2⟩
   have H2:=kI (aI hb hb2)
   clear hb hb2
   cases b with
   | true=>
    go_wp2_with fail
    go_ret
    exact ⟨⟨false,rfl,⟨(fun h=>by cases h),(fun h=>absurd (H2.out.1.1 (by trivial)) (h k (by have:=H.out.2.2.2.1;have:=HK.out;omega)))⟩⟩,HBT.out.trans (H2.out.2.mono HBT.out.size)⟩
   | false=>
    go_wp2_with fail
    go_roundg (Q-(k+1))
    case rel=>exact ⟨k+1,by go_num,HK.out,by omega,(fun i hi=>by
     rcases Nat.lt_or_ge i k with h1|h1
     ·exact HI.out.2.1 i h1
     ·obtain rfl:i=k:=by omega
      exact fun h=>by have:=H2.out.1.2 h;cases this),HI.out.2.2.trans (H2.out.2.mono HI.out.2.2.size)⟩
    case measure=>have h1:=HI.out.1;have h2:=HK.out;omega
  ·have g1:decide ((k:Int)<(Q:Int))=false:=decide_eq_false (by omega)
   have g2:decide (k<Q)=false:=decide_eq_false hkl
   have hke:k=G.length:=by have:=H.out.2.2.2.1;omega
   have HKE:=kI hke
   clear hke
   go_wp2_with fail
   go_ret
   exact ⟨⟨true,rfl,⟨(fun _ i hi=>HI.out.2.1 i (by rw [HKE.out];exact hi)),(fun _=>rfl)⟩⟩,HBT.out⟩
end CyXs
end
section
open Go.RowKit
open Un (rowI rowI_get Else own_else wp_world)
attribute [local go_sem] Oper.semAt_some
set_option maxRecDepth 100000
section CyYs
variable {D:Nat→Prop}{B:Nat}{w w':World}{vm vs:Value}{M:List Rm}{G:List Gn}{cc:Nat→Nat}{i:Nat}{col ro:Nat→Nat}{kn:Kn}{E:List (Nat×Nat)}
theorem An3.of_rg {BT:Nat}(h:Rg D BT w vm M G) (hs:w.ownsRow B 3 1 vs G.length (rowI G.length cc)):An3 D B w vm vs M G cc:=
 ⟨h.1.row,fun x hx=>(h.1.nodes x hx).2,by rw [h.len];exact hs,h.rows,h.2.1⟩
theorem clash3 (h:An3 D B w vm vs M G cc) (hl:G.length≤10000) (hc:Rc G cc E) (he:∀a b,(a,b)∈E→a<G.length∧b<G.length∧cc a=cc b) (hd:ClosedC G cc):
  Calls Tryz.prog 34 #[.agg #[vm,vs]] w fun e w'=>(∃b:Bool,e = .returned (.bool b)∧(b=true↔Clash G E))∧Below w.heap.size w w':=by
 have hlen:=h.len
 rcases Nat.eq_zero_or_pos G.length with h0|h0
 ·obtain ⟨Am,cm,rfl⟩:=h.row.form
  obtain ⟨As,cs,rfl,_,_⟩:=Un.own_form h.col
  have hno:¬ Clash G E:=fun ⟨x,y,p,q,h1,h2,_⟩=>by have:=lt_of_get h2;omega
  have hM0:M.length=0:=by omega
  rw [hM0]
  obtain ⟨w0,hw0⟩:∃w0,w.alloc (.cells #[.slice Am 0 cm,.slice As 0 cs] 67)=w0:=⟨_,rfl⟩
  have hb0:Below w.heap.size w w0:=by rw [←hw0];exact (Below.refl _ _).alloc (Nat.le_refl _) _
  have hx0:w0.heap[w.heap.size]? = some (.cells #[.slice Am 0 cm,.slice As 0 cs] 67):=by rw [←hw0];exact heap_alloc_new _ _
  have x0:w0.cell? ⟨w.heap.size,0,none⟩=some (.slice Am 0 cm):=cell_of_row w0 _ 0 _ _ (0,0) hx0
  have H:=kI (aI hb0 hno)
  have HW0:=kI hw0
  clear h hc he hd hlen h0 hl hb0 hx0 hno hM0 hw0
  go_enter Tryz.func34,Tryz.ntmps34
  go_upto_region 1 with fail
  rw [HW0.out]
  go_wp2_with fail
  refine wp_loop_rounds 1 ?_
  rw [rounds_succ]
  go_wp2_with fail
  go_ret
  exact ⟨⟨false,rfl,⟨(fun h=>by cases h),(fun h=>absurd h H.out.2)⟩⟩,H.out.1⟩
 ·refine (rclash_any w M vm vs cc B h.row.1 h.lens h.col (by omega) (by omega)).mono ?_
  rintro e w' ⟨b,rfl,hb,hw⟩
  refine ⟨⟨b,rfl,hb.trans ?_⟩,hw⟩
  rw [hc.clash he hd,h.gm]
  constructor
  ·rintro ⟨x,y,hyx,p,q,h1,h2,h3⟩
   exact ⟨x,y,p,q,h1,h2,hyx,h3⟩
  ·rintro ⟨x,y,p,q,h1,h2,hyx,h3⟩
   exact ⟨x,y,hyx,p,q,h1,h2,h3⟩
variable {O:Nat→Prop}{cb b:Nat}{s:Sys}
end CyYs
end
section
section
variable {G:List Gn}{cc:Nat→Nat}{E:List (Nat×Nat)}
def roC (G:List Gn) (cc:Nat→Nat) (i:Nat):Nat:=((List.range G.length).find? fun j=>cc j == cc i).getD i
theorem roC_is {i:Nat}(hi:i<G.length):roC G cc i<G.length∧cc (roC G cc i)=cc i:=by
 unfold roC
 cases h:(List.range G.length).find? fun j=>cc j == cc i with
 | none=>
  have:=List.find?_eq_none.1 h i (List.mem_range.2 hi)
  simp at this
 | some j=>
  have h1:=List.mem_of_find?_eq_some h
  have h2:=List.find?_some h
  exact ⟨List.mem_range.1 h1,by simpa using h2⟩
theorem roC_one {i j:Nat}(hi:i<G.length) (hj:j<G.length) (h:cc i=cc j):roC G cc i=roC G cc j:=by
 unfold roC
 rw [h]
 cases h2:(List.range G.length).find? fun x=>cc x == cc j with
 | none=>
  have:=List.find?_eq_none.1 h2 j (List.mem_range.2 hj)
  simp at this
 | some k=>rfl
noncomputable def hdO (G:List Gn) (cc:Nat→Nat) (r:Nat):Option Nat:=
 @dite _ (∃k p,G[k]? = some p∧cc k=cc r∧p.1≠1) (Classical.propDecidable _) (fun h=>some (Classical.choose h)) fun _=>none
noncomputable def leO (G:List Gn) (cc:Nat→Nat) (r:Nat):Option Nat:=
 @dite _ (∃z q,G[z]? = some q∧q.1=1∧q.2.1=lvC G cc (cc r)∧cc z=cc r) (Classical.propDecidable _) (fun h=>some (Classical.choose h)) fun _=>none
theorem hdO_some {r k:Nat}(h:hdO G cc r=some k):∃p,G[k]? = some p∧cc k=cc r∧p.1≠1:=by
 unfold hdO at h
 by_cases hk:∃k p,G[k]? = some p∧cc k=cc r∧p.1≠1
 ·rw [@dif_pos _ (Classical.propDecidable _) hk] at h
  injection h with h
  rw [←h]
  exact Classical.choose_spec hk
 ·rw [@dif_neg _ (Classical.propDecidable _) hk] at h
  cases h
theorem hdO_none {r:Nat}(h:hdO G cc r=none):¬ ∃k p,G[k]? = some p∧cc k=cc r∧p.1≠1:=fun hk=>by
 unfold hdO at h
 rw [@dif_pos _ (Classical.propDecidable _) hk] at h
 cases h
theorem leO_some {r k:Nat}(h:leO G cc r=some k):∃q,G[k]? = some q∧q.1=1∧q.2.1=lvC G cc (cc r)∧cc k=cc r:=by
 unfold leO at h
 by_cases hk:∃z q,G[z]? = some q∧q.1=1∧q.2.1=lvC G cc (cc r)∧cc z=cc r
 ·rw [@dif_pos _ (Classical.propDecidable _) hk] at h
  injection h with h
  rw [←h]
  exact Classical.choose_spec hk
 ·rw [@dif_neg _ (Classical.propDecidable _) hk] at h
  cases h
theorem leO_none {r:Nat}(h:leO G cc r=none):¬ ∃z q,G[z]? = some q∧q.1=1∧q.2.1=lvC G cc (cc r)∧cc z=cc r:=fun hk=>by
 unfold leO at h
 rw [@dif_pos _ (Classical.propDecidable _) hk] at h
 cases h
theorem both_cc (hrc:Rc G cc E) (he:∀a b,(a,b)∈E→a<G.length∧b<G.length∧cc a=cc b) (hcd:ClosedC G cc) (hgn:GN G) (hgk:GK G) (hnc:¬ Clash G E):Both G cc (roC G cc) (fun r=>(hdO G cc r,leO G cc r)) E cc where
 js:={
  jn:={
   sound:=hrc.sound
   todo:=fun a b h=>by cases h
   eqs:=fun a b h=>.col (he a b h).1 (he a b h).2.1 (he a b h).2.2
   fit:=fun x y p q hx hy hc p1 q1=>by
    have hf:Fit p q:=Classical.byContradiction fun hf=>hnc ⟨x,y,p,q,hrc.sound _ _ (lt_of_get hx) (lt_of_get hy) hc,hx,hy,p1,q1,hf⟩
    exact ⟨hf,fun j a b ha hb=>.col (hrc.parts x p hx a (List.mem_of_getElem? ha)) (hrc.parts y q hy b (List.mem_of_getElem? hb)) (hcd x y p q hx hy hc p1 hf.1 hf.2 j a b ha hb)⟩
   parts:=hrc.parts }
  len:=rfl
  md:={
   col:=fun i j hi hj h=>by
    show hdO G cc (roC G cc i)=hdO G cc (roC G cc j)
    rw [roC_one hi hj h]
   none:=fun i p hp hn=>by
    have hn:hdO G cc (roC G cc i)=none:=hn
    exact Classical.byContradiction fun h1=>hdO_none hn ⟨i,p,hp,(roC_is (lt_of_get hp)).2.symm,h1⟩
   some:=fun i k hi hk=>by
    have hk:hdO G cc (roC G cc i)=some k:=hk
    obtain ⟨p,h1,h2,h3⟩:=hdO_some hk
    exact ⟨p,h1,h3,h2.trans (roC_is hi).2⟩ }
  le:={
   is:=fun i l hi hl=>by
    have hl:leO G cc (roC G cc i)=some l:=hl
    obtain ⟨q,h1,h2,h3,h4⟩:=leO_some hl
    refine ⟨lt_of_get h1,⟨q,h1,h2⟩,h4.trans (roC_is hi).2,fun v p hv p1 hc=>?_⟩
    have h5:=(lvC_at hgn hv p1 hc).2
    have h6:nmG G l=q.2.1:=by simp [nmG,h1]
    rw [h6,h3,(roC_is (cc:=cc) hi).2]
    exact h5
   no:=fun i v p hi hn hp p1 hc=>by
    have hn:leO G cc (roC G cc i)=none:=hn
    obtain ⟨z,q,h1,h2,h3,h4⟩:=(lvC_at hgn hp p1 hc).1
    exact leO_none hn ⟨z,q,h1,h2,by rw [h3,(roC_is (cc:=cc) hi).2],h4.trans (roC_is hi).2.symm⟩ }
  rt:=fun i hi=>roC_is hi
  un:=fun i j hi hj h=>roC_one hi hj h }
 rc:=hrc
 he:=he
 hc:=hcd
 gn:=hgn
 gk:=hgk
 nc:=hnc
end
end
section
open Go.RowKit
open Un (rowI rowI_get Else own_else wp_world dg intAt)
attribute [local go_sem] Oper.semAt_some
set_option maxRecDepth 100000
theorem fin_cols {G:List Gn}{col ro cc:Nat→Nat}{kn:Kn}{E:List (Nat×Nat)}(hB:Both G col ro kn E cc) (hp:Gp G) (hl:GL G):FinC G E↔∀i,i<G.length→¬ Cp G cc (cc i) (cc i):=by
 have hpl:∀p∈G,∀u∈p.2.2.2,u<G.length:=fun p hh=>(hp p hh).2
 constructor
 ·intro hf i hi
  exact ((acc_color hB hi).1 (acc_all hB.nc hB.gn hl hf i hi)).no
 ·intro h v i hv
  have hi:=gvar_lt hv
  refine (acc_color hB hi).2 (Classical.byContradiction fun hna=>?_)
  obtain ⟨d,hd,hdd⟩:=(acc_colors hpl hi).1 hna
  rcases hd with rfl|hd
  ·exact h i hi hdd
  ·obtain ⟨u,hu,rfl⟩:=hd.at hpl
   exact h u hu hdd
theorem fold_Gp {B:Nat}{w:World}(l:List Eqn):∀s:Sys,GI s.1→Gp s.1→(∀x∈l,EqT B w x)→(∀y∈l,rtE y=true)→Gp (l.foldl stp s).1:=by
 induction l with
 | nil=>intro s _ h _ _;exact h
 | cons x l ih=>
  intro s hg hp hT hr
  have h1:=hr x List.mem_cons_self
  unfold rtE at h1
  rw [Bool.and_eq_true] at h1
  have ht:=hT x List.mem_cons_self
  have hone:∀(t:Ty1),TyV B w t.2.2.2 (slv t.2.2.1)→rt1 t=true→LenOk (Fo.cons t.1 t.2.1 t.2.2.1 t.2.2.2 .nil)∧allAlone (Fo.cons t.1 t.2.1 t.2.2.1 t.2.2.2 .nil).pre=true:=fun t ht hr=>by
   have hu:=TyV.len ht
   exact ⟨⟨hu,(TyV.list ht).lenOk,trivial⟩,rt1_right hr hu⟩
  obtain ⟨a1,a2⟩:=hone x.1 ht.1 h1.1
  obtain ⟨b1,b2⟩:=hone x.2.1 ht.2 h1.2
  obtain ⟨_,g1,p1,_⟩:=gadd1_all hg hp a2 a1
  obtain ⟨_,g2,p2,_⟩:=gadd1_all g1 p1 b2 b1
  exact ih (stp s x) g2 p2 (fun y hy=>hT y (List.mem_cons_of_mem _ hy)) fun y hy=>hr y (List.mem_cons_of_mem _ hy)
theorem cls_Gp {B:Nat}{w:World}{l:List Eqn}{v:Value}(hr:∀y∈l,rtE y=true) (h:EqV B w l v):Gp (cls l).1:=by
 obtain ⟨_,_,_,_,hT⟩:=h
 exact fold_Gp l ([],[]) (fun p hp=>by cases hp) (fun p hp=>by cases hp) hT hr
theorem rights_all {l:List Eqn}(h:∀y∈l,rtE y=true):rights l=l:=List.filter_eq_self.2 h
end
section
open Go.RowKit
open Un (wp_world)
attribute [local go_sem] Oper.semAt_some
set_option maxRecDepth 100000
theorem val_mean {G:List Gn}{col ro cc:Nat→Nat}{kn:Kn}{E:List (Nat×Nat)}{lv:Nat→Int}(hB:Both G col ro kn E cc) (hg:GN G) (hl:GL G) (ha:∀i,i<G.length→AccC G cc (cc i)):∀i,i<G.length→valG (meanV G cc lv) G i=meanC G cc lv (cc i):=by
 intro i
 induction i using Nat.strongRecOn with
 | ind i ih=>
  intro hi
  obtain ⟨p,hp⟩:∃p,G[i]? = some p:=⟨_,List.getElem?_eq_getElem hi⟩
  by_cases p1:p.1=1
  ·rw [valG_var _ hp p1]
   unfold meanV
   rw [gvar_node hg hp p1]
  ·rw [valG_node _ hl hp p1,mean_node hB (ha i hi) hp rfl p1]
   have e:p.2.2.2.map (valG (meanV G cc lv) G)=p.2.2.2.map fun u=>meanC G cc lv (cc u):=List.map_congr_left fun u hu=>ih u (hl i p hp u hu) (by have:=hl i p hp u hu;omega)
   rw [e]
def GreatIs (l:List Eqn) (b:Bool):Prop:=b=false→l.length≤20∧esz l≤160∧((∀y∈l,rtE y=true)→¬ Clash (cls l).1 (cls l).2→FinC (cls l).1 (cls l).2→SmallS l 400)
set_option maxHeartbeats 8000000 in
theorem great14_any (w:World) (l:List Eqn) (v:Value) (h:EqV w.heap.size w l v) (hw:EqW l) (hm:l.length≤9223372036854775807):
  Calls Tryz.prog 8 #[v] w fun e w'=>(∃b,e = .returned (.bool b)∧GreatIs l b)∧Below w.heap.size w w':=by
 obtain ⟨A,cA,rfl⟩:=h.form
 have HG:=kI (great12_any w l _ h hm)
 have H:=kI (aI h hw)
 clear h hw hm
 go_enter Tryz.func8,Tryz.ntmps8
 go_wp2_with fail
 refine HG.out.mono ?_
 clear HG
 rintro e w1 ⟨b,rfl,hb,hb1⟩
 cases b with
 | true=>
  have HB1:=kI hb1
  clear hb hb1
  go_wp2_with fail
  exact bodyPost_ret (results_tmp rfl _ _ _) rfl ⟨⟨true,rfl,fun h=>by cases h⟩,HB1.out⟩
 | false=>
  obtain ⟨hl,hs⟩:=hb rfl
  have HR:=kI (rights12_any w1 l _ (H.out.1.later hb1) hl hs)
  have HS:=kI (aI hl (aI hs hb1))
  clear hb hl hs hb1
  go_wp2_with fail
  refine HR.out.mono ?_
  clear HR
  rintro e w2 ⟨v2,rfl,he2,hb2⟩
  obtain ⟨R,hR⟩:∃R,rights l=R:=⟨_,rfl⟩
  have hRT:∀y∈R,rtE y=true:=by rw [←hR];exact fun x hx=>(List.mem_filter.1 hx).2
  have hRw:EqW R:=by rw [←hR];exact H.out.2.rights
  have hRl:R.length≤20:=by have:=rights_len l;rw [hR] at this;have:=HS.out.1;omega
  have hRs:esz R≤160:=by have:=esz_rights l;rw [hR] at this;have:=HS.out.2.1;omega
  rw [hR] at he2
  have HCL:=kI (close_any w2 R v2 he2 hRT hRl hRs)
  have hnz:=nz_all he2 hRT
  obtain ⟨A2,c2,rfl⟩:=he2.form
  have hgp:=cls_Gp hRT he2
  have HRR:=kI (aI hR (aI hRT (aI hRw (aI hRs (aI hnz (aI hgp (HS.out.2.2.trans (hb2.mono HS.out.2.2.size))))))))
  clear he2 hR hRT hRw hRl hRs hnz hb2 hgp
  go_wp2_with fail
  refine HCL.out.mono ?_
  clear HCL
  rintro e w3 ⟨vm,vs,M,cc,rfl,hRg,hcol,hrc,hec,hcd,hb3⟩
  have hAn:An3 (fun b=>w2.heap.size≤b) w2.heap.size w3 vm vs M (cls R).1 cc:=An3.of_rg hRg hcol
  have hG:(cls R).1.length≤10000:=by have h1:=cls_len R;have h2:=HRR.out.2.2.2.1;omega
  have hlen:=hAn.len
  obtain ⟨Am,cm,rfl⟩:=hAn.row.form
  obtain ⟨As,cs,rfl,_,_⟩:=Un.own_form hAn.col
  obtain ⟨Q,hQ⟩:∃Q,M.length=Q:=⟨_,rfl⟩
  rw [hQ] at hAn hlen ⊢
  have HLEN:=kI hlen
  clear hlen
  go_upto_region 4 with fail
  refine wp_world (fun Z=>Below w3.heap.size w3 Z∧Z.heap[w3.heap.size]? = some (Obj.cells #[.slice Am Q cm,.slice As Q cs] 67)) ⟨(Below.refl _ _).alloc (Nat.le_refl _) _,heap_alloc_new w3 _⟩ ?_
  rintro Z ⟨hZ,hxZ⟩
  have hAZ:=hAn.below hZ
  have z0:Z.cell? ⟨w3.heap.size,0,none⟩=some (.slice Am Q cm):=cell_of_row Z _ 0 _ _ (0,0) hxZ
  have z1:Z.cell? ⟨w3.heap.size,1,none⟩=some (.slice As Q cs):=cell_of_row Z _ 1 _ _ (0,0) hxZ
  have HCH:=kI (clash3 hAZ hG hrc hec hcd)
  have HF:Hid (¬ Clash (cls R).1 (cls R).2→∀W,Below Z.heap.size Z W→Calls Tryz.prog 35 #[.agg #[.slice Am Q cm,.slice As Q cs]] W fun x w'=>(∃b:Bool,x = .returned (.bool b)∧(b=true↔FinC (cls R).1 (cls R).2))∧Below W.heap.size W w'):=kI fun hnc W hW=>by
   have hgn:=cls_GN R HRR.out.2.2.1
   have hBo:=both_cc hrc hec hcd hgn (cls_GK R HRR.out.2.1) hnc
   have hgp:=HRR.out.2.2.2.2.2.1
   refine (finite3_any hBo hgp (hAZ.below hW) hG).mono ?_
   rintro x w' ⟨⟨b,rfl,hb⟩,hbw⟩
   exact ⟨⟨b,rfl,hb.trans (fin_cols hBo hgp (cls_gl R)).symm⟩,hbw⟩
  have hwZ:=(HRR.out.2.2.2.2.2.2.trans (hb3.mono HRR.out.2.2.2.2.2.2.size))
  have H2:=kI (aI (hwZ.trans (hZ.mono hwZ.size)) (aI hxZ (aI HLEN.out (aI hG (aI hAZ (aI hrc (aI hec hcd)))))))
  clear hRg hcol hrc hec hcd hb3 hAn hQ hZ hxZ hAZ hG hwZ HLEN
  go_wp2_with fail
  refine HCH.out.mono ?_
  clear HCH
  rintro e w4 ⟨⟨b,rfl,hb⟩,hb4⟩
  have hx4:=(hb4.block _ (gL H2.out.2.1).1).trans H2.out.2.1
  have z0:w4.cell? ⟨w3.heap.size,0,none⟩=some (.slice Am Q cm):=cell_of_row w4 _ 0 _ _ (0,0) hx4
  have z1:w4.cell? ⟨w3.heap.size,1,none⟩=some (.slice As Q cs):=cell_of_row w4 _ 1 _ _ (0,0) hx4
  have H3:=kI (aI hb (aI hb4 (H2.out.1.trans (hb4.mono H2.out.1.size))))
  clear hb hb4 hx4
  have HRL:Hid ((∀y∈l,rtE y=true)→l=R):=kI fun h=>by rw [←HRR.out.1,rights_all h]
  cases b with
  | true=>
   go_wp2_with fail
   refine bodyPost_ret (results_tmp rfl _ _ _) rfl ⟨⟨false,rfl,fun _=>⟨HS.out.1,HS.out.2.1,fun hrt hnc _=>absurd (H3.out.1.1 (by trivial)) ?_⟩⟩,H3.out.2.2⟩
   rw [←HRL.out hrt]
   exact hnc
  | false=>
   have HNC:Hid (¬ Clash (cls R).1 (cls R).2):=kI fun h=>by have:=H3.out.1.2 h;cases this
   have HFW:=kI (HF.out HNC.out w4 H3.out.2.1)
   clear HF
   go_wp2_with fail
   refine HFW.out.mono ?_
   clear HFW
   rintro e w5 ⟨⟨b,rfl,hb⟩,hb5⟩
   have H4:=kI (aI hb (aI (H3.out.2.1.trans (hb5.mono H3.out.2.1.size)) (H3.out.2.2.trans (hb5.mono H3.out.2.2.size))))
   clear hb hb5 z0 z1
   cases b with
   | false=>
    go_wp2_with fail
    refine bodyPost_ret (results_tmp rfl _ _ _) rfl ⟨⟨false,rfl,fun _=>⟨HS.out.1,HS.out.2.1,fun hrt hnc hfin=>?_⟩⟩,H4.out.2.2⟩
    rw [HRL.out hrt] at hfin
    have:=H4.out.1.2 hfin
    cases this
   | true=>
    have hgn:=cls_GN R HRR.out.2.2.1
    have hBo:=both_cc H2.out.2.2.2.2.2.1 H2.out.2.2.2.2.2.2.1 H2.out.2.2.2.2.2.2.2 hgn (cls_GK R HRR.out.2.1) HNC.out
    have hfin:FinC (cls R).1 (cls R).2:=H4.out.1.1 (by trivial)
    have hacc:∀i,i<(cls R).1.length→AccC (cls R).1 cc (cc i):=fun i hi=>(acc_color hBo hi).1 (acc_all HNC.out hgn (cls_gl R) hfin i hi)
    have HBO:=kI (aI hgn (aI hBo hacc))
    clear hgn hBo hfin hacc
    go_wp2_with fail
    go_loopw [4] (fun s4 wr=>∃j:Nat,s4 = .int .i64 (j:Nat)∧j≤Q∧(∀i,i<j→tsz (meanC (cls R).1 cc (fun _=>0) (cc i))<400)∧Below w5.heap.size w5 wr) (fun s _=>Q-(intOf s).toNat)
    case atStart=>exact ⟨0,rfl,Nat.zero_le _,fun i hi=>absurd hi (Nat.not_lt_zero _),Below.refl _ _⟩
    case round=>
     obtain ⟨j,rfl,hj,hlt,hb⟩:=hrel
     have hbZ:=H4.out.2.1.trans (hb.mono H4.out.2.1.size)
     have hbw:=H4.out.2.2.trans (hb.mono H4.out.2.2.size)
     have hxr:=(hbZ.block _ (gL H2.out.2.1).1).trans H2.out.2.1
     have z0:wr.cell? ⟨w3.heap.size,0,none⟩=some (.slice Am Q cm):=cell_of_row wr _ 0 _ _ (0,0) hxr
     have z1:wr.cell? ⟨w3.heap.size,1,none⟩=some (.slice As Q cs):=cell_of_row wr _ 1 _ _ (0,0) hxr
     have hQG:=H2.out.2.2.1
     have hQb:Q≤10000:=by have:=H2.out.2.2.2.1;omega
     have HT:=kI (aI hlt (aI hb hbw))
     by_cases hjl:j<Q
     ·have f1:decide ((j:Int)<(Q:Int))=true:=decide_eq_true (by omega)
      have f2:decide (j<Q)=true:=decide_eq_true hjl
      have hjG:j<(cls R).1.length:=by omega
      have HH:=kI (heavy_size HBO.out.2.1 HRR.out.2.2.2.2.2.1 (fun _=>0) H2.out.2.2.2.1 (cc j) (HBO.out.2.2 j hjG) j wr 400 rfl hjG (by omega) (by omega) (H2.out.2.2.2.2.1.below hbZ))
      clear hlt hb hbZ hbw hxr hjG hQG
      go_wp2_with fail
      refine HH.out.mono ?_
      clear HH
      rintro e w6 ⟨⟨r,rfl,hr⟩,hb6⟩
      have H6:=kI (aI hr (aI (HT.out.2.1.trans (hb6.mono HT.out.2.1.size)) (HT.out.2.2.trans (hb6.mono HT.out.2.2.size))))
      clear hr hb6 z0 z1
      obtain ⟨z,hz⟩:∃z:Int,(r:Int)=z:=⟨_,rfl⟩
      rw [hz]
      rcases Nat.eq_zero_or_pos r with h0|h0
      ·have g1:decide (z≤0)=true:=decide_eq_true (by omega)
       clear h0 hz
       go_wp2_with fail
       exact bodyPost_ret (results_tmp rfl _ _ _) rfl ⟨⟨true,rfl,fun h=>by cases h⟩,H6.out.2.2⟩
      ·have g1:decide (z≤0)=false:=decide_eq_false (by omega)
       have HR0:=kI h0
       clear h0 hz
       go_wp2_with fail
       go_roundw
       case rel=>
        refine ⟨j+1,by go_num,hjl,fun i hi=>?_,H6.out.2.1⟩
        rcases Nat.lt_or_ge i j with h|h
        ·exact HT.out.1 i h
        ·obtain rfl:i=j:=by omega
         have h1:=H6.out.1
         have h2:=HR0.out
         have h3:(400:Int).toNat=400:=rfl
         omega
       case measure=>simp [intOf];omega
     ·have f1:decide ((j:Int)<(Q:Int))=false:=decide_eq_false (by omega)
      have f2:decide (j<Q)=false:=decide_eq_false hjl
      have hje:j=Q:=by omega
      have HJE:=kI hje
      have HQG:=kI hQG
      clear hlt hb hbZ hbw hxr hjl hje hQG
      go_wp2_with fail
      refine bodyPost_ret (results_tmp rfl _ _ _) rfl ⟨⟨false,rfl,fun _=>⟨HS.out.1,HS.out.2.1,fun hrt hnc hfin=>?_⟩⟩,HT.out.2.2⟩
      have e:=HRL.out hrt
      rw [e]
      refine ⟨meanV (cls R).1 cc (fun _=>0),mean_solves R HBO.out.2.1 HBO.out.2.2 HRR.out.2.2.2.2.1,fun i hi=>?_⟩
      rw [val_mean HBO.out.2.1 HBO.out.1 (cls_gl R) HBO.out.2.2 i hi]
      have:=HT.out.1 i (by rw [HJE.out,HQG.out];exact hi)
      omega
end
section
def Pt (G:List Gn) (i:Nat):Prop:=∃(j:Nat) (p:Gn),G[j]? = some p∧p.1≠1∧i∈p.2.2.2
theorem Pt.app {G X:List Gn}{i:Nat}(h:Pt G i):Pt (G++X) i:=by
 obtain ⟨j,p,h1,h2,h3⟩:=h
 exact ⟨j,p,(List.getElem?_append_left (lt_of_get h1)).trans h1,h2,h3⟩
theorem gnode_ext (G:List Gn) (k n:Int) (P:List Nat):∃Y,(gnode G k n P).1=G++Y:=by
 unfold gnode
 split
 ·exact ⟨[],by simp⟩
 ·exact ⟨_,rfl⟩
theorem gnode_cov {G:List Gn}{k n:Int}{P:List Nat}{i:Nat}(hi:i<(gnode G k n P).1.length):i<G.length∨i=(gnode G k n P).2:=by
 unfold gnode at hi ⊢
 split at hi
 ·exact .inl hi
 ·simp only [List.length_append,List.length_cons,List.length_nil] at hi
  rcases Nat.lt_or_ge i G.length with h|h
  ·exact .inl h
  ·right
   show i=G.length
   omega
theorem gnode_part {G:List Gn}{k n:Int}{P:List Nat}(hk:k=1→P=[]) {i:Nat}(hi:i∈P):Pt (gnode G k n P).1 i:=by
 by_cases h1:k=1
 ·rw [hk h1] at hi
  cases hi
 ·unfold gnode
  rw [if_neg h1]
  exact ⟨G.length,(k,n,1+gsum G P,P),by simp,h1,hi⟩
theorem gadd_ext (F:Fo) (G:List Gn):∃Y,(gadd G F).1=G++Y:=by
 obtain ⟨Y,h,_⟩:=gadd_nf F G
 exact ⟨Y,h⟩
theorem gadd_cov (F:Fo):∀G,Vok F→∀i,i<(gadd G F).1.length→i<G.length∨i∈(gadd G F).2∨Pt (gadd G F).1 i:=by
 induction F with
 | nil=>intro G _ i hi;rw [gadd_nil] at hi;exact .inl hi
 | cons k n u ps r i1 i2=>
  rintro G ⟨hk,hp,hr⟩ i hi
  rw [gadd_cons] at hi ⊢
  dsimp only at hi ⊢
  obtain ⟨Y,hY⟩:=gadd_ext r (gadd1 G k n ps).1
  rcases i2 _ hr i hi with h|h|h
  ·rw [gadd1_eq] at h
   rcases gnode_cov h with h|h
   ·rcases i1 G hp i h with h|h|h
    ·exact .inl h
    ·right;right
     rw [hY,gadd1_eq]
     refine (gnode_part (fun e=>?_) h).app
     rw [hk e,gadd_nil]
    ·right;right
     obtain ⟨Z,hZ⟩:=gnode_ext (gadd G ps).1 k n (gadd G ps).2
     rw [hY,gadd1_eq,hZ]
     exact h.app.app
   ·right;left
    rw [←gadd1_eq] at h
    exact h ▸ List.mem_cons_self
  ·exact .inr (.inl (List.mem_cons_of_mem _ h))
  ·exact .inr (.inr h)
theorem gadd1_cov {G:List Gn}(t:Ty1) (hv:Vok (tOne t)) {i:Nat}(hi:i<(gadd1 G t.1 t.2.1 t.2.2.2).1.length):i<G.length∨i=(gadd1 G t.1 t.2.1 t.2.2.2).2∨Pt (gadd1 G t.1 t.2.1 t.2.2.2).1 i:=by
 have h:=gadd_cov (tOne t) G hv i
 unfold tOne at h
 rw [gadd_cons,gadd_nil] at h
 simpa using h hi
theorem fold_cov (L:List Eqn):∀s:Sys,(∀x∈L,Vok (tOne x.1)∧Vok (tOne x.2.1))→∀i,i<(L.foldl stp s).1.length→i<s.1.length∨(∃a b,(a,b)∈(L.foldl stp s).2∧(i=a∨i=b))∨Pt (L.foldl stp s).1 i:=by
 induction L with
 | nil=>intro s _ i hi;exact .inl hi
 | cons x L ih=>
  intro s hv i hi
  obtain ⟨Y,Z,h1,h2,_⟩:=fold_nodes L (stp s x)
  obtain ⟨Y2,e2,_⟩:=gadd1_nf (gadd1 s.1 x.1.1 x.1.2.1 x.1.2.2.2).1 x.2.1
  have hs1:(stp s x).1=(gadd1 (gadd1 s.1 x.1.1 x.1.2.1 x.1.2.2.2).1 x.2.1.1 x.2.1.2.1 x.2.1.2.2.2).1:=rfl
  have hs2:(stp s x).2=s.2 ++ [((gadd1 s.1 x.1.1 x.1.2.1 x.1.2.2.2).2,(gadd1 (gadd1 s.1 x.1.1 x.1.2.1 x.1.2.2.2).1 x.2.1.1 x.2.1.2.1 x.2.1.2.2.2).2)]:=rfl
  have hx:=hv x List.mem_cons_self
  rw [List.foldl_cons] at hi ⊢
  have hpair:((gadd1 s.1 x.1.1 x.1.2.1 x.1.2.2.2).2,(gadd1 (gadd1 s.1 x.1.1 x.1.2.1 x.1.2.2.2).1 x.2.1.1 x.2.1.2.1 x.2.1.2.2.2).2)∈(L.foldl stp (stp s x)).2:=by rw [h2,hs2];simp
  rcases ih (stp s x) (fun y hy=>hv y (List.mem_cons_of_mem _ hy)) i hi with h|h|h
  ·rw [hs1] at h
   rcases gadd1_cov x.2.1 hx.2 h with h|h|h
   ·rcases gadd1_cov x.1 hx.1 h with h|h|h
    ·exact .inl h
    ·exact .inr (.inl ⟨_,_,hpair,.inl h⟩)
    ·right;right
     rw [h1,hs1,e2]
     exact h.app.app
   ·exact .inr (.inl ⟨_,_,hpair,.inr h⟩)
   ·right;right
    rw [h1,hs1]
    exact h.app
  ·exact .inr (.inl h)
  ·exact .inr (.inr h)
theorem nodes_size {G:List Gn}(hl:GL G) {R:Nat→Prop}(hc:∀i,i<G.length→R i∨Pt G i) (s:Int→Tp) (N:Nat) (hr:∀i,i<G.length→R i→tsz (valG s G i)≤N):∀m i,G.length-i≤m→i<G.length→tsz (valG s G i)≤N:=by
 intro m
 induction m with
 | zero=>intro i h1 h2;omega
 | succ m ih=>
  intro i h1 h2
  rcases hc i h2 with h|⟨j,p,hp,p1,hi⟩
  ·exact hr i h2 h
  ·have hij:=hl j p hp i hi
   have h3:=ih j (by omega) (lt_of_get hp)
   rw [valG_node s hl hp p1] at h3
   have h4:=tpRow_size (p.2.2.2.map (valG s G)) _ (List.mem_map.2 ⟨i,hi,rfl⟩)
   unfold tsz at h3
   dsimp only at h3
   omega
def Bd (s:Int→Tp) (L:List Eqn) (N:Nat):Prop:=∀x∈L,(sb s (tOne x.1)).size≤N∧(sb s (tOne x.2.1)).size≤N
theorem row_one (t:Tp):(tpRow [t]).size=tsz t:=by
 unfold tsz
 simp only [tpRow,Fo.size]
 omega
theorem nf_lt {G:List Gn}{t:Ty1}{a:Nat}(h:Nf G (tOne t) [a]):a<G.length:=by
 obtain ⟨b,P,e,h1,_⟩:=h
 obtain ⟨rfl,rfl⟩:a=b∧[]=P:=by simpa using e
 by_cases hk:t.1=1
 ·rw [if_pos hk] at h1
  exact gvar_lt h1
 ·rw [if_neg hk] at h1
  obtain ⟨p,h3,_⟩:=h1
  exact lt_of_get h3
theorem bd_nodes {L:List Eqn}{s:Int→Tp}{N:Nat}(hl:GL (cls L).1) (hv:∀x∈L,Vok (tOne x.1)∧Vok (tOne x.2.1)) (hz:∀x∈L,nz (tOne x.1)∧nz (tOne x.2.1)) (hb:Bd s L N):∀i,i<(cls L).1.length→tsz (valG s (cls L).1 i)≤N:=by
 intro i hi
 refine nodes_size hl (R:=fun i=>∃a b,(a,b)∈(cls L).2∧(i=a∨i=b)) (fun i hi=>?_) s N (fun i hi h=>?_) _ i (Nat.le_refl _) hi
 ·rcases fold_cov L ([],[]) hv i hi with h|h|h
  ·exact absurd h (Nat.not_lt_zero _)
  ·exact .inl h
  ·exact .inr h
 ·obtain ⟨a,b,hab,h⟩:=h
  rcases fold_pairs L ([],[]) a b hab with h0|⟨x,hx,h1,h2⟩
  ·cases h0
  ·have e1:=sb_val s hl (fun v i h=>var_node h) _ _ h1 (hz x hx).1
   have e2:=sb_val s hl (fun v i h=>var_node h) _ _ h2 (hz x hx).2
   obtain ⟨b1,b2⟩:=hb x hx
   rw [e1] at b1
   rw [e2] at b2
   simp only [List.map_cons,List.map_nil,row_one] at b1 b2
   rcases h with rfl|rfl
   ·exact b1
   ·exact b2
theorem nodes_bd {L:List Eqn}{s:Int→Tp}{N:Nat}(hl:GL (cls L).1) (hz:∀x∈L,nz (tOne x.1)∧nz (tOne x.2.1)) (h:∀i,i<(cls L).1.length→tsz (valG s (cls L).1 i)≤N):Bd s L N:=by
 intro x hx
 obtain ⟨a,b,_,h1,h2⟩:=cls_nodes L x hx
 rw [sb_val s hl (fun v i h=>var_node h) _ _ h1 (hz x hx).1,sb_val s hl (fun v i h=>var_node h) _ _ h2 (hz x hx).2]
 simp only [List.map_cons,List.map_nil,row_one]
 exact ⟨h a (nf_lt h1),h b (nf_lt h2)⟩
end
section
open Go.RowKit
def BndOk (B:Nat) (w:World) (v:Value) (P:List Pb):Prop:=∃lb:List Bnd,w.ownsRow B 44 4 v lb.length (bds lb)∧BnM B w lb P
theorem bndL_same {G H:List Gn}{ro ro':Nat→Nat}{V W:List Int}(hf:∀v,mnV_ G ro v=mnV_ H ro' v) (hV:V=W):bndL G ro V=bndL H ro' W:=by
 subst hV
 unfold bndL
 congr 1
 funext v
 unfold bnd1
 rw [hf v]
structure Alk (l D:List Eqn):Prop where
 rt:(∀y∈l,rtE y=true)↔(∀y∈D,rtE y=true)
 cl:(∀y∈l,rtE y=true)→(Clash (cls l).1 (cls l).2↔Clash (cls D).1 (cls D).2)
 nl:(∀y∈l,rtE y=true)→∀x∈l,nz (tOne x.1)∧nz (tOne x.2.1)
 nD:(∀y∈l,rtE y=true)→∀x∈D,nz (tOne x.1)∧nz (tOne x.2.1)
 slv:(∀y∈l,rtE y=true)→Slv l=Slv D
 vs:(∀y∈l,rtE y=true)→vsort (cls l).1=vsort (cls D).1
theorem sol_same {w w' u u':World}{l D:List Eqn}{most:Int}{x y:Go.Ending}(h:SolPost w l most x w') (k:SolPost u D most y u') (e:Alk l D):
  ∃(v v':Value) (r:Int),x = .returned (.tuple #[v,.int .i64 r])∧y = .returned (.tuple #[v',.int .i64 r])∧(v = .slice none 0 0∧v' = .slice none 0 0∨∃P:List Pb,BndOk w.heap.size w' v P∧BndOk u.heap.size u' v' P∧(∀p∈P,tsz p.2≤1000000)∧P.length≤(cls l).1.length):=by
 obtain ⟨v,r,rfl,_,h⟩:=h
 obtain ⟨v',r',rfl,_,k⟩:=k
 rcases h with ⟨⟨y,hy,hy2⟩,rfl,rfl⟩|⟨hr,h⟩
 ·rcases k with ⟨_,rfl,rfl⟩|⟨hr',_⟩
  ·exact ⟨_,_,1,rfl,rfl,.inl ⟨rfl,rfl⟩⟩
  ·have:=e.rt.2 hr' y hy
   rw [hy2] at this
   cases this
 ·have hr':=e.rt.1 hr
  have hcl:=e.cl hr
  have hslv:=e.slv hr
  rcases k with ⟨⟨y,hy,hy2⟩,_⟩|⟨_,k⟩
  ·have:=hr' y hy
   rw [hy2] at this
   cases this
  ·rcases h with ⟨rfl,rfl,hc⟩|⟨rfl,rfl,hc,hf⟩|⟨hc,hf,ro,hcan,hsz,h⟩
   ·rcases k with ⟨rfl,rfl,_⟩|⟨_,_,kc,_⟩|⟨kc,_⟩
    ·exact ⟨_,_,7,rfl,rfl,.inl ⟨rfl,rfl⟩⟩
    ·exact absurd (hcl.1 hc) kc
    ·exact absurd (hcl.1 hc) kc
   ·rcases k with ⟨_,_,kc⟩|⟨rfl,rfl,_⟩|⟨_,_,ro',kcan,_⟩
    ·exact absurd (hcl.2 kc) hc
    ·exact ⟨_,_,8,rfl,rfl,.inl ⟨rfl,rfl⟩⟩
    ·exact absurd (slv_fin (cls_gl l) (e.nl hr) (by rw [hslv];exact kcan.solves)) hf
   ·rcases k with ⟨_,_,kc⟩|⟨_,_,_,kf⟩|⟨kc,kf,ro',kcan,ksz,k⟩
    ·exact absurd (hcl.2 kc) hc
    ·exact absurd (slv_fin (cls_gl D) (e.nD hr) (by rw [←hslv];exact hcan.solves)) kf
    ·rw [←e.slv hr] at kcan
     have hP:=bndL_same (fun v=>hcan.one kcan v) (e.vs hr)
     rw [←hP] at k
     rcases h with ⟨rfl,rfl,p,hp,hlt⟩|⟨rfl,hle,lb,ho,hM⟩
     ·rcases k with ⟨rfl,rfl,_⟩|⟨_,kle,_⟩
      ·exact ⟨_,_,6,rfl,rfl,.inl ⟨rfl,rfl⟩⟩
      ·have:=kle p hp
       omega
     ·rcases k with ⟨_,_,p,hp,hlt⟩|⟨rfl,_,lb',ko,kM⟩
      ·have:=hle p hp
       omega
      ·refine ⟨_,_,0,rfl,rfl,.inr ⟨_,⟨lb,ho,hM⟩,⟨lb',ko,kM⟩,fun p hp=>?_,Nat.le_trans (bndL_len _ _ _) (vsort_le_ _)⟩⟩
       unfold bndL at hp
       obtain ⟨a,_,ha⟩:=List.mem_filterMap.1 hp
       unfold bnd1 at ha
       split at ha
       ·cases ha
       ·cases ha
        exact hsz a
def un1 (x:Eqn):Eqn:=(x.1,x.2.1,(0,0))
theorem cls_un (m:List Eqn):cls (m.map un1)=cls m:=by
 unfold cls
 rw [List.foldl_map]
 rfl
def Tw (x y:Eqn):Prop:=un1 x=un1 y∨un1 x=flipE (un1 y)
theorem Tw.rt {x y:Eqn}(h:Tw x y):rtE x=rtE y:=by
 have e:∀x:Eqn,rtE (un1 x)=rtE x:=fun _=>rfl
 rw [←e x]
 rcases h with h|h
 ·rw [h];rfl
 ·rw [h];exact Bool.and_comm _ _
theorem Tw.both {x y:Eqn}(h:Tw x y) {P:Ty1→Prop}(k:P y.1∧P y.2.1):P x.1∧P x.2.1:=by
 obtain ⟨x1,x2,_⟩:=x
 obtain ⟨y1,y2,_⟩:=y
 rcases h with h|h
 ·simp only [un1,Prod.mk.injEq] at h
  obtain ⟨rfl,rfl,_⟩:=h
  exact k
 ·simp only [un1,flipE,Prod.mk.injEq] at h
  obtain ⟨rfl,rfl,_⟩:=h
  exact ⟨k.2,k.1⟩
theorem Tw.slv {x y:Eqn}(h:Tw x y) {s:Int→Tp}(k:sb s (tOne y.1)=sb s (tOne y.2.1)):sb s (tOne x.1)=sb s (tOne x.2.1):=by
 obtain ⟨x1,x2,_⟩:=x
 obtain ⟨y1,y2,_⟩:=y
 rcases h with h|h
 ·simp only [un1,Prod.mk.injEq] at h
  obtain ⟨rfl,rfl,_⟩:=h
  exact k
 ·simp only [un1,flipE,Prod.mk.injEq] at h
  obtain ⟨rfl,rfl,_⟩:=h
  exact k.symm
theorem alk_of {l D:List Eqn}(hk:(∀y∈l,rtE y=true)→(∀x∈l,Eok x)∧GN (cls l).1∧GN (cls D).1∧(∀x∈l,nz (tOne x.1)∧nz (tOne x.2.1)))
  (hD:∀x∈D,∃y∈l,Tw x y) (hlD:∀y∈l,∃x∈D,un1 x=flipE (un1 y)):Alk l D:=by
 have hTw:∀y∈l,∃x∈D,Tw y x:=fun y hy=>by
  obtain ⟨x,hx,e⟩:=hlD y hy
  exact ⟨x,hx,.inr (by rw [e];rfl)⟩
 have hSim:(∀x∈l,Eok x)→Sim (cls l) (cls D)∧Sim (cls D) (cls l):=fun h=>by
  have h1:=order_sim (L:=l.map un1) (D:=D.map un1) (fun x hx=>by
   obtain ⟨y,hy,rfl⟩:=List.mem_map.1 hx
   exact h y hy) (fun x hx=>by
   obtain ⟨z,hz,rfl⟩:=List.mem_map.1 hx
   obtain ⟨y,hy,e⟩:=hD z hz
   exact ⟨un1 y,List.mem_map.2 ⟨y,hy,rfl⟩,e⟩) fun x hx=>by
   obtain ⟨y,hy,rfl⟩:=List.mem_map.1 hx
   obtain ⟨z,hz,e⟩:=hlD y hy
   exact List.mem_map.2 ⟨z,hz,e⟩
  rwa [cls_un,cls_un] at h1
 refine ⟨⟨fun h y hy=>?_,fun h y hy=>?_⟩,fun hr=>?_,fun hr=>(hk hr).2.2.2,fun hr x hx=>?_,fun _=>?_,fun hr=>?_⟩
 ·obtain ⟨z,hz,e⟩:=hD y hy
  rw [e.rt]
  exact h z hz
 ·obtain ⟨z,hz,e⟩:=hTw y hy
  rw [e.rt]
  exact h z hz
 ·obtain ⟨h1,h2⟩:=hSim (hk hr).1
  exact ⟨h1.clash,h2.clash⟩
 ·obtain ⟨y,hy,e⟩:=hD x hx
  exact e.both (P:=fun t=>nz (tOne t)) ((hk hr).2.2.2 y hy)
 ·funext s
  refine propext ⟨fun h x hx=>?_,fun h y hy=>?_⟩
  ·obtain ⟨y,hy,e⟩:=hD x hx
   exact e.slv (h y hy)
  ·obtain ⟨x,hx,e⟩:=hTw y hy
   exact e.slv (h x hx)
 ·obtain ⟨h1,h2⟩:=hSim (hk hr).1
  obtain ⟨_,g1,g2,_⟩:=hk hr
  exact sim_vars g1 g2 h1.var h2.var
theorem bd_of {l D:List Eqn}{s:Int→Tp}{N:Nat}(h:Bd s l N) (hD:∀x∈D,∃y∈l,Tw x y):Bd s D N:=fun x hx=>by
 obtain ⟨y,hy,e⟩:=hD x hx
 exact e.both (P:=fun t=>(sb s (tOne t)).size≤N) (h y hy)
end
section
open Go.RowKit Go.Shelf
open Un (Else StM rowI UFo own_else dg swp wp_world paint cnt Rings)
attribute [local go_sem ↓] builtin_app
set_option maxRecDepth 100000
theorem eqC_one (x:Eqn):∀y∈eqC x,y.oneCell'=true:=by
 intro y hy
 simp only [eqC,slv,List.mem_cons,List.not_mem_nil,or_false] at hy
 rcases hy with rfl|rfl|rfl|rfl|rfl|rfl|rfl|rfl<;>rfl
theorem app_eqs (W:World) (v:Value) (l:List Eqn) (base:Nat) (hb:base≤W.heap.size) (hown:W.ownsRow base 59 8 v l.length (eqR l)) (vx:Value) (m:List Eqn) (rd:Rd W 8 vx m.length (eqR m)) (hm:l.length+m.length≤100000):
  ∃A cp w1,(app_ #[22,22] 22 #[v,vx]).run Tryz.prog W = .ok (.slice A (l++m).length cp) w1∧w1.ownsRow base 59 8 (.slice A (l++m).length cp) (l++m).length (eqR (l++m))∧W.grownBy w1 v.ownBlock:=by
 obtain ⟨i0,hi0,hz0,hz1,hz2⟩:=Un.info_parts eqInfo
 obtain ⟨v',w1,hrun,hown1,hg1,hat⟩:=run_append_rd (P:=Tryz.prog) W base 22 22 59 i0 _ 8 96 Tryz.underlying22 hi0 hz0 hz1 hz2 rfl (by omega) v l.length (eqR l) hown vx m.length _ rd (by intro y hy;obtain ⟨x,_,hx⟩:=List.mem_flatMap.1 hy;exact eqC_one x y hx) (by unfold maxLen;omega) (by omega) hb
 rw [←eqR_app] at hown1
 rw [←List.length_append] at hown1
 obtain ⟨A,cp,rfl,_,_⟩:=Un.own_form hown1
 exact ⟨A,cp,w1,hrun,hown1,hg1⟩
theorem EqT.later {w w':World}{x:Eqn}(h:EqT w.heap.size w x) (hb:Below w.heap.size w w'):EqT w'.heap.size w' x:=h.keep hb.size fun b off hlt=>hb.cell (p:=⟨b,off,none⟩) hlt
end
section
open Go.RowKit
open Un (Else own_else wp_world RdB)
set_option maxRecDepth 100000
theorem BndOk.read {B:Nat}{w:World}{v:Value}{P:List Pb}(h:BndOk B w v P):∃L:List Bnd,BdV w.heap.size w L v∧L.map pb=P:=by
 obtain ⟨lb,hown,hm,hf⟩:=h
 have key:∀lb:List Bnd,(∀x∈lb,FreshT 25 B w idn x.2.2.2.2 x.2.2.2.1)→∃L':List Bnd,bds L'=bds lb∧L'.length=lb.length∧L'.map pb=lb.map pb∧∀x∈L',TyV w.heap.size w x.2.2.2.2 (slv x.2.2.2.1):=by
  intro lb
  induction lb with
  | nil=>intro _;exact ⟨[],rfl,rfl,rfl,fun x hx=>by cases hx⟩
  | cons c lb ih=>
   intro hf
   obtain ⟨L',e1,e2,e3,e4⟩:=ih fun x hx=>hf x (List.mem_cons_of_mem _ hx)
   obtain ⟨g,hg,ht⟩:=(hf c (List.mem_cons_self ..)).now
   refine ⟨(c.1,c.2.1,c.2.2.1,c.2.2.2.1,g) :: L',?_,by simp [e2],?_,fun x hx=>?_⟩
   ·simp only [bds,List.flatMap_cons] at e1 ⊢
    rw [e1];rfl
   ·simp only [List.map_cons,e3,pb,hg.pure]
   ·rcases List.mem_cons.1 hx with rfl|hx
    ·exact ht
    ·exact e4 x hx
 obtain ⟨L',e1,e2,e3,e4⟩:=key lb hf
 exact ⟨L',own_bdV (base:=B) (by rw [e1,e2];exact hown) e4,e3.trans hm⟩
theorem SmallS.mono {l:List Eqn}{N M:Nat}(h:SmallS l N) (k:N≤M):SmallS l M:=by
 obtain ⟨s,h1,h2⟩:=h
 exact ⟨s,h1,fun i hi=>Nat.le_trans (h2 i hi) k⟩
theorem small_l {l:List Eqn}{N:Nat}{B:Nat}{w:World}{v:Value}(hE:EqV B w l v) (h:(∀y∈l,rtE y=true)→¬ Clash (cls l).1 (cls l).2→FinC (cls l).1 (cls l).2→SmallS l N) (hr:∀y∈l,rtE y=true) (hs:∃s,Slv l s):SmallS l N:=by
 obtain ⟨s,hs⟩:=hs
 exact h hr (slv_noclash (cls_gl l) (nz_all hE hr) hs) (slv_fin (cls_gl l) (nz_all hE hr) hs)
theorem small_D {l D:List Eqn}{N:Nat}(h:SmallS l N) (hz:∀x∈l,nz (tOne x.1)∧nz (tOne x.2.1)) (hzD:∀x∈D,nz (tOne x.1)∧nz (tOne x.2.1)) (hk:∀x∈D,Eok x) (hD:∀x∈D,∃y∈l,Tw x y) (hs:Slv l=Slv D):SmallS D N:=by
 obtain ⟨s,h1,h2⟩:=h
 refine ⟨s,by rw [←hs];exact h1,bd_nodes (cls_gl D) (fun x hx=>⟨(hk x hx).1.1,(hk x hx).2.1⟩) hzD (bd_of (nodes_bd (cls_gl l) hz h2) hD)⟩
theorem app_first (W:World) (v0:Value) (base:Nat) (hb:base≤W.heap.size) (own0:W.ownsRow base 59 8 v0 0 []) (vE:Value) (E:List Eqn) (rd:Rd W 8 vE E.length (eqR E)) (hE:E.length≤1000):
  ∃A cp w1,(app_ #[22,22] 22 #[v0,vE]).run Tryz.prog W = .ok (.slice A E.length cp) w1∧w1.ownsRow base 59 8 (.slice A E.length cp) E.length (eqR E)∧W.grownBy w1 v0.ownBlock:=
 app_eqs W v0 [] base hb own0 vE E rd (by simp;omega)
theorem app_second (W:World) (v:Value) (E:List Eqn) (base:Nat) (hb:base≤W.heap.size) (own:W.ownsRow base 59 8 v E.length (eqR E)) (vx:Value) (x:Eqn) (rd:Rd W 8 vx 1 (eqC x)) (hE:E.length≤1000):
  ∃A cp w1,(app_ #[22,22] 22 #[v,vx]).run Tryz.prog W = .ok (.slice A (E.length+1) cp) w1∧w1.ownsRow base 59 8 (.slice A (E.length+1) cp) (E ++ [x]).length (eqR (E ++ [x]))∧W.grownBy w1 v.ownBlock:=by
 obtain ⟨A,cp,w1,h1,h2,h3⟩:=app_eqs W v E base hb own vx [x] (by simpa [eqR] using rd) (by simp;omega)
 rw [show (E ++ [x]).length=E.length+1 by simp] at h1 h2 ⊢
 exact ⟨A,cp,w1,h1,h2,h3⟩
theorem EqV.tyAll {B:Nat}{w:World}{l:List Eqn}{v:Value}(h:EqV B w l v):∀x∈l,EqT B w x:=fun x hx=>by
 obtain ⟨i,hi,rfl⟩:=List.mem_iff_getElem.1 hx
 exact h.ty i hi
theorem pb_small {x:Bnd}{N:Nat}(h:tsz (pb x).2≤N):x.2.2.2.2.size≤N:=by
 unfold tsz pb at h
 dsimp only at h
 rw [Fo.pure_size] at h
 omega
end
section
open Go.RowKit
open Un (Else dg cnt own_else RdB wp_world)
set_option maxRecDepth 100000
structure Had (L D:List Eqn) (m:Nat):Prop where
 of:∀x∈D,∃y∈L,x=y∨x=flipE y
 sz:esz D≤m
end
end Go.Proofs.YtmamdiggjghjkaaGreatDoor
