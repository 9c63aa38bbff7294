/- Texts of one proof, one behind the other. -/
import Derived.Test.YtgjlmjlfghodmaaGreatDoorMgSolveSat1
import Derived.Test.YtgjlmjlfghodmaaGreatDoorMgSolveSat26
import Derived.Test.YtgjlmjlfghodmaaGreatDoorMgSolveSat24
import Derived.Test.YtgjlmjlfghodmaaGreatDoorMgSolveSat31
import Derived.Test.YtgjlmjlfghodmaaGreatDoorMgSolveSat25a
import Derived.Test.YtgjlmjlfghodmaaGreatDoorMgSolveSat2
import Derived.Test.YtgjlmjlfghodmaaGreatDoorMgSolveSat5
import Derived.Test.YtgjlmjlfghodmaaGreatDoorRows
import Derived.Test.YtgjlmjlfghodmaaGreatDoorTie
import Derived.Test.YtgjlmjlfghodmaaGreatDoorCards
import Derived.ProofKit
import Derived.LaidMore
import Derived.OpenShut
import Derived.Stop.Joined
import Derived.Lib.LaidTab
import Derived.SevenTiedAt
set_option linter.unusedVariables false
namespace Go.Proofs.YtgjlmjlfghodmaaGreatDoor
open Go.RowKit
open Un (rowI rowI_get Else own_else wp_world)
attribute [local go_sem] Oper.semAt_some
set_option maxRecDepth 100000
section CyXs
variable {D:Nat→Prop}{B:Nat}{w w':World}{vm vs:Value}{M:List Rm}{G:List Gn}{cc:Nat→Nat}{i:Nat}{col ro:Nat→Nat}{kn:Kn}{E:List (Nat×Nat)}
set_option maxHeartbeats 4000000 in
theorem loop_any (hB:Both G col ro kn E cc) (hg:Gp G) (h:An3 D B w vm vs M G cc) (hl:G.length≤10000) (hi:i<G.length):
  Calls Tryz.prog 83 #[.agg #[vm,vs],.int .i64 (i:Nat)] w fun x w'=>(∃b:Bool,x = .returned (.bool b)∧(b=true↔Cp G cc (cc i) (cc i)))∧Below w.heap.size w w':=by
 have hlen:=h.len
 obtain ⟨Am,cm,rfl⟩:=h.row.form
 obtain ⟨As,cs,rfl,_,_⟩:=Un.own_form h.col
 obtain ⟨Q,hQ⟩:∃Q,M.length=Q:=⟨_,rfl⟩
 rw [hQ] at h hlen ⊢
 obtain ⟨w0,hw0⟩:∃w0,w.alloc (.cells #[.slice Am Q cm,.slice As Q cs] 76)=w0:=⟨_,rfl⟩
 have hb0:Below w.heap.size w w0:=by rw [←hw0];exact (Below.refl _ _).alloc (Nat.le_refl _) _
 have hx0:w0.heap[w.heap.size]? = some (.cells #[.slice Am Q cm,.slice As Q cs] 76):=by rw [←hw0];exact heap_alloc_new _ _
 have HCM:=kI (comes_any hB hg (h.below hb0) hl hi)
 have x0:w0.cell? ⟨w.heap.size,0,none⟩=some (.slice Am Q cm):=cell_of_row w0 _ 0 _ _ (0,0) hx0
 have x1:w0.cell? ⟨w.heap.size,1,none⟩=some (.slice As Q cs):=cell_of_row w0 _ 1 _ _ (0,0) hx0
 have hcol:w0.ownsRow B 3 1 (.slice As Q cs) Q (rowI Q cc):=by have h1:=(h.below hb0).col;rw [hQ] at h1;exact h1
 have hiQ:i<Q:=by omega
 have H:=kI (aI hb0 (aI hx0 hcol))
 have HW0:=kI hw0
 clear h hb0 hx0 hlen hw0 hB hg hQ hcol hi
 go_enter Tryz.func83,Tryz.ntmps83
 go_upto_region 1 with fail
 rw [HW0.out]
 go_wp2_with fail
 refine HCM.out.mono ?_
 clear HCM
 rintro x w1 ⟨v1,C,rfl,ho1,hC,hCl,hb1⟩
 obtain ⟨A1,c1,rfl,_,_⟩:=Un.own_form ho1
 obtain ⟨q,hq⟩:∃q,C.length=q:=⟨_,rfl⟩
 rw [hq] at ho1 hCl ⊢
 obtain ⟨bs,cs_,hsh,_,hbsl⟩:=Un.own_shape H.out.2.2 (by omega)
 injection hsh with hA1 hA2 hcc1
 subst hA1
 clear hA2 hcc1
 have FX:Hid (∀W,Below w1.heap.size w1 W→W.cell? ⟨bs,i,none⟩=some (.int .i64 (cc i:Nat))∧W.cell? ⟨w.heap.size,1,none⟩=some (.slice (some ⟨bs,0,none⟩) Q cs)):=kI fun W hW=>by
  have hb:=hb1.trans (hW.mono hb1.size)
  have hx:=(hb.block _ (gL H.out.2.1).1).trans H.out.2.1
  exact ⟨(hb.cell (p:=⟨bs,i,none⟩) hbsl).trans ((H.out.2.2.cellAt i (by omega)).trans (rowI_get hiQ)),cell_of_row W _ 1 _ _ (0,0) hx⟩
 have H1:=kI (aI ho1 (aI hC (aI hb1 hq)))
 clear ho1 hC hb1 hq hbsl x0 x1
 go_wp2_with fail
 go_loopg [6] q (fun nn s wr=>∃k:Nat,s = .int .i64 (k:Nat)∧k≤q∧q≤k+nn∧cc i ∉ C.take k∧Below w1.heap.size w1 wr)
 case atStart=>exact ⟨0,rfl,Nat.zero_le _,by omega,by simp,Below.refl _ _⟩
 case round=>
  obtain ⟨k,rfl,hk,hkn,hno,hb⟩:=hrel
  obtain ⟨y1,y2⟩:=FX.out wr hb
  have HI:=kI (aI hkn (aI hno hb))
  have hbt:Below w.heap.size w wr:=H.out.1.trans ((H1.out.2.2.1.trans (hb.mono H1.out.2.2.1.size)).mono H.out.1.size)
  have HBT:=kI hbt
  clear hkn hno hb hbt
  by_cases hkl:k<q
  ·have g1:decide ((k:Int)<(q:Int))=true:=decide_eq_true (by omega)
   have g2:decide (k<q)=true:=decide_eq_true hkl
   obtain ⟨d,hd⟩:∃d,C[k]? = some d:=⟨_,List.getElem?_eq_getElem (by rw [H1.out.2.2.2];exact hkl)⟩
   obtain ⟨bo,co_,hsh2,_,hbo⟩:=Un.own_shape H1.out.1 (by omega)
   injection hsh2 with e1 e2 e3
   subst e1
   clear e2 e3
   have y0:wr.cell? ⟨bo,k,none⟩=some (.int .i64 (d:Nat)):=(HI.out.2.2.cell (p:=⟨bo,k,none⟩) hbo).trans ((H1.out.1.cellAt k (by rw [Nat.mul_one];exact hkl)).trans (nums_get hd))
   have HK:=kI (aI hd hkl)
   clear hd hbo
   by_cases hdn:d=cc i
   ·have g3:((d:Int) == (cc i:Int))=true:=by rw [hdn];simp
    have g4:(d == cc i)=true:=by rw [hdn];simp
    have HDN:=kI hdn
    clear hdn
    go_wp2_with fail
    go_quiet (fail)
    go_wp2_with fail
    go_ret
    exact ⟨⟨true,rfl,⟨(fun _=>(H1.out.2.1 _).1 (by rw [←HDN.out];exact List.mem_of_getElem? HK.out.1)),(fun _=>rfl)⟩⟩,below_drewN HBT.out _⟩
   ·have g3:((d:Int) == (cc i:Int))=false:=by simp;omega
    have g4:(d == cc i)=false:=by simpa using hdn
    have HDN:=kI hdn
    clear hdn
    go_wp2_with fail
    go_quiet (fail)
    go_wp2_with fail
    go_roundg (q-(k+1))
    case rel=>exact ⟨k+1,by go_num,HK.out.2,by omega,by rw [List.take_add_one,HK.out.1];simp only [Option.toList_some,List.mem_append,List.mem_singleton];exact fun h=>h.elim HI.out.2.1 fun h=>HDN.out h.symm,below_drewN HI.out.2.2 _⟩
    case measure=>have h1:=HI.out.1;have h2:=HK.out.2;omega
  ·have g1:decide ((k:Int)<(q:Int))=false:=decide_eq_false (by omega)
   have g2:decide (k<q)=false:=decide_eq_false hkl
   have hke:C.take k=C:=List.take_of_length_le (by have:=H1.out.2.2.2;omega)
   have HKE:=kI hke
   clear hke
   go_wp2_with fail
   go_ret
   exact ⟨⟨false,rfl,⟨(fun h=>by cases h),(fun h=>absurd ((H1.out.2.1 _).2 h) (by have:=HI.out.2.1;rw [HKE.out] at this;exact this))⟩⟩,HBT.out⟩
set_option maxHeartbeats 4000000 in
theorem finite3_any (hB:Both G col ro kn E cc) (hg:Gp G) (h:An3 D B w vm vs M G cc) (hl:G.length≤10000):
  Calls Tryz.prog 44 #[.agg #[vm,vs]] w fun x w'=>(∃b:Bool,x = .returned (.bool b)∧(b=true↔∀i,i<G.length→¬ Cp G cc (cc i) (cc i)))∧Below w.heap.size w w':=by
 have hlen:=h.len
 obtain ⟨Am,cm,rfl⟩:=h.row.form
 obtain ⟨As,cs,rfl,_,_⟩:=Un.own_form h.col
 obtain ⟨Q,hQ⟩:∃Q,M.length=Q:=⟨_,rfl⟩
 rw [hQ] at h hlen ⊢
 obtain ⟨w0,hw0⟩:∃w0,w.alloc (.cells #[.slice Am Q cm,.slice As Q cs] 76)=w0:=⟨_,rfl⟩
 have hb0:Below w.heap.size w w0:=by rw [←hw0];exact (Below.refl _ _).alloc (Nat.le_refl _) _
 have hx0:w0.heap[w.heap.size]? = some (.cells #[.slice Am Q cm,.slice As Q cs] 76):=by rw [←hw0];exact heap_alloc_new _ _
 have hQ5:Q≤10000:=by omega
 have H:=kI (aI hb0 (aI hx0 (aI (h.below hb0) (aI hlen (aI hl (aI hB hg))))))
 have HW0:=kI hw0
 clear h hb0 hx0 hlen hw0 hl hB hg hQ
 go_enter Tryz.func44,Tryz.ntmps44
 go_upto_region 1 with fail
 rw [HW0.out]
 go_wp2_with fail
 go_loopg [3] Q (fun nn s wr=>∃k:Nat,s = .int .i64 (k:Nat)∧k≤Q∧Q≤k+nn∧(∀i,i<k→¬ Cp G cc (cc i) (cc i))∧Below w0.heap.size w0 wr)
 case atStart=>exact ⟨0,rfl,Nat.zero_le _,by omega,fun i hi=>by omega,Below.refl _ _⟩
 case round=>
  obtain ⟨k,rfl,hk,hkn,hno,hb⟩:=hrel
  have hx:=(hb.block _ (gL H.out.2.1).1).trans H.out.2.1
  have y0:wr.cell? ⟨w.heap.size,0,none⟩=some (.slice Am Q cm):=cell_of_row wr _ 0 _ _ (0,0) hx
  have y1:wr.cell? ⟨w.heap.size,1,none⟩=some (.slice As Q cs):=cell_of_row wr _ 1 _ _ (0,0) hx
  have HI:=kI (aI hkn (aI hno hb))
  have hbt:Below w.heap.size w wr:=H.out.1.trans (hb.mono H.out.1.size)
  have HBT:=kI hbt
  clear hkn hno hb hbt hx
  by_cases hkl:k<Q
  ·have g1:decide ((k:Int)<(Q:Int))=true:=decide_eq_true (by omega)
   have g2:decide (k<Q)=true:=decide_eq_true hkl
   have HLP:=kI (loop_any H.out.2.2.2.2.2.1 H.out.2.2.2.2.2.2 (H.out.2.2.1.below HI.out.2.2) H.out.2.2.2.2.1 (i:=k) (by have:=H.out.2.2.2.1;omega))
   have HK:=kI hkl
   go_wp2_with fail
   refine HLP.out.mono ?_
   clear HLP
   rintro x w2 ⟨⟨b,rfl,hb⟩,hb2⟩
   have H2:=kI (aI hb hb2)
   clear hb hb2
   cases b with
   | true=>
    go_wp2_with fail
    go_ret
    exact ⟨⟨false,rfl,⟨(fun h=>by cases h),(fun h=>absurd (H2.out.1.1 (by trivial)) (h k (by have:=H.out.2.2.2.1;have:=HK.out;omega)))⟩⟩,HBT.out.trans (H2.out.2.mono HBT.out.size)⟩
   | false=>
    go_wp2_with fail
    go_roundg (Q-(k+1))
    case rel=>exact ⟨k+1,by go_num,HK.out,by omega,(fun i hi=>by
     rcases Nat.lt_or_ge i k with h1|h1
     ·exact HI.out.2.1 i h1
     ·obtain rfl:i=k:=by omega
      exact fun h=>by have:=H2.out.1.2 h;cases this),HI.out.2.2.trans (H2.out.2.mono HI.out.2.2.size)⟩
    case measure=>have h1:=HI.out.1;have h2:=HK.out;omega
  ·have g1:decide ((k:Int)<(Q:Int))=false:=decide_eq_false (by omega)
   have g2:decide (k<Q)=false:=decide_eq_false hkl
   have hke:k=G.length:=by have:=H.out.2.2.2.1;omega
   have HKE:=kI hke
   clear hke
   go_wp2_with fail
   go_ret
   exact ⟨⟨true,rfl,⟨(fun _ i hi=>HI.out.2.1 i (by rw [HKE.out];exact hi)),(fun _=>rfl)⟩⟩,HBT.out⟩
end CyXs
end Go.Proofs.YtgjlmjlfghodmaaGreatDoor
namespace Go.Proofs.YtgjlmjlfghodmaaGreatDoor
open Go.RowKit
open Un (rowI rowI_get Else own_else wp_world)
attribute [local go_sem] Oper.semAt_some
set_option maxRecDepth 100000
section CyYs
variable {D:Nat→Prop}{B:Nat}{w w':World}{vm vs:Value}{M:List Rm}{G:List Gn}{cc:Nat→Nat}{i:Nat}{col ro:Nat→Nat}{kn:Kn}{E:List (Nat×Nat)}
theorem An3.of_rg {BT:Nat}(h:Rg D BT w vm M G) (hs:w.ownsRow B 3 1 vs G.length (rowI G.length cc)):An3 D B w vm vs M G cc:=
 ⟨h.1.row,fun x hx=>(h.1.nodes x hx).2,by rw [h.len];exact hs,h.rows,h.2.1⟩
theorem clash3 (h:An3 D B w vm vs M G cc) (hl:G.length≤10000) (hc:Rc G cc E) (he:∀a b,(a,b)∈E→a<G.length∧b<G.length∧cc a=cc b) (hd:ClosedC G cc):
  Calls Tryz.prog 43 #[.agg #[vm,vs]] w fun e w'=>(∃b:Bool,e = .returned (.bool b)∧(b=true↔Clash G E))∧Below w.heap.size w w':=by
 have hlen:=h.len
 rcases Nat.eq_zero_or_pos G.length with h0|h0
 ·obtain ⟨Am,cm,rfl⟩:=h.row.form
  obtain ⟨As,cs,rfl,_,_⟩:=Un.own_form h.col
  have hno:¬ Clash G E:=fun ⟨x,y,p,q,h1,h2,_⟩=>by have:=lt_of_get h2;omega
  have hM0:M.length=0:=by omega
  rw [hM0]
  obtain ⟨w0,hw0⟩:∃w0,w.alloc (.cells #[.slice Am 0 cm,.slice As 0 cs] 76)=w0:=⟨_,rfl⟩
  have hb0:Below w.heap.size w w0:=by rw [←hw0];exact (Below.refl _ _).alloc (Nat.le_refl _) _
  have hx0:w0.heap[w.heap.size]? = some (.cells #[.slice Am 0 cm,.slice As 0 cs] 76):=by rw [←hw0];exact heap_alloc_new _ _
  have x0:w0.cell? ⟨w.heap.size,0,none⟩=some (.slice Am 0 cm):=cell_of_row w0 _ 0 _ _ (0,0) hx0
  have H:=kI (aI hb0 hno)
  have HW0:=kI hw0
  clear h hc he hd hlen h0 hl hb0 hx0 hno hM0 hw0
  go_enter Tryz.func43,Tryz.ntmps43
  go_upto_region 1 with fail
  rw [HW0.out]
  go_wp2_with fail
  refine wp_loop_rounds 1 ?_
  rw [rounds_succ]
  go_wp2_with fail
  go_ret
  exact ⟨⟨false,rfl,⟨(fun h=>by cases h),(fun h=>absurd h H.out.2)⟩⟩,H.out.1⟩
 ·refine (rclash_any w M vm vs cc B h.row.1 h.lens h.col (by omega) (by omega)).mono ?_
  rintro e w' ⟨b,rfl,hb,hw⟩
  refine ⟨⟨b,rfl,hb.trans ?_⟩,hw⟩
  rw [hc.clash he hd,h.gm]
  constructor
  ·rintro ⟨x,y,hyx,p,q,h1,h2,h3⟩
   exact ⟨x,y,p,q,h1,h2,hyx,h3⟩
  ·rintro ⟨x,y,p,q,h1,h2,hyx,h3⟩
   exact ⟨x,y,hyx,p,q,h1,h2,h3⟩
variable {O:Nat→Prop}{cb b:Nat}{s:Sys}
end CyYs
end Go.Proofs.YtgjlmjlfghodmaaGreatDoor
namespace Go.Proofs.YtgjlmjlfghodmaaGreatDoor
section
variable {G:List Gn}{cc:Nat→Nat}{E:List (Nat×Nat)}
def roC (G:List Gn) (cc:Nat→Nat) (i:Nat):Nat:=((List.range G.length).find? fun j=>cc j == cc i).getD i
theorem roC_is {i:Nat}(hi:i<G.length):roC G cc i<G.length∧cc (roC G cc i)=cc i:=by
 unfold roC
 cases h:(List.range G.length).find? fun j=>cc j == cc i with
 | none=>
  have:=List.find?_eq_none.1 h i (List.mem_range.2 hi)
  simp at this
 | some j=>
  have h1:=List.mem_of_find?_eq_some h
  have h2:=List.find?_some h
  exact ⟨List.mem_range.1 h1,by simpa using h2⟩
theorem roC_one {i j:Nat}(hi:i<G.length) (hj:j<G.length) (h:cc i=cc j):roC G cc i=roC G cc j:=by
 unfold roC
 rw [h]
 cases h2:(List.range G.length).find? fun x=>cc x == cc j with
 | none=>
  have:=List.find?_eq_none.1 h2 j (List.mem_range.2 hj)
  simp at this
 | some k=>rfl
noncomputable def hdO (G:List Gn) (cc:Nat→Nat) (r:Nat):Option Nat:=
 @dite _ (∃k p,G[k]? = some p∧cc k=cc r∧p.1≠1) (Classical.propDecidable _) (fun h=>some (Classical.choose h)) fun _=>none
noncomputable def leO (G:List Gn) (cc:Nat→Nat) (r:Nat):Option Nat:=
 @dite _ (∃z q,G[z]? = some q∧q.1=1∧q.2.1=lvC G cc (cc r)∧cc z=cc r) (Classical.propDecidable _) (fun h=>some (Classical.choose h)) fun _=>none
theorem hdO_some {r k:Nat}(h:hdO G cc r=some k):∃p,G[k]? = some p∧cc k=cc r∧p.1≠1:=by
 unfold hdO at h
 by_cases hk:∃k p,G[k]? = some p∧cc k=cc r∧p.1≠1
 ·rw [@dif_pos _ (Classical.propDecidable _) hk] at h
  injection h with h
  rw [←h]
  exact Classical.choose_spec hk
 ·rw [@dif_neg _ (Classical.propDecidable _) hk] at h
  cases h
theorem hdO_none {r:Nat}(h:hdO G cc r=none):¬ ∃k p,G[k]? = some p∧cc k=cc r∧p.1≠1:=fun hk=>by
 unfold hdO at h
 rw [@dif_pos _ (Classical.propDecidable _) hk] at h
 cases h
theorem leO_some {r k:Nat}(h:leO G cc r=some k):∃q,G[k]? = some q∧q.1=1∧q.2.1=lvC G cc (cc r)∧cc k=cc r:=by
 unfold leO at h
 by_cases hk:∃z q,G[z]? = some q∧q.1=1∧q.2.1=lvC G cc (cc r)∧cc z=cc r
 ·rw [@dif_pos _ (Classical.propDecidable _) hk] at h
  injection h with h
  rw [←h]
  exact Classical.choose_spec hk
 ·rw [@dif_neg _ (Classical.propDecidable _) hk] at h
  cases h
theorem leO_none {r:Nat}(h:leO G cc r=none):¬ ∃z q,G[z]? = some q∧q.1=1∧q.2.1=lvC G cc (cc r)∧cc z=cc r:=fun hk=>by
 unfold leO at h
 rw [@dif_pos _ (Classical.propDecidable _) hk] at h
 cases h
theorem both_cc (hrc:Rc G cc E) (he:∀a b,(a,b)∈E→a<G.length∧b<G.length∧cc a=cc b) (hcd:ClosedC G cc) (hgn:GN G) (hgk:GK G) (hnc:¬ Clash G E):Both G cc (roC G cc) (fun r=>(hdO G cc r,leO G cc r)) E cc where
 js:={
  jn:={
   sound:=hrc.sound
   todo:=fun a b h=>by cases h
   eqs:=fun a b h=>.col (he a b h).1 (he a b h).2.1 (he a b h).2.2
   fit:=fun x y p q hx hy hc p1 q1=>by
    have hf:Fit p q:=Classical.byContradiction fun hf=>hnc ⟨x,y,p,q,hrc.sound _ _ (lt_of_get hx) (lt_of_get hy) hc,hx,hy,p1,q1,hf⟩
    exact ⟨hf,fun j a b ha hb=>.col (hrc.parts x p hx a (List.mem_of_getElem? ha)) (hrc.parts y q hy b (List.mem_of_getElem? hb)) (hcd x y p q hx hy hc p1 hf.1 hf.2 j a b ha hb)⟩
   parts:=hrc.parts }
  len:=rfl
  md:={
   col:=fun i j hi hj h=>by
    show hdO G cc (roC G cc i)=hdO G cc (roC G cc j)
    rw [roC_one hi hj h]
   none:=fun i p hp hn=>by
    have hn:hdO G cc (roC G cc i)=none:=hn
    exact Classical.byContradiction fun h1=>hdO_none hn ⟨i,p,hp,(roC_is (lt_of_get hp)).2.symm,h1⟩
   some:=fun i k hi hk=>by
    have hk:hdO G cc (roC G cc i)=some k:=hk
    obtain ⟨p,h1,h2,h3⟩:=hdO_some hk
    exact ⟨p,h1,h3,h2.trans (roC_is hi).2⟩ }
  le:={
   is:=fun i l hi hl=>by
    have hl:leO G cc (roC G cc i)=some l:=hl
    obtain ⟨q,h1,h2,h3,h4⟩:=leO_some hl
    refine ⟨lt_of_get h1,⟨q,h1,h2⟩,h4.trans (roC_is hi).2,fun v p hv p1 hc=>?_⟩
    have h5:=(lvC_at hgn hv p1 hc).2
    have h6:nmG G l=q.2.1:=by simp [nmG,h1]
    rw [h6,h3,(roC_is (cc:=cc) hi).2]
    exact h5
   no:=fun i v p hi hn hp p1 hc=>by
    have hn:leO G cc (roC G cc i)=none:=hn
    obtain ⟨z,q,h1,h2,h3,h4⟩:=(lvC_at hgn hp p1 hc).1
    exact leO_none hn ⟨z,q,h1,h2,by rw [h3,(roC_is (cc:=cc) hi).2],h4.trans (roC_is hi).2.symm⟩ }
  rt:=fun i hi=>roC_is hi
  un:=fun i j hi hj h=>roC_one hi hj h }
 rc:=hrc
 he:=he
 hc:=hcd
 gn:=hgn
 gk:=hgk
 nc:=hnc
end
end Go.Proofs.YtgjlmjlfghodmaaGreatDoor
namespace Go.Proofs.YtgjlmjlfghodmaaGreatDoor
open Go.RowKit
open Un (rowI rowI_get Else own_else wp_world dg intAt)
attribute [local go_sem] Oper.semAt_some
set_option maxRecDepth 100000
set_option maxHeartbeats 1000000 in
theorem digits14_any (w:World) (n:Nat) (hn:n≤1000000):
  Calls Tryz.prog 16 #[.int .i64 (n:Nat)] w fun e w'=>e = .returned (.int .i64 (dgt n:Nat))∧w'=w:=by
 have hd:dgt n≤21:=by unfold dgt;split;omega;exact Un.dg_le (by omega)
 go_enter Tryz.func16,Tryz.ntmps16
 go_wp2_with fail
 go_loopw [0,3] (fun s d wr=>wr=w∧∃k j:Nat,s = .int .i64 (k:Int)∧d = .int .i64 (j:Int)∧j+dgt k=dgt n∧k≤n) (fun s _ _=>(intAt s).toNat)
 case atStart=>exact ⟨rfl,n,0,rfl,rfl,by omega,Nat.le_refl _⟩
 case round=>
  obtain ⟨rfl,k,j,rfl,rfl,hs,hk⟩:=hrel
  by_cases hk0:0<k
  ·have f1:decide ((0:Int)<(k:Nat))=true:=decide_eq_true (by omega)
   have hh:=dgt_half hk0
   obtain ⟨k2,hk2⟩:∃k2,k / 2=k2:=⟨_,rfl⟩
   rw [hk2] at hh
   have f2:((k:Nat):Int).tdiv 2=(k2:Int):=by rw [←hk2];rfl
   have f3:((k:Nat):Int) / 2=(k2:Int):=by omega
   have hlt:k2<k:=by omega
   clear hk2
   go_wp2_with fail
   go_roundw
   case rel=>exact ⟨trivial,k2,j+1,by go_num,by go_num,by omega,by omega⟩
   case measure=>
    simp only [intAt]
    omega
  ·have f1:decide ((0:Int)<(k:Nat))=false:=decide_eq_false (by omega)
   obtain rfl:k=0:=by omega
   have e0:dgt 0=0:=rfl
   rw [e0,Nat.add_zero] at hs
   subst hs
   go_wp2_with fail
   go_ret
   exact ⟨rfl,rfl⟩
theorem fin_cols {G:List Gn}{col ro cc:Nat→Nat}{kn:Kn}{E:List (Nat×Nat)}(hB:Both G col ro kn E cc) (hp:Gp G) (hl:GL G):FinC G E↔∀i,i<G.length→¬ Cp G cc (cc i) (cc i):=by
 have hpl:∀p∈G,∀u∈p.2.2.2,u<G.length:=fun p hh=>(hp p hh).2
 constructor
 ·intro hf i hi
  exact ((acc_color hB hi).1 (acc_all hB.nc hB.gn hl hf i hi)).no
 ·intro h v i hv
  have hi:=gvar_lt hv
  refine (acc_color hB hi).2 (Classical.byContradiction fun hna=>?_)
  obtain ⟨d,hd,hdd⟩:=(acc_colors hpl hi).1 hna
  rcases hd with rfl|hd
  ·exact h i hi hdd
  ·obtain ⟨u,hu,rfl⟩:=hd.at hpl
   exact h u hu hdd
theorem fold_Gp {B:Nat}{w:World}(l:List Eqn):∀s:Sys,GI s.1→Gp s.1→(∀x∈l,EqT B w x)→(∀y∈l,rtE y=true)→Gp (l.foldl stp s).1:=by
 induction l with
 | nil=>intro s _ h _ _;exact h
 | cons x l ih=>
  intro s hg hp hT hr
  have h1:=hr x List.mem_cons_self
  unfold rtE at h1
  rw [Bool.and_eq_true] at h1
  have ht:=hT x List.mem_cons_self
  have hone:∀(t:Ty1),TyV B w t.2.2.2 (slv t.2.2.1)→rt1 t=true→LenOk (Fo.cons t.1 t.2.1 t.2.2.1 t.2.2.2 .nil)∧allAlone (Fo.cons t.1 t.2.1 t.2.2.1 t.2.2.2 .nil).pre=true:=fun t ht hr=>by
   have hu:=TyV.len ht
   exact ⟨⟨hu,(TyV.list ht).lenOk,trivial⟩,rt1_right hr hu⟩
  obtain ⟨a1,a2⟩:=hone x.1 ht.1 h1.1
  obtain ⟨b1,b2⟩:=hone x.2.1 ht.2 h1.2
  obtain ⟨_,g1,p1,_⟩:=gadd1_all hg hp a2 a1
  obtain ⟨_,g2,p2,_⟩:=gadd1_all g1 p1 b2 b1
  exact ih (stp s x) g2 p2 (fun y hy=>hT y (List.mem_cons_of_mem _ hy)) fun y hy=>hr y (List.mem_cons_of_mem _ hy)
theorem cls_Gp {B:Nat}{w:World}{l:List Eqn}{v:Value}(hr:∀y∈l,rtE y=true) (h:EqV B w l v):Gp (cls l).1:=by
 obtain ⟨_,_,_,_,hT⟩:=h
 exact fold_Gp l ([],[]) (fun p hp=>by cases hp) (fun p hp=>by cases hp) hT hr
def SatIs (l:List Eqn) (r:Int):Prop:=
 ((∃y∈l,rtE y=false)∧r=1)∨((∀y∈l,rtE y=true)∧((Clash (cls l).1 (cls l).2∧r=7)∨(¬ Clash (cls l).1 (cls l).2∧¬ FinC (cls l).1 (cls l).2∧r=8)∨(¬ Clash (cls l).1 (cls l).2∧FinC (cls l).1 (cls l).2∧r=0)))
theorem SatIs.one {l:List Eqn}{r s:Int}(h:SatIs l r) (k:SatIs l s):r=s:=by
 rcases h with ⟨⟨y,hy,hy2⟩,rfl⟩|⟨hr,h⟩<;>rcases k with ⟨⟨z,hz,hz2⟩,rfl⟩|⟨kr,k⟩
 ·rfl
 ·rw [kr y hy] at hy2;cases hy2
 ·rw [hr z hz] at hz2;cases hz2
 ·rcases h with ⟨h1,rfl⟩|⟨h1,h2,rfl⟩|⟨h1,h2,rfl⟩<;>rcases k with ⟨k1,rfl⟩|⟨k1,k2,rfl⟩|⟨k1,k2,rfl⟩<;>first|rfl|exact absurd h1 k1|exact absurd k1 h1|exact absurd h2 k2|exact absurd k2 h2
theorem rights_lt {l:List Eqn}:(rights l).length<l.length↔∃y∈l,rtE y=false:=by
 unfold rights
 constructor
 ·intro h
  refine Classical.byContradiction fun hn=>?_
  have:l.filter rtE=l:=List.filter_eq_self.2 fun y hy=>by
   cases h2:rtE y with
   | true=>rfl
   | false=>exact absurd ⟨y,hy,h2⟩ hn
  rw [this] at h
  omega
 ·rintro ⟨y,hy,h2⟩
  refine Nat.lt_of_le_of_ne (List.length_filter_le _ _) fun h=>?_
  have:=List.length_filter_eq_length_iff.1 h y hy
  rw [h2] at this
  cases this
set_option maxHeartbeats 4000000 in
theorem sat14_any (w:World) (l:List Eqn) (v:Value) (h:EqV w.heap.size w l v) (hw:EqW l) (hl:l.length≤20) (hs:esz l≤160):
  Calls Tryz.prog 14 #[v] w fun e w'=>(∃r:Int,e = .returned (.int .i64 r)∧SatIs l r)∧Below w.heap.size w w':=by
 obtain ⟨A,cA,rfl⟩:=h.form
 have HR:=kI (rights12_any w l _ h hl hs)
 have H:=kI (aI h (aI hw (aI hl hs)))
 clear h hw hs
 go_enter Tryz.func14,Tryz.ntmps14
 go_wp2_with fail
 refine HR.out.mono ?_
 clear HR
 rintro e w1 ⟨v1,rfl,he1,hb1⟩
 obtain ⟨A1,c1,rfl⟩:=he1.form
 obtain ⟨q,hq⟩:∃q,(rights l).length=q:=⟨_,rfl⟩
 rw [hq]
 have hql:q≤l.length:=by rw [←hq];exact rights_len l
 have HB1:=kI (aI hb1 hq)
 clear hb1 he1 hq
 by_cases hlt:q<l.length
 ·have f1:decide ((q:Int)<(l.length:Int))=true:=decide_eq_true (by omega)
  have f2:decide (q<l.length)=true:=decide_eq_true hlt
  have HLT:=kI hlt
  clear hlt
  go_wp2_with fail
  exact bodyPost_ret (results_tmp rfl _ _ _) rfl ⟨⟨1,rfl,.inl ⟨rights_lt.1 (by rw [HB1.out.2];exact HLT.out),rfl⟩⟩,HB1.out.1⟩
 ·have f1:decide ((q:Int)<(l.length:Int))=false:=decide_eq_false (by omega)
  have f2:decide (q<l.length)=false:=decide_eq_false hlt
  have HRT:Hid (∀y∈l,rtE y=true):=kI fun y hy=>by
   cases h2:rtE y with
   | true=>rfl
   | false=>exact absurd (rights_lt.2 ⟨y,hy,h2⟩) (by rw [HB1.out.2];exact hlt)
  have HCL:=kI (close_any w1 l (.slice A l.length cA) (H.out.1.later HB1.out.1) HRT.out H.out.2.2.1 H.out.2.2.2)
  clear hlt
  go_wp2_with fail
  refine HCL.out.mono ?_
  clear HCL
  rintro e w2 ⟨vm,vs,M,cc,rfl,hRg,hcol,hrc,hec,hcd,hb2⟩
  have hAn:An3 (fun b=>w1.heap.size≤b) w1.heap.size w2 vm vs M (cls l).1 cc:=An3.of_rg hRg hcol
  have hG:(cls l).1.length≤10000:=by have h1:=cls_len l;have h2:=H.out.2.2.2;omega
  obtain ⟨Am,cm,rfl⟩:=hAn.row.form
  obtain ⟨As,cs,rfl,_,_⟩:=Un.own_form hAn.col
  obtain ⟨Q,hQ⟩:∃Q,M.length=Q:=⟨_,rfl⟩
  rw [hQ] at hAn ⊢
  go_upto_region 4 with fail
  refine wp_world (fun Z=>Below w2.heap.size w2 Z∧Z.heap[w2.heap.size]? = some (Obj.cells #[.slice Am Q cm,.slice As Q cs] 76)) ⟨(Below.refl _ _).alloc (Nat.le_refl _) _,heap_alloc_new w2 _⟩ ?_
  rintro Z ⟨hZ,hxZ⟩
  have hAZ:=hAn.below hZ
  have z0:Z.cell? ⟨w2.heap.size,0,none⟩=some (.slice Am Q cm):=cell_of_row Z _ 0 _ _ (0,0) hxZ
  have z1:Z.cell? ⟨w2.heap.size,1,none⟩=some (.slice As Q cs):=cell_of_row Z _ 1 _ _ (0,0) hxZ
  have HCH:=kI (clash3 hAZ hG hrc hec hcd)
  have HF:Hid (¬ Clash (cls l).1 (cls l).2→∀W,Below Z.heap.size Z W→Calls Tryz.prog 44 #[.agg #[.slice Am Q cm,.slice As Q cs]] W fun x w'=>(∃b:Bool,x = .returned (.bool b)∧(b=true↔FinC (cls l).1 (cls l).2))∧Below W.heap.size W w'):=kI fun hnc W hW=>by
   have hgn:=cls_GN l H.out.2.1
   have hBo:=both_cc hrc hec hcd hgn (cls_GK l HRT.out) hnc
   have hgp:=cls_Gp HRT.out H.out.1
   refine (finite3_any hBo hgp (hAZ.below hW) hG).mono ?_
   rintro x w' ⟨⟨b,rfl,hb⟩,hbw⟩
   exact ⟨⟨b,rfl,hb.trans (fin_cols hBo hgp (cls_gl l)).symm⟩,hbw⟩
  have hwZ:=(HB1.out.1.trans (hb2.mono HB1.out.1.size))
  have H2:=kI (aI (hwZ.trans (hZ.mono hwZ.size)) hxZ)
  clear hRg hcol hrc hec hcd hb2 hAn hQ hZ hxZ hAZ hG hwZ
  go_wp2_with fail
  refine HCH.out.mono ?_
  clear HCH
  rintro e w3 ⟨⟨b,rfl,hb⟩,hb3⟩
  have hx3:=(hb3.block _ (gL H2.out.2).1).trans H2.out.2
  have z0:w3.cell? ⟨w2.heap.size,0,none⟩=some (.slice Am Q cm):=cell_of_row w3 _ 0 _ _ (0,0) hx3
  have z1:w3.cell? ⟨w2.heap.size,1,none⟩=some (.slice As Q cs):=cell_of_row w3 _ 1 _ _ (0,0) hx3
  have H3:=kI (aI hb (aI hb3 (H2.out.1.trans (hb3.mono H2.out.1.size))))
  clear hb hb3 hx3
  cases b with
  | true=>
   go_wp2_with fail
   exact bodyPost_ret (results_tmp rfl _ _ _) rfl ⟨⟨7,rfl,.inr ⟨HRT.out,.inl ⟨H3.out.1.1 (by trivial),rfl⟩⟩⟩,H3.out.2.2⟩
  | false=>
   have HNC:Hid (¬ Clash (cls l).1 (cls l).2):=kI fun h=>by have:=H3.out.1.2 h;cases this
   have HFW:=kI (HF.out HNC.out w3 H3.out.2.1)
   clear HF
   go_wp2_with fail
   refine HFW.out.mono ?_
   clear HFW
   rintro e w4 ⟨⟨b,rfl,hb⟩,hb4⟩
   have H4:=kI (aI hb (H3.out.2.2.trans (hb4.mono H3.out.2.2.size)))
   clear hb hb4 z0 z1
   cases b with
   | true=>
    go_wp2_with fail
    exact bodyPost_ret (results_tmp rfl _ _ _) rfl ⟨⟨0,rfl,.inr ⟨HRT.out,.inr (.inr ⟨HNC.out,H4.out.1.1 (by trivial),rfl⟩)⟩⟩,H4.out.2⟩
   | false=>
    go_wp2_with fail
    exact bodyPost_ret (results_tmp rfl _ _ _) rfl ⟨⟨8,rfl,.inr ⟨HRT.out,.inr (.inl ⟨HNC.out,fun h=>(by have:=H4.out.1.2 h;cases this),rfl⟩)⟩⟩,H4.out.2⟩
def CntPost (w:World) (l:List Eqn) (x:Go.Ending) (w':World):Prop:=
 ∃(r:Int) (q:Nat),x = .returned (.tuple #[.int .i64 r,.int .i64 (q:Nat)])∧SatIs l r∧q≤300000000∧(q:Int)≤40*((1+esz l:Nat):Int)*((dgt (1+esz l):Nat)+2)+35*(esz l:Nat)+1∧Below w.heap.size w w'
theorem cls_sat {w w':World}{l:List Eqn}{x:Go.Ending}(h:ClsPost w l x w'):∃(p:Option Addr) (r:Int) (q:Nat),x = .returned (.tuple #[.pointer p,.int .i64 r,.int .i64 (q:Nat)])∧SatIs l r∧q≤300000000∧(q:Int)≤40*((1+esz l:Nat):Int)*((dgt (1+esz l):Nat)+2)+35*(esz l:Nat)+1∧Below w.heap.size w w':=by
 obtain ⟨p,r,q,rfl,hb,hc⟩:=h
 rcases hc with ⟨hbad,rfl,rfl,rfl⟩|⟨hrt,hq1,hq2,⟨rfl,rfl,hcl⟩|⟨rfl,rfl,hcl,hnf⟩|⟨rfl,hnc,hfin,_⟩⟩
 ·refine ⟨_,_,_,rfl,.inl ⟨hbad,rfl⟩,by omega,?_,hb⟩
  have:0≤40*((1+esz l:Nat):Int)*((dgt (1+esz l):Nat)+2):=Int.mul_nonneg (by omega) (by omega)
  omega
 ·exact ⟨_,_,_,rfl,.inr ⟨hrt,.inl ⟨hcl,rfl⟩⟩,hq1,hq2,hb⟩
 ·exact ⟨_,_,_,rfl,.inr ⟨hrt,.inr (.inl ⟨hcl,hnf,rfl⟩)⟩,hq1,hq2,hb⟩
 ·exact ⟨_,_,_,rfl,.inr ⟨hrt,.inr (.inr ⟨hnc,hfin,rfl⟩)⟩,hq1,hq2,hb⟩
theorem count14_any (w:World) (l:List Eqn) (v:Value) (h:EqV w.heap.size w l v) (hw:EqW l) (hl:l.length≤2000) (hs:esz l≤19000):
  Calls Tryz.prog 13 #[v] w (CntPost w l):=by
 have HC:=kI (classes_any w l v h hw hl (by omega) (cls_gl l))
 clear h hw hl hs
 go_enter Tryz.func13,Tryz.ntmps13
 go_wp2_with fail
 refine HC.out.mono ?_
 clear HC
 rintro x w1 hp
 obtain ⟨p,r,q,rfl,h1,h2,h3,h4⟩:=cls_sat hp
 have H:=kI (aI h1 (aI h2 (aI h3 h4)))
 clear hp h1 h2 h3 h4
 go_wp2_with fail
 exact bodyPost_ret (results_tmp2 rfl _ _ _) rfl ⟨r,q,rfl,H.out.1,H.out.2.1,H.out.2.2.1,H.out.2.2.2⟩
theorem sats_any (w:World) (l:List Eqn) (v:Value) (h:EqV w.heap.size w l v) (hw:EqW l) (hl:l.length≤2000) (hs:esz l≤19000):
  Calls Tryz.prog 15 #[v] w fun x w'=>(∃r:Int,x = .returned (.int .i64 r)∧SatIs l r)∧Below w.heap.size w w':=by
 have HC:=kI (classes_any w l v h hw hl (by omega) (cls_gl l))
 clear h hw hl hs
 go_enter Tryz.func15,Tryz.ntmps15
 go_wp2_with fail
 refine HC.out.mono ?_
 clear HC
 rintro x w1 hp
 obtain ⟨p,r,q,rfl,h1,h2,h3,h4⟩:=cls_sat hp
 have H:=kI (aI h1 h4)
 clear hp h1 h2 h3 h4
 go_wp2_with fail
 exact bodyPost_ret (results_tmp rfl _ _ _) rfl ⟨⟨r,rfl,H.out.1⟩,H.out.2⟩
end Go.Proofs.YtgjlmjlfghodmaaGreatDoor
namespace Go.Proofs.YtgjlmjlfghodmaaGreatDoor
open Go.RowKit
open Un (rowI rowI_get Else own_else wp_world dg)
attribute [local go_sem] Oper.semAt_some
set_option maxRecDepth 100000
theorem EqV.lenS {B:Nat}{w:World}{l:List Eqn}{v:Value}(h:EqV B w l v):l.length≤9223372036854775807:=by
 obtain ⟨A,c,_,h1,_⟩:=h
 rcases Nat.eq_zero_or_pos l.length with h0|h0
 ·omega
 ·obtain ⟨b,off,_,_,h2,h3,_⟩:=h1 h0
  have e:maxLen=9223372036854775807:=rfl
  omega
theorem sat_bound {q e d:Nat}(h:(q:Int)≤40*((1+e:Nat):Int)*((d:Nat)+2)+35*(e:Nat)+1):(q:Int)≤100*((1+e:Nat):Int)*((d:Nat)+2):=by
 have h1:((1+e:Nat):Int)*2≤((1+e:Nat):Int)*((d:Nat)+2):=Int.mul_le_mul_of_nonneg_left (by omega) (by omega)
 have e1:40*((1+e:Nat):Int)*((d:Nat)+2)=40*(((1+e:Nat):Int)*((d:Nat)+2)):=Int.mul_assoc ..
 have e2:100*((1+e:Nat):Int)*((d:Nat)+2)=100*(((1+e:Nat):Int)*((d:Nat)+2)):=Int.mul_assoc ..
 rw [e1] at h
 rw [e2]
 generalize ((1+e:Nat):Int)*((d:Nat)+2)=z at *
 omega
set_option maxHeartbeats 8000000 in
theorem ssat_law (w:World) (l:List Eqn) (v:Value) (hl:ArgE w v l) (ht:Tab w):
  Calls Tryz.prog 3 #[v] w fun e w'=>e = .returned (.bool true)∧Below w.heap.size w w':=by
 have HG1:=kI (great12_any w l v hl.1 hl.1.lenS)
 have HL:=kI hl
 have HTB:=kI ht
 obtain ⟨Al,cl,rfl⟩:=hl.1.form
 clear hl ht
 go_enter Tryz.func3,Tryz.ntmps3
 go_wp2_with fail
 refine HG1.out.mono ?_
 clear HG1
 rintro e w1 ⟨g1,rfl,hg1,hb1⟩
 cases g1 with
 | true=>
  have HAW:=kI (awake14 w1 (HTB.out.below hb1))
  have HB1:=kI hb1
  clear hg1 hb1
  go_wp2_with fail
  refine HAW.out.mono ?_
  rintro e w2 ⟨rfl,hb2⟩
  have HB2:=kI (HB1.out.trans (hb2.mono HB1.out.size))
  clear hb2
  go_wp2_with fail
  exact bodyPost_ret (results_tmp rfl _ _ _) rfl ⟨rfl,HB2.out⟩
 | false=>
  have hl1:=hg1 rfl
  have HN:=kI hl1
  have HB1:=kI hb1
  clear hg1 hl1 hb1
  go_wp2_with fail
  go_loopw [3,4] (fun s3 s4 wr=>∃(j s:Nat),s4 = .int .i64 (j:Nat)∧s3 = .int .i64 (s:Nat)∧j≤l.length∧s=1+esz (l.take j)∧Below w1.heap.size w1 wr) (fun _ s _=>l.length-(intOf s).toNat)
  case atStart=>exact ⟨0,1,rfl,rfl,Nat.zero_le _,by simp [esz],Below.refl _ _⟩
  case round=>
   obtain ⟨j,s,rfl,rfl,hj,hs,hb⟩:=hrel
   have hsl:s≤161:=by have h1:=esz_take l j;have h2:=HN.out.2;omega
   have HT:=kI (aI hs hb)
   have hl20:=HN.out.1
   clear hs hb
   by_cases hjl:j<l.length
   ·have f1:decide ((j:Int)<(l.length:Int))=true:=decide_eq_true (by omega)
    have hbw:=HB1.out.trans (HT.out.2.mono HB1.out.size)
    obtain ⟨b,off,hA3,_,hat⟩:=(HL.out.1.below hbw).at j hjl
    cases hA3
    have hty:=(HL.out.1.later hbw).ty j hjl
    have hxs:=sz1_le_esz (List.getElem_mem hjl)
    have hst:=esz_step l j hjl
    obtain ⟨x,hx⟩:∃x,l[j]=x:=⟨_,rfl⟩
    rw [hx] at hat hty hxs hst
    obtain ⟨⟨k0,n0,⟨u1,u2,u3⟩,F⟩,⟨k1,n1,⟨v1,v2,v3⟩,F'⟩,a0,a1⟩:=x
    obtain ⟨z0,z1,z2,z3,z4,z5,_,_⟩:=hat
    dsimp only [slv] at z0 z1 z2 z3 z4 z5
    obtain ⟨p,hp⟩:∃z,F.size=z:=⟨_,rfl⟩
    obtain ⟨q,hq⟩:∃z,F'.size=z:=⟨_,rfl⟩
    have hpq:p≤160∧q≤160:=by have h1:=HN.out.2;unfold sz1 at hxs;simp at hxs;omega
    have EX:Hid (∀W,Below wr.heap.size wr W→W.cell? ⟨b,off+j*8,none⟩=some (.int .i64 k0)∧W.cell? ⟨b,off+j*8+1,none⟩=some (.int .i64 n0)∧W.cell? ⟨b,off+j*8+2,none⟩=some (.slice u1 u2 u3)∧W.cell? ⟨b,off+j*8+3,none⟩=some (.int .i64 k1)∧W.cell? ⟨b,off+j*8+4,none⟩=some (.int .i64 n1)∧W.cell? ⟨b,off+j*8+5,none⟩=some (.slice v1 v2 v3)):=kI fun W hb=>
     have c:∀(o:Nat) (u:Value),wr.cell? ⟨b,o,none⟩=some u→W.cell? ⟨b,o,none⟩=some u:=fun o u h=>(hb.cell (World.block_lt_of_cell? _ _ h)).trans h
     ⟨c _ _ z0,c _ _ z1,c _ _ z2,c _ _ z3,c _ _ z4,c _ _ z5⟩
    have hd3:Below wr.heap.size wr wr.drew:=(Below.refl _ _).drew
    have HS1:=kI (rsize_any (F.size+1) F k0 n0 (slv (u1,u2,u3)) wr.drew (by omega) (by omega) (hty.1.onward hd3))
    have HS2:Hid (∀W,Below wr.heap.size wr W→Calls Tryz.prog 12 #[.agg #[.int .i64 k1,.int .i64 n1,.slice v1 v2 v3]] W fun e w'=>e = .returned (.int .i64 (1+(q:Int)))∧Below W.heap.size W w'):=kI fun W hW=>by
     have h:=rsize_any (F'.size+1) F' k1 n1 (slv (v1,v2,v3)) W (by omega) (by omega) (hty.2.onward hW)
     rw [hq] at h
     exact h
    rw [hp] at HS1
    dsimp only [tyVal,slv] at HS1
    have hw1:IntKind.i64.wrap ((s:Int)+(1+(p:Int)))=(s:Int)+(1+(p:Int)):=wrap_small _ (by omega) (by omega)
    have hw2:IntKind.i64.wrap ((s:Int)+(1+(p:Int))+(1+(q:Int)))=(s:Int)+(1+(p:Int))+(1+(q:Int)):=wrap_small _ (by omega) (by omega)
    have HX:=kI (aI hst (aI hp hq))
    clear hd3 hbw hty hxs hst hx z0 z1 z2 z3 z4 z5 hp hq
    go_wp2_with fail
    have hS:Below wr.heap.size wr wr.drew:=(Below.refl _ _).drew
    refine wp_region_held (S:=(fun W=>Below wr.heap.size wr W)) (by kernel_rfl) ?_
    change wpAnyH _ _ _ _ _ 16 (List.replicate 16 false).toArray _ wr.drew
    simp only [List.replicate_succ,List.replicate_zero]
    refine tj (i:=0) (some 16) (.int .i64 (s:Nat)) rfl hS ?_
    simp only [Act.put,zA,zB,zC]
    refine tj (i:=1) (some 17) (.slice (some ⟨b,off,none⟩) l.length cl) rfl hS ?_
    simp only [Act.put,zA,zB,zC]
    refine tj (i:=2) (some 18) (.int .i64 (j:Nat)) rfl hS ?_
    simp only [Act.put,zA,zB,zC]
    refine tj (i:=3) (some 19) (.pointer (some ⟨b,off+j*8,none⟩)) rfl hS ?_
    simp only [Act.put,zA,zB,zC]
    refine tj (i:=4) (some 20) (.pointer (some ⟨b,off+j*8,none⟩)) rfl hS ?_
    simp only [Act.put,zA,zB,zC]
    refine tk (i:=5) (some 21) (.agg #[.int .i64 k0,.int .i64 n0,.slice u1 u2 u3]) rfl (fun W hw=>by obtain ⟨n0_,n1_,n2_,n3_,n4_,n5_⟩:=EX.out W hw;clear hw;go_simp) hS ?_
    simp only [Act.put,zA,zB,zC]
    refine tj (i:=8) (some 24) (.slice (some ⟨b,off,none⟩) l.length cl) rfl hS ?_
    simp only [Act.put,zA,zB,zC]
    refine tj (i:=9) (some 25) (.int .i64 (j:Nat)) rfl hS ?_
    simp only [Act.put,zA,zB,zC]
    refine tj (i:=10) (some 26) (.pointer (some ⟨b,off+j*8,none⟩)) rfl hS ?_
    simp only [Act.put,zA,zB,zC]
    refine tj (i:=11) (some 27) (.pointer (some ⟨b,off+j*8+3,none⟩)) rfl hS ?_
    simp only [Act.put,zA,zB,zC]
    refine tk (i:=12) (some 28) (.agg #[.int .i64 k1,.int .i64 n1,.slice v1 v2 v3]) rfl (fun W hw=>by obtain ⟨n0_,n1_,n2_,n3_,n4_,n5_⟩:=EX.out W hw;clear hw;go_simp) hS ?_
    simp only [Act.put,zA,zB,zC]
    refine aK 6 ?_
    refine ops_call (d:=some 22) rfl (by rfl) (by kernel_rfl) (by go_simp) (HS1.out.mono ?_)
    rintro e w4 ⟨rfl,hb4⟩
    have hS4:Below wr.heap.size wr w4:=hS.trans (hb4.mono hS.size)
    refine ⟨_,rfl,hS4,?_⟩
    simp only [Act.put,zA,zB,zC]
    refine tj (i:=7) (some 23) (.int .i64 ((s:Int)+(1+(p:Int)))) rfl hS4 ?_
    simp only [Act.put,zA,zB,zC]
    refine aK 13 ?_
    refine ops_call (d:=some 29) rfl (by rfl) (by kernel_rfl) (by go_simp) ((HS2.out _ hS4).mono ?_)
    rintro e w5 ⟨rfl,hb5⟩
    have hS5:Below wr.heap.size wr w5:=hS4.trans (hb5.mono hS4.size)
    refine ⟨_,rfl,hS5,?_⟩
    simp only [Act.put,zA,zB,zC]
    refine tj (i:=14) (some 30) (.int .i64 ((s:Int)+(1+(p:Int))+(1+(q:Int)))) rfl hS5 ?_
    simp only [Act.put,zA,zB,zC]
    refine tj (i:=15) (some 3) (.int .i64 ((s:Int)+(1+(p:Int))+(1+(q:Int)))) rfl hS5 ?_
    simp only [Act.put,zA,zB,zC]
    refine wpAnyH_done (by kernel_rfl) ?_ _
    have HB5:=kI (HT.out.2.trans (hS5.mono HT.out.2.size))
    clear hS hS4 hS5 hb4 hb5 EX HS1 HS2
    go_wp2_with fail
    go_roundw
    case rel=>
     refine ⟨j+1,s+(1+p)+(1+q),by go_num,by push_cast;rfl,hjl,?_,HB5.out⟩
     obtain ⟨hst,hp,hq⟩:=HX.out
     rw [hst,HT.out.1]
     unfold sz1
     dsimp only
     omega
    case measure=>simp [intOf];omega
   ·have f1:decide ((j:Int)<(l.length:Int))=false:=decide_eq_false (by omega)
    have hje:j=l.length:=by omega
    have hse:s=1+esz l:=by rw [HT.out.1,hje,List.take_length]
    have hbw:=HB1.out.trans (HT.out.2.mono HB1.out.size)
    have HLr:Hid (∀W,Below wr.heap.size wr W→EqV W.heap.size W l (.slice Al l.length cl)):=kI fun W hW=>HL.out.1.later (hbw.trans (hW.mono hbw.size))
    have HCN:=kI (count14_any wr l _ (HLr.out wr (Below.refl _ _)) HL.out.2 (by omega) (by have:=HN.out.2;omega))
    have H1:=kI (aI hse hbw)
    clear hje hse hbw HT
    go_wp2_with fail
    refine HCN.out.mono ?_
    clear HCN
    rintro e w2 ⟨r,q,rfl,hsr,hq1,hq2,hb2⟩
    have HST:=kI (sat14_any w2 l _ (HLr.out w2 hb2) HL.out.2 HN.out.1 HN.out.2)
    have H2:=kI (aI hsr (aI hq2 hb2))
    have hq0:decide ((0:Int)≤(q:Int))=true:=decide_eq_true (by omega)
    clear hsr hq2 hb2
    go_wp2_with fail
    refine HST.out.mono ?_
    clear HST
    rintro e w3 ⟨⟨r2,rfl,hr2⟩,hb3⟩
    obtain rfl:r2=r:=SatIs.one hr2 H2.out.1
    have H3:=kI (H2.out.2.2.trans (hb3.mono H2.out.2.2.size))
    have HSS:=kI (sats_any w3 l _ (HLr.out w3 H3.out) HL.out.2 (by omega) (by have:=HN.out.2;omega))
    clear hr2 hb3
    go_wp2_with fail
    refine HSS.out.mono ?_
    clear HSS
    rintro e w4 ⟨⟨r3,rfl,hr3⟩,hb4⟩
    obtain rfl:r3=r2:=SatIs.one hr3 H2.out.1
    have H4:=kI (H3.out.trans (hb4.mono H3.out.size))
    have HDG:=kI (digits14_any w4 s (by omega))
    obtain ⟨d,hd⟩:∃d,dgt s=d:=⟨_,rfl⟩
    rw [hd] at HDG
    have hd21:d≤21:=by rw [←hd];unfold dgt;split;omega;exact Un.dg_le (by omega)
    obtain ⟨m1,hm1⟩:∃m1:Int,100*(s:Int)=m1:=⟨_,rfl⟩
    obtain ⟨m2,hm2⟩:∃m2:Int,m1*((d:Int)+2)=m2:=⟨_,rfl⟩
    have hm2b:0≤m2∧m2≤1000000:=by
     have h1:0≤m1∧m1≤16100:=by omega
     have h2:=Int.mul_le_mul h1.2 (show (d:Int)+2≤23 by omega) (by omega) (by omega)
     have h3:=Int.mul_nonneg h1.1 (show 0≤(d:Int)+2 by omega)
     omega
    have i1:IntKind.i64.wrap (100*(s:Int))=m1:=by rw [hm1];exact wrap_small _ (by omega) (by omega)
    have i2:IntKind.i64.wrap ((d:Int)+2)=(d:Int)+2:=wrap_small _ (by omega) (by omega)
    have i3:IntKind.i64.wrap (m1*((d:Int)+2))=m2:=by rw [hm2];exact wrap_small _ (by omega) (by omega)
    have hle:decide ((q:Int)≤m2)=true:=decide_eq_true (by
     have h:=sat_bound H2.out.2.1
     rw [←H1.out.1,hd,hm1,hm2] at h
     exact h)
    have HAW:=kI (awake14 w4 (HTB.out.below (H1.out.2.trans (H4.out.mono H1.out.2.size))))
    clear hr3 hb4 hd hd21 hm1 hm2 hm2b
    go_wp2_with fail
    refine HDG.out.mono ?_
    clear HDG
    rintro e w5 ⟨rfl,rfl⟩
    go_wp2_with fail
    refine HAW.out.mono ?_
    clear HAW
    rintro e w6 ⟨rfl,hb6⟩
    have H6:=kI ((H1.out.2.trans (H4.out.mono H1.out.2.size)).trans (hb6.mono (by have:=H1.out.2.size;have:=H4.out.size;omega)))
    clear hb6
    go_wp2_with fail
    exact bodyPost_ret (results_tmp rfl _ _ _) rfl ⟨rfl,H6.out⟩
end Go.Proofs.YtgjlmjlfghodmaaGreatDoor
namespace Go.Proofs.YtgjlmjlfghodmaaGreatDoor.Card
open Go.ChangeShapes Go.WideShapes Go.ChangeAt Go.RowKit
set_option linter.unusedVariables false
theorem own:ownKnob Tryz.prog.godebug=none:=by kernel_rfl
theorem laidOut:laidOutB Tryz.prog=true:=by kernel_rfl
def laid3:List (String×DataW Unit):=[("math/bits.deBruijn32tab",Rows.laid_math_bits_deBruijn32tab),("math/bits.deBruijn64tab",Rows.laid_math_bits_deBruijn64tab),("internal/strconv.uint64pow10",Rows.laid_internal_strconv_uint64pow10)]
theorem tabEq:(Rows.laid_internal_strconv_uint64pow10:DataW Unit)=Lib.tabData .u64 Lib.pow10Tab:=by rfl
theorem gPow:∃g t,Tryz.prog.globalNamed "internal/strconv.uint64pow10" = some g∧(Tryz.prog.globals[g]?).map (·.type)=some t∧∃n e,Tryz.prog.underlying t=some (.array n e)∧Tryz.prog.underlying e=some (.int .u64)∧Tryz.prog.cellsOf e=1∧Tryz.prog.cellsOf t=n:=by
 exact ⟨0,257,by kernel_rfl,by kernel_rfl,20,245,by kernel_rfl,by kernel_rfl,by kernel_rfl,by kernel_rfl⟩
theorem tab_of_laid {W:World}(h:laidMetH Tryz.prog laid3 W):Tab W:=by
 rw [MakeChecks.laidMetH_plain _ _ _ (by kernel_rfl)] at h
 obtain ⟨g,t,hg,hty,n,e,ht,he,hce,hct⟩:=gPow
 obtain ⟨ps,⟨_,_,_,_,_,_,_,_,_,_,⟨_,_,_,_,_,_,_,_,_,_,⟨g',t',cs,fuel,p,q,hg',ht',hvar,hd,_,_⟩,_⟩,_⟩,_⟩:=h
 obtain rfl:=Option.some.inj (hg.symm.trans hg')
 obtain rfl:=Option.some.inj (hty.symm.trans ht')
 rw [tabEq] at hd
 unfold Tab Lib.TabIs
 rw [hvar,←Lib.cells_of_tab ht he hce hct hd]
theorem door_met (os:Os) (args:Array Value):laidMetH Tryz.prog laid3 ((World.doorLaid Tryz.prog 400 os).forCall (fun _ _=>0) ⟨#[],args,[]⟩).memory:=
 laidMetH_of_parts3 (fuel:=8) (laidMet_of_run' 8 (by kernel_rfl) (by kernel_rfl)) (by kernel_rfl) (by kernel_rfl)
end Go.Proofs.YtgjlmjlfghodmaaGreatDoor.Card
