/- Texts of one proof, one behind the other. -/
import Derived.Test.YtgjlmjlfghodmaaGreatDoorMgSolveSat1
import Derived.Test.YtgjlmjlfghodmaaGreatDoorMgSolveSat6
import Derived.Test.YtgjlmjlfghodmaaGreatDoorMgSolveSat5
import Derived.Test.YtgjlmjlfghodmaaGreatDoorMgSolveSat3
import Derived.Test.YtgjlmjlfghodmaaGreatDoorMgSolveSat4
import Derived.Deep.RegionHeld3
import Derived.Handy
import Derived.Test.YtgjlmjlfghodmaaGreatDoorMgSolveSat2
import Derived.Deep.RegionLaw
import Derived.Maps.Own
import Derived.Maps.Views
import Derived.Maps.OwnSet
set_option linter.unusedVariables false
namespace Go.Proofs.YtgjlmjlfghodmaaGreatDoor
open Go.RowKit Go.Shelf
attribute [local go_sem] Oper.semAt_some
attribute [local go_sem ↓] builtin_app
set_option maxRecDepth 100000 in
set_option maxHeartbeats 4000000 in
theorem print_any (w:World) (k n:Int) (u:Sl) (ps:Fo) (hps:TyV w.heap.size w ps (slv u)) (hs:ps.size<100000) (ht:Tab w):
  Calls Tryz.prog 40 #[tyVal k n (slv u)] w fun e w'=>e = .returned (strB (if alone k n ps.len && ps.ok then oneT k n ps.txts else []))∧Below w.heap.size w w':=by
 obtain ⟨u1,u2,u3⟩:=u
 obtain ⟨W0,hW0⟩:∃W0,w.alloc (.cells #[.int .i64 k,.int .i64 n,.slice u1 u2 u3] 28)=W0:=⟨_,rfl⟩
 have hb0:Below w.heap.size w W0:=by rw [←hW0];exact (Below.refl _ _).alloc (Nat.le_refl _) _
 have hs0:W0.heap.size=w.heap.size+1:=by rw [←hW0];simp
 have hx0:W0.heap[w.heap.size]? = some (Obj.cells #[.int .i64 k,.int .i64 n,.slice u1 u2 u3] 28):=by rw [←hW0];exact heap_alloc_new w _
 have z0:W0.cell? ⟨w.heap.size,0,none⟩=some (.int .i64 k):=cell_of_row W0 w.heap.size 0 _ _ (0,0) hx0
 have z1:W0.cell? ⟨w.heap.size,1,none⟩=some (.int .i64 n):=cell_of_row W0 w.heap.size 1 _ _ (0,0) hx0
 have z2:W0.cell? ⟨w.heap.size,2,none⟩=some (.slice u1 u2 u3):=cell_of_row W0 w.heap.size 2 _ _ (0,0) hx0
 have hall:allAlone (Fo.cons k n (u1,u2,u3) ps .nil).pre=(alone k n ps.len && ps.ok):=by
  have:=allAlone_ok (B:=w.heap.size) (w:=w) (.cons k n (u1,u2,u3) ps .nil) ⟨hps,trivial⟩
  simpa [Fo.ok] using this
 have hR:=right_any W0 w.heap.size k n (u1,u2,u3) ps (by omega) (hps.below hb0) (by omega)
 rw [hall] at hR
 have HR:=kI hR
 have HPS:=kI hps
 have HX0:=kI hx0
 have HB0:=kI hb0
 clear hR hps hall hx0 hb0
 dsimp only [tyVal,slv] at HR ⊢
 refine (callsIn_wide (n:=5)).1 ?_
 refine callsIn_of_wp_marks Tryz.func40 rfl trivial ?_ rfl
 simp only [Tryz.ntmps40,List.size_toArray,List.length_cons,List.length_nil,Nat.reduceAdd,Nat.reduceSub,Array.replicate_succ,Array.replicate_zero,List.push_toArray,List.append_toArray,List.nil_append,List.cons_append]
 obtain ⟨ok,hok⟩:∃ok,(alone k n ps.len && ps.ok)=ok:=⟨_,rfl⟩
 rw [hok] at HR ⊢
 cases ok
 ·gi_wp2_with (refine ⟨trivial,?_⟩;gi_at_call 53;refine (callsIn_wide.2 HR.out).mono ?_;rintro e w2 ⟨rfl,hb2⟩)
  refine ⟨_,results_tmp rfl _ _ _,rfl,HB0.out.trans (hb2.mono (by omega))⟩
 ·gi_wp2_with (refine ⟨trivial,?_⟩;gi_at_call 53;refine (callsIn_wide.2 HR.out).mono ?_;rintro e wb ⟨rfl,hb2⟩;have x0:wb.cell? ⟨w.heap.size,0,none⟩=some (.int .i64 k):=cell_of_row wb w.heap.size 0 _ _ (0,0) ((hb2.block _ (by omega)).trans HX0.out);have x1:wb.cell? ⟨w.heap.size,1,none⟩=some (.int .i64 n):=cell_of_row wb w.heap.size 1 _ _ (0,0) ((hb2.block _ (by omega)).trans HX0.out);have x2:wb.cell? ⟨w.heap.size,2,none⟩=some (.slice u1 u2 u3):=cell_of_row wb w.heap.size 2 _ _ (0,0) ((hb2.block _ (by omega)).trans HX0.out);have hlw:w.heap.size<wb.heap.size:=by have:=hb2.size;omega)
  have hinv:PrW w wb.heap.size (oneT k n ps.txts) (.pointer (some ⟨wb.heap.size+1+1,0,none⟩)) [] (((wb.alloc (.cells #[.pointer none,.slice none 0 0] 108)).alloc (.cells #[.string ⟨#[]⟩,.int .i64 k,.int .i64 n,.slice u1 u2 u3] 110)).alloc (.cells #[.slice (some ⟨wb.heap.size+1,0,none⟩) 1 1] 111)) (pws [pcT k n (u1,u2,u3) ps]):=by
   have hbw:Below w.heap.size w wb:=HB0.out.trans (hb2.mono (by omega))
   simp only [Bool.and_eq_true] at hok
   refine ⟨wb.heap.size+1+1,.slice (some ⟨wb.heap.size+1,0,none⟩) 1 1,[pcT k n (u1,u2,u3) ps],[],rfl,rfl,?_,⟨?_,?_,?_,(fun r hr=>by cases hr),?_⟩,?_,?_,by omega,hbw.size,List.nodup_nil,(fun r hr=>by cases hr)⟩
   ·simp [pws,pw];split<;>omega
   ·have:=Boxed.new ((wb.alloc (.cells #[.pointer none,.slice none 0 0] 108)).alloc (.cells #[.string ⟨#[]⟩,.int .i64 k,.int .i64 n,.slice u1 u2 u3] 110)) 111 (.slice (some ⟨wb.heap.size+1,0,none⟩) 1 1)
    rwa [World.size_alloc,World.size_alloc] at this
   ·have:=own_full (wb.alloc (.cells #[.pointer none,.slice none 0 0] 108)) wb.heap.size (by simp) 110 4 1 ([pcT k n (u1,u2,u3) ps].flatMap pcC) rfl (by unfold maxLen;omega)
    rw [World.size_alloc] at this
    exact this.alloc _
   ·exact ((Lib.IsBuilderF.of (Lib.fresh_isBuilder 108 5 wb)).alloc _).alloc _
   ·exact ((hbw.alloc hbw.size _).alloc (by simp only [World.size_alloc];have:=hbw.size;omega) _).alloc (by simp only [World.size_alloc];have:=hbw.size;omega) _
   ·simp [ptx]
   ·intro p hp
    obtain rfl:=List.mem_singleton.1 hp
    exact ⟨HPS.out,.inr ⟨hok.1,hok.2⟩,by simp⟩
  have htab:Tab wb:=(ht.below (HB0.out.trans (hb2.mono (by omega))))
  have HINV:=kI hinv
  have HTAB:=kI htab
  have HBW:=kI (show Below w.heap.size w wb from HB0.out.trans (hb2.mono (by omega)))
  have htx:(oneT k n ps.txts).length≤5000000:=by have h1:=oneT_len k n ps.txts;have h2:=txts_len ps;omega
  have HTX:=kI htx
  clear hinv htab htx hok hb2 x0 x1 x2 z0 z1 z2 hs0 hW0 ht
  generalize hTXe:oneT k n ps.txts=TX at *
  refine wpIn_loop (fun a W=>∃(t4 t5 t6 t7 t8 t15 t16 t17 t18 t19 t20 t21 t22 t23 t24 t25 t26 t27 t28 t29 t30 t31 t32 t33 t34 t35 t36 t37 t38 t39 t40 t41 t42:Value) (rs:List Nat),a = { tmps:=#[.agg #[.int .i64 k,.int .i64 n,.slice u1 u2 u3],.pointer (some ⟨w.heap.size,0,none⟩),.string ⟨#[]⟩,.pointer (some ⟨wb.heap.size,0,none⟩),t4,t5,t6,t7,t8,.agg #[.int .i64 k,.int .i64 n,.slice u1 u2 u3],.bool true,.bool false,.agg #[.int .i64 k,.int .i64 n,.slice u1 u2 u3],.agg #[.string ⟨#[]⟩,.int .i64 k,.int .i64 n,.slice u1 u2 u3],.slice (some ⟨wb.heap.size+1,0,none⟩) 1 1,t15,t16,t17,t18,t19,t20,t21,t22,t23,t24,t25,t26,t27,t28,t29,t30,t31,t32,t33,t34,t35,t36,t37,t38,t39,t40,t41,t42],defers:=rs.map mark }∧∃s,PrW w wb.heap.size TX t4 rs W s∧Below wb.heap.size wb W)
   (fun a W=>least (fun s=>∃rs,a.defers=rs.map mark∧PrW w wb.heap.size TX (a.tmps.getD 4 undef) rs W s)) ?_ ?_
  ·refine ⟨_,_,_,_,_,_,_,_,_,_,_,_,_,_,_,_,_,_,_,_,_,_,_,_,_,_,_,_,_,_,_,_,_,[],rfl,_,HINV.out,((((Below.refl _ wb).alloc (Nat.le_refl _) _).alloc (by simp) _).alloc (by simp only [World.size_alloc];omega) _)⟩
  rintro a W ⟨t4,t5,t6,t7,t8,t15,t16,t17,t18,t19,t20,t21,t22,t23,t24,t25,t26,t27,t28,t29,t30,t31,t32,t33,t34,t35,t36,t37,t38,t39,t40,t41,t42,rs,rfl,s,hs0,hbW⟩
  obtain ⟨⟨rs0,hrs0,b4,v,L,acc,rfl,hps_,hs7,hI,htxt,hok,hb4,hwB,hnd,hrb⟩,hle⟩:=least_of (p:=fun s=>∃rs0,(rs.map mark)=rs0.map mark∧PrW w wb.heap.size TX t4 rs0 W s) ⟨rs,rfl,hs0⟩
  obtain rfl:=mark_inj hrs0
  have hms:least (fun s=>∃rs0,(rs.map mark)=rs0.map mark∧PrW w wb.heap.size TX (.pointer (some ⟨b4,0,none⟩)) rs0 W s)=pws L:=hps_.symm
  have HM:=kI hms
  have e0:W.cell? ⟨b4,0,none⟩=some v:=hI.box.cell
  rcases List.eq_nil_or_concat L with rfl|⟨Lq,p,rfl⟩
  ·obtain ⟨A,c,rfl,_,_⟩:=own_form hI.row
   dsimp only [List.length_nil] at e0
   have hacc:acc=TX:=by simpa using htxt
   subst hacc
   have HC:=kI ((callsIn_wide (n:=4)).2 (Tryz.Builder_String_any_k wb.heap.size wb.heap.size acc W hI.bld hbW.size))
   have HI:=kI hI
   have HND:=kI hnd
   have HRB:=kI hrb
   have HBWW:=kI hbW
   clear hI hnd hrb hbW hs0 hle hrs0 htxt hok
   gi_wp2_with (refine ⟨trivial,?_⟩;gi_at_call 74;refine HC.out.mono ?_;rintro e W5 ⟨rfl,_,hb5,ho5⟩)
   refine leaves_marks rs W5 HND.out (fun r hr=>ho5 _ _ (HI.out.marks r hr) (by have:=HRB.out r hr;simp;omega) (by intro c fz e;cases e)) ?_
   intro w' h1 h2 h3 h4 h5
   refine ⟨_,results_tmp rfl _ _ _,rfl,?_⟩
   have hb6:Below wb.heap.size W5 w':=⟨h2,h3,h4,Nat.le_of_eq h1.symm,fun k hk=>h5 k fun hkr=>by have:=HRB.out k hkr;omega⟩
   exact HBW.out.trans (((HBWW.out.trans hb5).trans hb6).mono hwB)
  ·rw [List.concat_eq_append] at *
   have hrow:=hI.row
   rw [List.length_append,List.length_singleton] at hrow
   obtain ⟨g,cp,rfl,hg1,hg2⟩:=own_shape hrow (by omega)
   obtain ⟨q,hq⟩:∃q,Lq.length=q:=⟨_,rfl⟩
   rw [hq] at hrow
   have hpw:pws Lq+pw p≤700000:=by rw [←hps_,pws_app] at hs7;simpa [pws] using hs7
   have hql:q≤700000:=by have:=pws_len Lq;omega
   have hcp:q+1≤cp:=by
    obtain ⟨_,_,hv,h1,_⟩:=own_form hrow
    injection hv with _ _ h3
    omega
   have hz:decide ((q:Int)≤(cp:Int))=true:=by simp;omega
   have hz0:(0:Int)≤(q:Int):=by omega
   have hcell:∀j u,(pcC p)[j]? = some u→W.cell? ⟨g,q*4+j,none⟩=some u:=by
    intro j u hu
    have hj:j<4:=(List.getElem?_eq_some_iff.1 hu).1
    rw [hrow.cellAt _ (by omega),List.flatMap_append,List.getElem?_append_right (by rw [pcC_len];omega),pcC_len,hq]
    rw [show q*4+j-q*4=j by omega]
    simpa using hu
   have hrq:W.ownsRow wb.heap.size 110 4 (.slice (some ⟨g,0,none⟩) q cp) Lq.length (Lq.flatMap pcC):=by
    rw [List.flatMap_append] at hrow
    rw [hq]
    exact own_cut hrow q (by omega) (by rw [pcC_len,hq])
   have hpk:=hok p (List.mem_append_right _ (List.mem_singleton.2 rfl))
   have hokq:∀x∈Lq,PcOk w.heap.size w x:=fun x hx=>hok x (List.mem_append_left _ hx)
   have hb4l:b4<W.heap.size:=hI.box.lt
   have hfz:W.frozen? ⟨b4,0,none⟩=false:=hI.box.frozen
   obtain ⟨s_,pk,pn,⟨p1,p2,p3⟩,pps⟩:=p
   have c0:W.cell? ⟨g,q*4,none⟩=some (.string ⟨s_.toArray⟩):=hcell 0 _ rfl
   have c1:W.cell? ⟨g,q*4+1,none⟩=some (.int .i64 pk):=hcell 1 _ rfl
   have c2:W.cell? ⟨g,q*4+2,none⟩=some (.int .i64 pn):=hcell 2 _ rfl
   have c3:W.cell? ⟨g,q*4+3,none⟩=some (.slice p1 p2 p3):=hcell 3 _ rfl
   have hlr:Lq.length+1=q+1:=by omega
   rw [hlr] at e0 hI
   obtain ⟨WS,hWS⟩:∃WS,W.setCell ⟨b4,0,none⟩ (.slice (some ⟨g,0,none⟩) q cp)=WS:=⟨_,rfl⟩
   obtain ⟨W1,hW1⟩:∃W1,WS.alloc (.cells #[.string ⟨s_.toArray⟩,.int .i64 pk,.int .i64 pn,.slice p1 p2 p3] 110)=W1:=⟨_,rfl⟩
   have hsS:WS.heap.size=W.heap.size:=by rw [←hWS];simp [World.setCell]
   have hkS:∀(i:Nat),i≠b4→WS.heap[i]? = W.heap[i]?:=fun i hi=>by rw [←hWS];exact Below.heap_setCell _ _ _ _ (by simpa using hi)
   have hI1:PrI w wb.heap.size b4 (.slice (some ⟨g,0,none⟩) q cp) Lq acc rs W1:=by
    have hIS:PrI w wb.heap.size b4 (.slice (some ⟨g,0,none⟩) q cp) Lq acc rs WS:=by
     refine hI.turn (by rw [←hWS];exact hI.box.set _) (row_kept hrq fun i cs hc=>?_) (fun i cs ty fz hty hc=>?_) (fun r hr hc=>?_) (by rw [←hWS];exact (Below.refl _ _).setCell (p:=⟨b4,0,none⟩) (by simp only;omega) _)
     ·refine (hkS i fun e=>?_).trans hc
      rw [e,show W.heap[b4]? = _ from hI.box] at hc;cases hc
     ·refine (hkS i fun e=>?_).trans hc
      rw [e,show W.heap[b4]? = _ from hI.box] at hc
      injection hc with hc
      injection hc with _ h2
      rcases hty with h|h<;>(rw [h] at h2;exact absurd h2 (by decide))
     ·refine (hkS r fun e=>?_).trans hc
      rw [e,show W.heap[b4]? = _ from hI.box] at hc;cases hc
    rw [←hW1];exact hIS.below ((Below.refl _ _).alloc (Nat.le_refl _) _)
   have hs1:W1.heap.size=W.heap.size+1:=by rw [←hW1,World.size_alloc,hsS]
   have hx1:W1.heap[W.heap.size]? = some (Obj.cells #[.string ⟨s_.toArray⟩,.int .i64 pk,.int .i64 pn,.slice p1 p2 p3] 110):=by rw [←hW1,←hsS];exact heap_alloc_new WS _
   have y0:W1.cell? ⟨W.heap.size,0,none⟩=some (.string ⟨s_.toArray⟩):=cell_of_row W1 _ 0 _ _ (0,0) hx1
   have hwW:=hbW.size
   have hb1:Below wb.heap.size W W1:=by rw [←hW1,←hWS];exact ((Below.refl _ _).setCell (p:=⟨b4,0,none⟩) (by simp only;omega) _).alloc (by simp [World.setCell];omega) _
   have hlen:acc.length+s_.length≤5000000:=by
    have h1:=HTX.out
    rw [←htxt] at h1
    simp only [List.length_append,List.reverse_append,List.reverse_cons,List.reverse_nil,List.nil_append,List.flatMap_append,List.flatMap_cons,List.flatMap_nil,List.append_nil,ptx] at h1
    omega
   have HC1:=kI ((callsIn_wide (n:=4)).2 (Tryz.Builder_WriteString_k wb.heap.size wb.heap.size (Lib.byteCells acc) ⟨s_.toArray⟩ W1 hI1.bld (by rw [Lib.byteCells_length];show acc.length+s_.toArray.size≤_;simp;omega) (by omega)))
   have HI1:=kI hI1
   have HX1:=kI hx1
   have HB1:=kI hb1
   have HBWW:=kI hbW
   have HRB:=kI hrb
   have HND:=kI hnd
   have HPK:=kI hpk
   have HOK:=kI hokq
   have HTT:=kI htxt
   have HQQ:=kI (aI hq hpw)
   clear hI hI1 hx1 hb1 hbW hrb hnd hpk hokq htxt hok hrow hrq hcell hle hrs0 hs0 hkS hps_ hq
   have hst2:∀W2:World,Lib.BuilderAtF 108 5 wb.heap.size wb.heap.size (.pointer (some ⟨wb.heap.size,0,none⟩)) (Lib.byteCells acc++Lib.strCells ⟨s_.toArray⟩) W2→Below wb.heap.size W1 W2→Lib.OthersKept 5 (some wb.heap.size) W1 W2→
     (W2.cell? ⟨W.heap.size,1,none⟩=some (.int .i64 pk)∧W2.cell? ⟨W.heap.size,2,none⟩=some (.int .i64 pn)∧W2.cell? ⟨W.heap.size,3,none⟩=some (.slice p1 p2 p3))∧W1.heap.size≤W2.heap.size∧Below wb.heap.size wb W2∧PrI w wb.heap.size b4 (.slice (some ⟨g,0,none⟩) q cp) Lq (acc++s_) rs W2∧
      Calls Tryz.prog 73 #[tyVal pk pn (slv (p1,p2,p3))] W2 fun e w'=>∃v,e = .returned v∧PcsOf w.heap.size pk pn pps W2 w' v:=by
    intro W2 hbd2 hb2 ho2
    have hx2:W2.heap[W.heap.size]? = some (Obj.cells #[.string ⟨s_.toArray⟩,.int .i64 pk,.int .i64 pn,.slice p1 p2 p3] 110):=ho2 _ _ HX1.out (by simp;omega) (by intro c fz e;cases e)
    have hI2:=HI1.out.wrote hwB (by omega) (fun r hr=>by have:=HRB.out r hr;omega) hbd2 hb2 ho2
    have hbb2:Below wb.heap.size wb W2:=(HBWW.out.trans HB1.out).trans hb2
    refine ⟨⟨cell_of_row W2 _ 1 _ _ (0,0) hx2,cell_of_row W2 _ 2 _ _ (0,0) hx2,cell_of_row W2 _ 3 _ _ (0,0) hx2⟩,hb2.size,hbb2,hI2,?_⟩
    obtain ⟨hv,hor,_⟩:=HPK.out
    refine pieces_any w.heap.size pk pn (p1,p2,p3) pps W2 hor hI2.bel.size (hv.below hI2.bel) (HTAB.out.below hbb2) ?_
    have h1:=HQQ.out.2
    rcases hor with ⟨_,h⟩|⟨h,_⟩
    ·simp only at h;rw [h];simp [Fo.size]
    ·have hne:=alone_ne _ _ _ h
     simp only [pw] at h1 hne
     rw [if_neg hne] at h1
     omega
   have HS2:=kI hst2
   clear hst2
   gi_wp2_with (first
    | (refine ⟨trivial,?_⟩;gi_at_call 71;refine HC1.out.mono ?_;rintro e W2 ⟨rfl,hbd2,hb2,ho2⟩;obtain ⟨⟨m1,m2,m3⟩,hsz2,hbb2,hI2,hcp2⟩:=HS2.out W2 hbd2 hb2 ho2;have HI2:=kI hI2;have HBB2:=kI hbb2;have HCP2:=kI hcp2;clear hbd2 hb2 ho2 hI2 hbb2 hcp2)
    | (refine ⟨trivial,?_⟩;gi_at_call 73;refine (callsIn_wide.2 HCP2.out).mono ?_;rintro e W3 ⟨v3,rfl,L3,hrow3,hb3,htx3,hpw3,hok3,hl3⟩;obtain ⟨A3,c3',rfl,_,_⟩:=own_form hrow3;have H3:=kI (aI hrow3 (aI hb3 (aI htx3 (aI hpw3 hok3))));clear hrow3 hb3 htx3 hpw3 hok3)
    | (refine ⟨trivial,?_⟩;gi_at_call 72;refine (callsIn_wide.2 (back_makeP A3 L3.length c3' _)).mono ?_;rintro e W4 ⟨rfl,hW4⟩))
   obtain ⟨W5,hW5⟩:∃W5,W3.alloc (.cells #[.slice A3 L3.length c3'] 111)=W5:=⟨_,rfl⟩
   obtain ⟨hrow3,hb3,htx3,hpw3,hok3⟩:=H3.out
   have hw2b:=HBB2.out.size
   have hw3:=hb3.size
   have hs5:W5.heap.size=W3.heap.size+1:=by rw [←hW5];simp
   have hb35:Below W3.heap.size W3 W5:=by rw [←hW5];exact (Below.refl _ _).alloc (Nat.le_refl _) _
   obtain ⟨gp,hrd3,hgpb⟩:=RdO.of_own W3.heap.size hrow3
   have hrd5:RdO gp W5 (.slice A3 L3.length c3') L3:=hrd3.keep fun o ho _=>(hb35.block gp (gL ho).1).trans ho
   have hbox5:Boxed W5 W3.heap.size 111 (.slice A3 L3.length c3'):=by rw [←hW5];exact Boxed.new W3 _ _
   have hI5:PrI w wb.heap.size b4 (.slice (some ⟨g,0,none⟩) q cp) Lq (acc++s_) rs W5:=HI2.out.below (hb3.trans (hb35.mono hw3))
   have hbb5:Below wb.heap.size wb W5:=HBB2.out.trans ((hb3.mono hw2b).trans (hb35.mono (by omega)))
   have hgp1:gp≠b4:=by omega
   have hgp2:gp<W5.heap.size:=by omega
   have hgp3:g≠gp:=by omega
   have hb45:b4<W3.heap.size:=by omega
   have hrs5:∀r∈rs,r<W5.heap.size:=fun r hr=>(gL (hI5.marks r hr)).1
   have hl3':L3.length≤5000000:=by assumption
   have hql2:Lq.length≤700000:=by have:=HQQ.out.1;omega
   rw [hW5]
   have HI5:=kI hI5
   have HBB5:=kI hbb5
   have HR5:=kI hrs5
   have HT3:=kI htx3
   have HP3:=kI hpw3
   have HO3:=kI hok3
   have HB3:=kI hb3
   clear hI5 hbb5 hrs5 hrow3 hb3 htx3 hpw3 hok3 hrd3 hgpb hW5 c0 c1 c2 c3 e0 hWS hW1 y0 m1 m2 m3 hz hfz
   refine wpIn_rangeG (by omega) (gf:=104) (lb:=#[.pointer (some ⟨W3.heap.size,0,none⟩)]) rfl (enters_of Tryz.func104 (by kernel_rfl) rfl)
    (back_seqP 4 (by omega) W3.heap.size gp 106 A3 c3' L3 (by omega) W5 hbox5 hrd5) (Below.refl _ _) KpQ.t KpQ.b (fun _=>rfl)
    (fun pre W6=>∃vt,PrI w wb.heap.size b4 vt (Lq++pre.map (·.2)) (acc++s_) rs W6∧(∀r,vt.ownBlock=some r→r≠gp)∧W5.heap.size≤W6.heap.size∧Below wb.heap.size wb W6∧Boxed W6 W3.heap.size 111 (.slice A3 L3.length c3')) (fun _ _ _=>False)
    ?_ (fun _ _ _ _ _ hs _ _=>hs) ?_ (fun _ _ _ _ hs _=>hs)
    ⟨_,by simpa using HI5.out,(by intro r hr;injection hr with hr;simp only at hr;omega),Nat.le_refl _,HBB5.out,hbox5⟩
    (fun x a' W6=>∃Bx,W6.heap[Bx]? = some (Obj.cells #[strB x.2.s,.int .i64 x.2.k,.int .i64 x.2.n,slv x.2.u] 110)∧a' = { tmps:=#[.agg #[.int .i64 k,.int .i64 n,.slice u1 u2 u3],.pointer (some ⟨w.heap.size,0,none⟩),.string ⟨#[]⟩,.pointer (some ⟨wb.heap.size,0,none⟩),.pointer (some ⟨b4,0,none⟩),.int .i64 q,.pointer (some ⟨W.heap.size,0,none⟩),t7,.pointer (some ⟨Bx,0,none⟩),.agg #[.int .i64 k,.int .i64 n,.slice u1 u2 u3],.bool true,.bool false,.agg #[.int .i64 k,.int .i64 n,.slice u1 u2 u3],.agg #[.string ⟨#[]⟩,.int .i64 k,.int .i64 n,.slice u1 u2 u3],.slice (some ⟨wb.heap.size+1,0,none⟩) 1 1,.slice (some ⟨g,0,none⟩) (q+1) cp,.int .i64 ((q:Int)+1),.bool true,.slice (some ⟨g,0,none⟩) (q+1) cp,.int .i64 ((q:Int)+1),.int .i64 q,.slice (some ⟨g,0,none⟩) (q+1) cp,.int .i64 q,.pointer (some ⟨g,q*4,none⟩),.agg #[.string ⟨s_.toArray⟩,.int .i64 pk,.int .i64 pn,.slice p1 p2 p3],.slice (some ⟨g,0,none⟩) (q+1) cp,.int .i64 q,.slice (some ⟨g,0,none⟩) q cp,.pointer (some ⟨W.heap.size,0,none⟩),.string ⟨s_.toArray⟩,.tuple #[.int .i64 (s_.length:Nat),.nilIface],.pointer (some ⟨W.heap.size,1,none⟩),.agg #[.int .i64 pk,.int .i64 pn,.slice p1 p2 p3],.slice A3 L3.length c3',.func (.func 104) #[] #[.pointer (some ⟨W3.heap.size,0,none⟩)],.int .i64 x.1,pcV x.2,t37,t38,t39,t40,t41,t42],defers:=[] })
    (fun x a' s W W' row hs hg hr=>by
     obtain ⟨Bx,hc,ha⟩:=hs
     refine ⟨Bx,(hg.block Bx (gL hc).1 fun e=>?_).trans hc,ha⟩
     obtain ⟨o,ho,hoc⟩:=(hr Bx e.symm).2
     rw [hc] at ho
     cases ho
     cases hoc) ?assign ?body ?done ?stop
   case assign=>
    rintro l pre x W6 K ⟨vt,hI6,hne6,hs6,hb6,hx6⟩ hK
    obtain ⟨x0,xs,xk,xn,⟨x1,x2,x3⟩,xps⟩:=x
    dsimp only [pcV,slv,strB] at hK ⊢
    have HI6:=kI hI6
    have HB6:=kI hb6
    have HX6:=kI hx6
    clear hI6 hb6 hx6
    gi_wp2
    refine hK _ _ ((KeepsOthers.alloc _ _).from _) (fun i _ o ho _=>(Below.heap_alloc _ _ _ (gL ho).1).trans ho) ⟨vt,HI6.out.below ((Below.refl _ _).alloc (Nat.le_refl _) _),hne6,by simp;omega,HB6.out.alloc (by omega) _,HX6.out.alloc _⟩ ⟨W6.heap.size,heap_alloc_new W6 _,rfl⟩
   case body=>
    rintro l pre x a' W6 hl ⟨vt,hI6,hne6,hs6,hb6,hx6⟩ ⟨Bx,hc,rfl⟩ hlt
    obtain ⟨x0,xs,xk,xn,⟨x1,x2,x3⟩,xps⟩:=x
    dsimp only [pcV,slv,strB] at hc ⊢
    have e0:W6.cell? ⟨b4,0,none⟩=some vt:=hI6.box.cell
    have y0:W6.cell? ⟨Bx,0,none⟩=some (.string ⟨xs.toArray⟩):=cell_of_row W6 Bx 0 _ _ (0,0) hc
    have y1:W6.cell? ⟨Bx,1,none⟩=some (.int .i64 xk):=cell_of_row W6 Bx 1 _ _ (0,0) hc
    have y2:W6.cell? ⟨Bx,2,none⟩=some (.int .i64 xn):=cell_of_row W6 Bx 2 _ _ (0,0) hc
    have y3:W6.cell? ⟨Bx,3,none⟩=some (.slice x1 x2 x3):=cell_of_row W6 Bx 3 _ _ (0,0) hc
    obtain ⟨L6,hL6⟩:∃L6,Lq++pre.map (·.2)=L6:=⟨_,rfl⟩
    have hn6:L6.length≤6000000:=by rw [←hL6];simp;omega
    rw [hL6] at hI6
    obtain ⟨W7,hW7⟩:∃W7,W7=W6.alloc (.cells #[.string ⟨xs.toArray⟩,.int .i64 xk,.int .i64 xn,.slice x1 x2 x3] 110):=⟨_,rfl⟩
    have rd7:Rd W7 4 (.slice (some ⟨W6.heap.size,0,none⟩) 1 1) 1 ([(⟨xs,xk,xn,(x1,x2,x3),xps⟩:Pc)].flatMap pcC):=by
     rw [hW7];exact rd_new W6 ([(⟨xs,xk,xn,(x1,x2,x3),xps⟩:Pc)].flatMap pcC) 110 4 1 rfl (by unfold maxLen;omega)
    have own7:=hI6.row.alloc (.cells #[.string ⟨xs.toArray⟩,.int .i64 xk,.int .i64 xn,.slice x1 x2 x3] 110)
    rw [←hW7] at own7
    obtain ⟨v8,W8,hrun8,hown8,hb8,_,hg8,hat8⟩:=app_pc W7 wb.heap.size vt L6 own7 _ [(⟨xs,xk,xn,(x1,x2,x3),xps⟩:Pc)] rd7 (by simp;omega) (by rw [hW7];simp;have:=hb6.size;omega)
    have hbox8:Boxed W8 b4 111 vt:=(hg8.block b4 (by rw [hW7];simp;have:=hI6.box.lt;omega) (hI6.box.not_row (by decide) hI6.row)).trans (by rw [hW7];exact (Below.heap_alloc _ _ _ hI6.box.lt).trans hI6.box)
    have e8:=hbox8.cell
    have f8:=hbox8.frozen
    rw [hW7] at hg8 hat8 hrun8
    obtain ⟨g8,c8,rfl,_,_⟩:=own_shape hown8 (by simp)
    have hfin:=pr_fin (gp:=gp) (Bs:=W3.heap.size) (v':=.slice (some ⟨g8,0,none⟩) (L6 ++ [(⟨xs,xk,xn,(x1,x2,x3),xps⟩:Pc)]).length c8) hI6 hwB hb4 hg8 hown8 hne6 (by omega) hgp1 ⟨_,hx6⟩ (by omega) hat8 W5.heap.size (by omega)
    have hx8:Boxed (W8.setCell ⟨b4,0,none⟩ (.slice (some ⟨g8,0,none⟩) (L6 ++ [(⟨xs,xk,xn,(x1,x2,x3),xps⟩:Pc)]).length c8)) W3.heap.size 111 (.slice A3 L3.length c3'):=hfin.2.1 W3.heap.size (by simp) _ hx6 rfl
    have hF:ownPostG W5.heap.size (KpQ [gp,W3.heap.size]) (fun (pre:List (Int×Pc)) W6=>∃vt,PrI w wb.heap.size b4 vt (Lq++pre.map (·.2)) (acc++s_) rs W6∧(∀r,vt.ownBlock=some r→r≠gp)∧W5.heap.size≤W6.heap.size∧Below wb.heap.size wb W6∧Boxed W6 W3.heap.size 111 (.slice A3 L3.length c3')) (fun _ _ _=>False) (pre ++ [(x0,(⟨xs,xk,xn,(x1,x2,x3),xps⟩:Pc))]) W6 .normal ({ tmps:=#[],defers:=[] }:Act) (W8.setCell ⟨b4,0,none⟩ (.slice (some ⟨g8,0,none⟩) (L6 ++ [(⟨xs,xk,xn,(x1,x2,x3),xps⟩:Pc)]).length c8)):=by
     obtain ⟨z1,z2,z3,z4,z5⟩:=hfin
     refine ⟨z1,z2,_,?_,z4,Nat.le_trans hs6 z5.size,hb6.trans z5,hx8⟩
     have e:Lq++(pre ++ [(x0,(⟨xs,xk,xn,(x1,x2,x3),xps⟩:Pc))]).map (·.2)=L6 ++ [(⟨xs,xk,xn,(x1,x2,x3),xps⟩:Pc)]:=by rw [←hL6];simp
     rw [e];exact z3
    have hN:(L6 ++ [(⟨xs,xk,xn,(x1,x2,x3),xps⟩:Pc)]).length=L6.length+1:=by simp
    rw [hN] at hF hrun8
    have HF:=kI hF
    obtain ⟨Av,cv,rfl,_,_⟩:=own_form hI6.row
    clear hN hF hfin hx8 hbox8 hI6 hown8 hg8 hat8 hb8 own7 rd7 hW7 hc hb6 hx6 hne6
    gi_wp2
    exact HF.out
   case done=>
    rintro D ys W6 hD hys ⟨vt,hI6,hne6,hs6,hb6,hx6⟩ hK
    rw [hys] at hI6
    have e0:W6.cell? ⟨b4,0,none⟩=some vt:=hI6.box.cell
    obtain ⟨Av,cv,rfl,_,_⟩:=own_form hI6.row
    have hpwn:pws (Lq++L3.reverse)<pws (Lq ++ [(⟨s_,pk,pn,(p1,p2,p3),pps⟩:Pc)]):=by
     have h1:=HP3.out
     rw [pws_app,pws_app]
     have h2:pws L3.reverse=pws L3:=by simp [pws]
     have h3:pws [(⟨s_,pk,pn,(p1,p2,p3),pps⟩:Pc)]=pw ⟨s_,pk,pn,(p1,p2,p3),pps⟩:=by simp [pws]
     rw [h2,h3]
     simp only [pw]
     omega
    have hnew:PrW w wb.heap.size TX (.pointer (some ⟨W6.heap.size,0,none⟩)) (D :: rs) (W6.alloc (.cells #[.slice Av (Lq++L3.reverse).length cv] 111)) (pws (Lq++L3.reverse)):=by
     have hal:Below W6.heap.size W6 (W6.alloc (.cells #[.slice Av (Lq++L3.reverse).length cv] 111)):=(Below.refl _ _).alloc (Nat.le_refl _) _
     have hI7:=hI6.below hal
     have hDl:=(gL hK).1
     refine ⟨W6.heap.size,_,Lq++L3.reverse,acc++s_,rfl,rfl,by omega,⟨Boxed.new W6 _ _,hI7.row,hI7.bld,?_,hI7.bel⟩,?_,?_,by omega,hwB,?_,?_⟩
     ·intro r hr
      rcases List.mem_cons.1 hr with rfl|hr
      ·exact (hal.block _ hDl).trans hK
      ·exact hI7.marks r hr
     ·have h1:=HTT.out
      have h2:=HT3.out
      simp only [List.reverse_append,List.reverse_reverse,List.flatMap_append,List.reverse_cons,List.reverse_nil,List.nil_append,List.flatMap_cons,List.flatMap_nil,List.append_nil,ptx] at h1 ⊢
      rw [←h1,h2]
      simp
     ·intro x hx
      rcases List.mem_append.1 hx with hx|hx
      ·exact HOK.out x hx
      ·have hx3:=HO3.out x (List.mem_reverse.1 hx)
       exact ⟨hx3.1.keep (Nat.le_refl _) (fun b off hb=>(HI2.out.bel.cell (p:=⟨b,off,none⟩) hb).symm),hx3.2⟩
     ·refine List.nodup_cons.2 ⟨fun h=>?_,HND.out⟩
      have:=HR5.out D h
      omega
     ·intro r hr
      rcases List.mem_cons.1 hr with rfl|hr
      ·omega
      ·exact HRB.out r hr
    have hNl:(Lq++L3.reverse).length=Lq.length+L3.length:=by simp
    rw [hNl] at hnew
    have HN:=kI hnew
    have HPW:=kI hpwn
    have HB6:=kI (show Below wb.heap.size wb (W6.alloc (.cells #[.slice Av (Lq.length+L3.length) cv] 111)) from hb6.alloc (by omega) _)
    clear hNl hnew hpwn hI6 hne6 hb6 hx6 hK hys hD
    gi_wp2
    refine ⟨⟨_,_,_,_,_,_,_,_,_,_,_,_,_,_,_,_,_,_,_,_,_,_,_,_,_,_,_,_,_,_,_,_,_,D :: rs,rfl,_,HN.out,HB6.out⟩,?_⟩
    exact Nat.lt_of_lt_of_eq (Nat.lt_of_le_of_lt (least_of (p:=fun s=>∃rs0,(mark D :: rs.map mark)=rs0.map mark∧PrW w wb.heap.size TX (.pointer (some ⟨W6.heap.size,0,none⟩)) rs0 (W6.alloc (.cells #[.slice Av (Lq.length+L3.length) cv] 111)) s) ⟨D :: rs,rfl,HN.out⟩).2 HPW.out) HM.out.symm
   case stop=>
    rintro D c pre W _ _ h _
    exact h.elim
   ·rintro pre W6 W7 row ⟨vt,hI6,hne6,hs6,hb6,hx6⟩ hg hr
    refine ⟨vt,hI6.own (by omega) HR5.out hg.size row hg hr,hne6,Nat.le_trans hs6 hg.size,?_,Own.from (boxed_own _ _ (fun (_:Unit)=>.slice A3 L3.length c3')) W5.heap.size () _ _ row hx6 hg hr⟩
    exact ⟨hg.os.trans hb6.os,hg.tape.trans hb6.tape,hg.output.trans hb6.output,Nat.le_trans hb6.size hg.size,fun i hi=>(hg.block i (Nat.lt_of_lt_of_le hi hb6.size) (fun e=>by have:=(hr i e.symm).1;omega)).trans (hb6.block i hi)⟩
   ·rintro pre W6 W7 ⟨vt,hI6,hne6,hs6,hb6,hx6⟩ hc
    have hc':=hc
    exact ⟨vt,hI6.ab (by omega) hc,hne6,by obtain ⟨_,hg,_⟩:=hc;exact Nat.le_trans hs6 hg.size,hb6.trans (hc'.below (by omega) hb6.size),hc'.box (by decide) hx6⟩
end Go.Proofs.YtgjlmjlfghodmaaGreatDoor
namespace Go.Proofs.YtgjlmjlfghodmaaGreatDoor
open Go.RowKit Go.Shelf
theorem Img.txts {f g:Fo}(h:Img idn f g):g.txts=f.txts:=by
 induction f generalizing g with
 | nil=>cases g<;>simp_all [Img,Fo.txts]
 | cons k n u ps r ih1 ih2=>
  cases g with
  | nil=>simp [Img] at h
  | cons k' n' u' ps' r'=>
   simp only [Img,nm_id] at h
   obtain ⟨rfl,rfl,h3,h4⟩:=h
   simp only [Fo.txts,ih1 h3,ih2 h4]
theorem Img.ok {f g:Fo}(h:Img idn f g):g.ok=f.ok:=by
 induction f generalizing g with
 | nil=>cases g<;>simp_all [Img,Fo.ok]
 | cons k n u ps r ih1 ih2=>
  cases g with
  | nil=>simp [Img] at h
  | cons k' n' u' ps' r'=>
   have hl:=(show ps'.len=ps.len from Img.len (num:=idn) (by simp only [Img] at h;exact h.2.2.1))
   simp only [Img,nm_id] at h
   obtain ⟨rfl,rfl,h3,h4⟩:=h
   simp only [Fo.ok,ih1 h3,ih2 h4,hl]
end Go.Proofs.YtgjlmjlfghodmaaGreatDoor
namespace Go.Proofs.YtgjlmjlfghodmaaGreatDoor
open Go.RowKit Go.Shelf
theorem arrow_two (X:World) (g cp:Nat) (k0 n0 k1 n1:Int) (u0 u1:Sl) (f0 f1:Fo) (hg:g<X.heap.size) (hcp:2≤cp) (hcm:cp≤maxLen) (c0:X.cell? ⟨g,0,none⟩=some (.int .i64 k0)) (c1:X.cell? ⟨g,1,none⟩=some (.int .i64 n0)) (c2:X.cell? ⟨g,2,none⟩=some (slv u0)) (c3:X.cell? ⟨g,3,none⟩=some (.int .i64 k1)) (c4:X.cell? ⟨g,4,none⟩=some (.int .i64 n1)) (c5:X.cell? ⟨g,5,none⟩=some (slv u1)) (h0:TyV X.heap.size X f0 (slv u0)) (h1:TyV X.heap.size X f1 (slv u1)) (hs:f0.size+f1.size<1000):
  Calls Tryz.prog 39 #[.slice (some ⟨g,0,none⟩) 2 cp] X fun e w'=>∃u':Sl,e = .returned (tyVal 4 0 (slv u'))∧Below X.heap.size X w'∧FreshT 28 X.heap.size w' idn (.cons k0 n0 u0 f0 (.cons k1 n1 (none,0,0) f1 .nil)) u':=by
 have h:=arrow_any X _ _ (two_cells g cp k0 n0 k1 n1 u0 u1 f0 f1 hg hcp hcm c0 c1 c2 c3 c4 c5 h0 h1) (by simp only [Fo.size];omega)
 simpa [Fo.arrF,Fo.len] using h
end Go.Proofs.YtgjlmjlfghodmaaGreatDoor
namespace Go.Proofs.YtgjlmjlfghodmaaGreatDoor
open Go.RowKit
theorem step_app {P:Program}{ops:Array Oper}{o:Oper}{a:Act}{w:World}{K:Act→World→Prop}{Q:Exit→Act→World→Prop}{E:Prop}(hgd:o.guard=none) (s x:Operand) (t:TypeId)
  (ho:o.op = .call { callee:=.builtin .append,args:=#[s,x],argTypes:=#[t,t] }) {vs vx v':Value} {w':World} (hrun:(app_ #[t,t] o.type #[vs,vx]).run P w = .ok v' w')
  (hs:a.eval s=vs) (hx:a.eval x=vx) (h:K (a.put o.dst v') w'):if Region.wanted o (yielded ops a.tmps)=true then Oper.wp P o a w K Q else E:=by
 have hw:Region.wanted o (yielded ops a.tmps)=true:=by simp [Region.wanted,hgd]
 rw [if_pos hw]
 have hrun2:(Builtin.append_ #[t,t] o.type #[vs,vx]).run P w = .ok v' w':=hrun
 unfold Oper.wp
 simp [execOp,ho,resolve,invoke,builtin,hs,hx,hrun2,Result.andThen]
 exact h
end Go.Proofs.YtgjlmjlfghodmaaGreatDoor
namespace Go.Proofs.YtgjlmjlfghodmaaGreatDoor
namespace Fo
def pure:Fo→Fo
 | nil=>nil
 | cons k n _ ps r=>cons k n (none,0,0) ps.pure r.pure
theorem pure_pure (f:Fo):f.pure.pure=f.pure:=by
 induction f with
 | nil=>rfl
 | cons k n v ps r i1 i2=>simp [pure,i1,i2]
theorem pure_size (f:Fo):f.pure.size=f.size:=by
 induction f with
 | nil=>rfl
 | cons k n v ps r i1 i2=>simp [pure,size,i1,i2]
theorem pure_len (f:Fo):f.pure.len=f.len:=by
 induction f with
 | nil=>rfl
 | cons k n v ps r i1 i2=>simp [pure,len,i2]
end Fo
theorem img_iff (f g:Fo):Img idn f g↔g.pure=f.pure:=by
 induction f generalizing g with
 | nil=>cases g<;>simp [Img,Fo.pure]
 | cons k n v ps r i1 i2=>cases g with
  | nil=>simp [Img,Fo.pure]
  | cons k' n' v' ps' r'=>simp [Img,Fo.pure,i1,i2,nm_id]
end Go.Proofs.YtgjlmjlfghodmaaGreatDoor
namespace Go.Proofs.YtgjlmjlfghodmaaGreatDoor
abbrev Sg:=Int→Option (Int×Int×Fo)
namespace Fo
def sub (s:Sg):Fo→Fo
 | nil=>nil
 | cons k n _ ps r=>match (if k=1 then s n else none) with
  | some x=>cons x.1 x.2.1 (none,0,0) x.2.2.pure (r.sub s)
  | none=>cons k n (none,0,0) (ps.sub s) (r.sub s)
end Fo
abbrev Bnd:=Int×Int×Int×Sl×Fo
def fnd:List Bnd→Int→Option Bnd
 | [],_=>none
 | b :: l,v=>if b.1=v then some b else fnd l v
def cnt:List Bnd→List Bnd
 | []=>[]
 | b :: l=>b :: (cnt l).filter (fun x=>decide (x.1≠b.1))
end Go.Proofs.YtgjlmjlfghodmaaGreatDoor
namespace Go.Proofs.YtgjlmjlfghodmaaGreatDoor
open Go.RowKit Go.Shelf
end Go.Proofs.YtgjlmjlfghodmaaGreatDoor
namespace Go.Proofs.YtgjlmjlfghodmaaGreatDoor
open Go.RowKit Go.Shelf Go.Maps Go.WideShapes
theorem lawI:Keyed Tryz.prog 3:=int_keyed Tryz.underlying3
end Go.Proofs.YtgjlmjlfghodmaaGreatDoor
namespace Go.Proofs.YtgjlmjlfghodmaaGreatDoor
open Go.RowKit Go.Shelf Go.Maps Go.WideShapes Go.ChangeMaps Go.MapKept
def heldE (v:Value):Option (DataW Value×List MemPlace):=some (.held v,[])
structure MapTy (mt e:TypeId) (z:Value):Prop where
 und:Tryz.prog.underlying mt=some (.map 3 e)
 zero:∀w,(zeroValue e).run Tryz.prog w = .ok z w
def upd (f:Int→Option Value) (n:Int) (v:Value):Int→Option Value:=fun m=>if m=n then some v else f m
def MapF (f:Int→Option Value) (S L b:Nat) (W:World):Prop:=
 ∃(k:Nat) (D:DataW Value),W.ownsMap Tryz.prog 3 heldE b k D∧k≤L∧Tidy D∧Maps.size D=S∧∀n:Int,(Lit.int .i64 n).wf=true→has D (.int .i64 n)=(f n).isSome∧∀z,D.atKey (.int .i64 n) (.held z) = .held ((f n).getD z)
theorem MapF.made (w:World):MapF (fun _=>none) 0 0 w.heap.size (w.alloc (.map #[] 0)):=⟨0,.map [],World.ownsMap_made _ _ _ _,Nat.le_refl _,tidy_empty,rfl,fun _ _=>⟨rfl,fun _=>rfl⟩⟩
theorem MapF.kept {f:Int→Option Value}{S L b:Nat}{W W':World}{row:Option Nat}(h:MapF f S L b W) (hg:W.grownBy W' row) (hne:some b≠row):MapF f S L b W':=by
 obtain ⟨k,D,h1,h2⟩:=h
 exact ⟨k,D,h1.kept hg hne,h2⟩
theorem MapF.block {f:Int→Option Value}{S L b:Nat}{W W':World}(h:MapF f S L b W) (hb:W'.heap[b]? = W.heap[b]?):MapF f S L b W':=by
 obtain ⟨k,D,⟨es,ck,h1,h3⟩,h2⟩:=h
 exact ⟨k,D,⟨es,ck,hb.trans h1,h3⟩,h2⟩
theorem MapF.lt {f:Int→Option Value}{S L b:Nat}{W:World}(h:MapF f S L b W):b<W.heap.size:=by obtain ⟨_,_,h1,_⟩:=h;exact h1.lt
theorem MapF.below {f:Int→Option Value}{S L b:Nat}{W W':World}(h:MapF f S L b W) (hb:Below W.heap.size W W'):MapF f S L b W':=h.block (hb.block b h.lt)
theorem MapF.le {f:Int→Option Value}{S L L' b:Nat}{W:World}(h:MapF f S L b W) (hl:L≤L'):MapF f S L' b W:=by
 obtain ⟨k,D,h1,h2,h3⟩:=h
 exact ⟨k,D,h1,Nat.le_trans h2 hl,h3⟩
theorem MapF.ext {f g:Int→Option Value}{S L b:Nat}{W:World}(h:MapF f S L b W) (he:∀n,(Lit.int .i64 n).wf=true→f n=g n):MapF g S L b W:=by
 obtain ⟨k,D,h1,h2,h3,h4,h5⟩:=h
 exact ⟨k,D,h1,h2,h3,h4,fun n hn=>by rw [←he n hn];exact h5 n hn⟩
theorem MapF.look {f:Int→Option Value}{S L b:Nat}{W:World}(h:MapF f S L b W) {mt e:TypeId}{z:Value}(M:MapTy mt e z) (n:Int) (hn:(Lit.int .i64 n).wf=true):(Instr.lookup mt (.map (some b)) (.int .i64 n) false).run Tryz.prog W = .ok ((f n).getD z) W:=by
 obtain ⟨k,D,h1,_,_,_,h3⟩:=h
 obtain ⟨v,ps,hrun,hv⟩:=h1.lookup lawI M.und (M.zero W) (zd:=.held z) (zp:=[]) rfl (keyOf_int_mk Tryz.underlying3 hn)
 rw [(h3 n hn).2] at hv
 simp only [heldE,Option.some.injEq,Prod.mk.injEq,DataW.held.injEq] at hv
 rw [hrun,hv.1]
theorem MapF.look_ok {f:Int→Option Value}{S L b:Nat}{W:World}(h:MapF f S L b W) {mt e:TypeId}{z:Value}(M:MapTy mt e z) (n:Int) (hn:(Lit.int .i64 n).wf=true):(Instr.lookup mt (.map (some b)) (.int .i64 n) true).run Tryz.prog W = .ok (.tuple #[(f n).getD z,.bool (f n).isSome]) W:=by
 obtain ⟨k,D,h1,_,_,_,h3⟩:=h
 obtain ⟨v,ps,hrun,hv⟩:=h1.look_ok lawI M.und (M.zero W) (zd:=.held z) (zp:=[]) rfl (keyOf_int_mk Tryz.underlying3 hn)
 rw [(h3 n hn).2] at hv
 simp only [heldE,Option.some.injEq,Prod.mk.injEq,DataW.held.injEq] at hv
 rw [hrun,hv.1,(h3 n hn).1]
theorem MapF.put {f:Int→Option Value}{S L b:Nat}{W:World}(h:MapF f S L b W) {mt e:TypeId}{z:Value}(M:MapTy mt e z) (hl:L≤1000000000) (n:Int) (hn:(Lit.int .i64 n).wf=true) (v:Value):
  ∃W',(Instr.mapUpdate mt (.map (some b)) (.int .i64 n) v).run Tryz.prog W = .ok () W'∧MapF (upd f n v) (if (f n).isSome then S else S+1) (L+1) b W'∧W.grownBy W' (some b)∧(∀i,i≠b→W'.heap[i]? = W.heap[i]?)∧W'.heap.size=W.heap.size:=by
 obtain ⟨k,D,h1,h2,ht,hs,h3⟩:=h
 obtain ⟨w',hrun,ho,hg⟩:=h1.store lawI M.und (by unfold maxLen;omega) (keyOf_int_mk Tryz.underlying3 hn) (val:=v) (d:=.held v) (ps:=[]) rfl
 refine ⟨w',hrun,⟨k+1,_,ho,by omega,ht.put (by trivial) _,?_,fun m hm2=>?_⟩,hg.grown,?_,?_⟩
 ·rw [size_put ht,(h3 n hn).1,hs]
 ·by_cases e:m=n
  ·subst e
   exact ⟨by rw [has_put_same ht.isMap (by trivial)];simp [upd],fun z=>by rw [atKey_put_same ht.isMap (by trivial)];simp [upd]⟩
  ·have hne:(Lit.int .i64 m)≠.int .i64 n:=by simpa using e
   exact ⟨by rw [has_put_other hne,(h3 m hm2).1];simp [upd,e],fun z=>by rw [atKey_put_other hne,(h3 m hm2).2];simp [upd,e]⟩
 ·obtain ⟨es,ck,es',ck',hb,rfl⟩:=hg
  exact fun i hi=>heap_setBlock_other hb _ hi
 ·obtain ⟨es,ck,es',ck',hb,rfl⟩:=hg
  simp [setBlock]
theorem zeroInt (w:World):(zeroValue 3).run Tryz.prog w = .ok (.int .i64 0) w:=by kernel_rfl
theorem intsTy:MapTy 147 3 (.int .i64 0):=⟨Tryz.underlying147,zeroInt⟩
end Go.Proofs.YtgjlmjlfghodmaaGreatDoor
namespace Go.Proofs.YtgjlmjlfghodmaaGreatDoor
open Go.RowKit Go.ChangeShapes Go.WideShapes Go.ChangeAt Go.Deep
def bdC (b:Bnd):List Value:=[.int .i64 b.1,.int .i64 b.2.1,.int .i64 b.2.2.1,slv b.2.2.2.1]
def bdT (b:Bnd):Value:=tyVal b.2.1 b.2.2.1 (slv b.2.2.2.1)
def BdV (B:Nat) (w:World) (l:List Bnd) (v:Value):Prop:=
 ∃A c,v = .slice A l.length c∧(0<l.length→∃b off,A=some ⟨b,off,none⟩∧b<B∧l.length≤c∧c≤maxLen∧
  ∀i (h:i<l.length),w.cell? ⟨b,off+i*4,none⟩=some (.int .i64 l[i].1)∧w.cell? ⟨b,off+i*4+1,none⟩=some (.int .i64 l[i].2.1)∧w.cell? ⟨b,off+i*4+2,none⟩=some (.int .i64 l[i].2.2.1)∧w.cell? ⟨b,off+i*4+3,none⟩=some (slv l[i].2.2.2.1))∧
  ∀x∈l,TyV B w x.2.2.2.2 (slv x.2.2.2.1)
def BdW (l:List Bnd):Prop:=∀x∈l,(Lit.int .i64 x.1).wf=true∧(Lit.int .i64 x.2.2.1).wf=true∧x.2.2.2.2.wf
end Go.Proofs.YtgjlmjlfghodmaaGreatDoor
namespace Go.Proofs.YtgjlmjlfghodmaaGreatDoor
open Go.RowKit Go.Shelf
attribute [local go_sem] Oper.semAt_some
end Go.Proofs.YtgjlmjlfghodmaaGreatDoor
namespace Go.Proofs.YtgjlmjlfghodmaaGreatDoor
open Go.RowKit Go.Shelf
attribute [local go_sem] Oper.semAt_some
end Go.Proofs.YtgjlmjlfghodmaaGreatDoor
namespace Go.Proofs.YtgjlmjlfghodmaaGreatDoor
open Go.RowKit
theorem Fo.pre_split (f:Fo) (j:Nat) (hj:j<f.len):f.pre=(f.take j).pre++(((f.at_ j).1,(f.at_ j).2.1,(f.at_ j).2.2.1) :: (f.at_ j).2.2.2.pre)++(f.drop (j+1)).pre:=by
 induction f generalizing j with
 | nil=>simp [Fo.len] at hj
 | cons k n v ps r _ ih=>
  cases j with
  | zero=>simp [Fo.at_,Fo.pre,Fo.take,Fo.drop]
  | succ j=>
   have:=ih j (by simp [Fo.len] at hj;omega)
   simp only [Fo.pre,Fo.take,Fo.at_,Fo.drop]
   rw [this]
   simp
theorem Fo.pre_take (f:Fo) (j:Nat) (hj:j<f.len):(f.take (j+1)).pre=(f.take j).pre++(((f.at_ j).1,(f.at_ j).2.1,(f.at_ j).2.2.1) :: (f.at_ j).2.2.2.pre):=by
 rw [Fo.take_step f j hj,Fo.pre_app]
 simp [Fo.pre]
theorem allAlone_appJ (a b:List Tr):allAlone (a++b)=(allAlone a && allAlone b):=by simp [allAlone]
theorem allAlone_cons (x:Tr) (b:List Tr):allAlone (x :: b)=(alone x.1 x.2.1 x.2.2.2.1 && allAlone b):=by simp [allAlone]
theorem TyV.len {B:Nat}{w:World}{f:Fo}{u:Sl}(h:TyV B w f (slv u)):u.2.1=f.len:=by
 obtain ⟨A,c,hv⟩:=h.slice
 unfold slv at hv
 injection hv
set_option maxHeartbeats 2000000 in
set_option maxRecDepth 100000 in
theorem rright_any (m:Nat):∀(f:Fo) (k n:Int) (v:Value) (w:World),f.size<m→f.size≤1000000→TyV w.heap.size w f v→
  Calls Tryz.prog 21 #[tyVal k n v] w fun e w'=>e = .returned (.bool (alone k n f.len && allAlone f.pre))∧Below w.heap.size w w':=by
 induction m with
 | zero=>intro f k n v w h;omega
 | succ m ih=>
  intro f k n v w hm hs h
  obtain ⟨A,c,rfl⟩:=h.slice
  have H:=kI h
  have IH:=kI ih
  have hll:=f.len_le_size
  clear h ih
  unfold tyVal
  go_enter Tryz.func21,Tryz.ntmps21
  obtain ⟨q,hq⟩:∃q,f.len=q:=⟨_,rfl⟩
  rw [hq] at hll ⊢
  have HB0:=kI (show ∀(cs:Array Value) (t:TypeId),Below w.heap.size w (w.alloc (Obj.cells cs t)) from fun cs t=>(Below.refl _ w).alloc (Nat.le_refl _) _)
  have HQ:=kI hq
  clear hq
  have done:alone k n q=false→∀(cs:Array Value) (t:TypeId),(Ending.returned (.bool false) = .returned (.bool (alone k n q && allAlone f.pre))∧Below w.heap.size w (w.alloc (Obj.cells cs t))):=by
   intro h1 cs t
   rw [h1]
   exact ⟨rfl,HB0.out _ _⟩
  have DONE:=kI done
  clear done
  by_cases h1:k=1
  case' pos=>
   subst h1
   by_cases h2:n<0
   ·have f2:decide (n<0)=true:=decide_eq_true h2
    go_wp2_with fail
    go_ret
    exact DONE.out (by unfold alone;rw [if_pos rfl,decide_eq_false (by omega:¬ 0≤n)];rfl) _ _
   have f2:decide (n<0)=false:=decide_eq_false h2
   by_cases h3:1073741824≤n
   ·have f3:decide (1073741824≤n)=true:=decide_eq_true h3
    go_wp2_with fail
    go_ret
    exact DONE.out (by unfold alone;rw [if_pos rfl,decide_eq_false (by omega:¬ n<1073741824)];simp) _ _
   have f3:decide (1073741824≤n)=false:=decide_eq_false h3
   by_cases h4:0<q
   ·have f5:decide (0<q)=true:=decide_eq_true h4
    go_wp2_with fail
    go_ret
    exact DONE.out (by unfold alone;rw [if_pos rfl,beq_eq_false_iff_ne.2 (by omega:(q:Int)≠0)];simp) _ _
   have hal:alone 1 n q=true:=by
    obtain rfl:q=0:=by omega
    unfold alone
    rw [if_pos rfl,decide_eq_true (by omega:0≤n),decide_eq_true (by omega:n<1073741824)]
    rfl
   have HA:=kI hal
   have f5:decide (0<q)=false:=decide_eq_false h4
   clear hal h2 h3 h4
   go_wp2_with fail
  case' neg=>
   by_cases h2:n=0
   case neg=>
    have f1:(k == 1)=false:=beq_eq_false_iff_ne.2 h1
    have f2:(n != 0)=true:=bne_iff_ne.2 h2
    go_wp2_with fail
    go_ret
    refine DONE.out ?_ _ _
    unfold alone
    simp [h1,h2]
   subst h2
   by_cases h2:k=2
   case' pos=>
    subst h2
    by_cases h4:0<q
    ·have f5:decide (0<q)=true:=decide_eq_true h4
     go_wp2_with fail
     go_ret
     exact DONE.out (by unfold alone;simp;omega) _ _
    have hal:alone 2 0 q=true:=by
     obtain rfl:q=0:=by omega
     rfl
    have HA:=kI hal
    have f5:decide (0<q)=false:=decide_eq_false h4
    clear hal h4 h1
    go_wp2_with fail
   case' neg=>
    by_cases h3:k=3
    case' pos=>
     subst h3
     by_cases h4:0<q
     ·have f5:decide (0<q)=true:=decide_eq_true h4
      go_wp2_with fail
      go_ret
      exact DONE.out (by unfold alone;simp;omega) _ _
     have hal:alone 3 0 q=true:=by
      obtain rfl:q=0:=by omega
      rfl
     have HA:=kI hal
     have f5:decide (0<q)=false:=decide_eq_false h4
     clear hal h4 h1 h2
     go_wp2_with fail
    case' neg=>
     by_cases h4:k=4
     case' pos=>
      subst h4
      by_cases h5:q=2
      case neg=>
       have f5:((q:Int) != 2)=true:=bne_iff_ne.2 (by omega)
       go_wp2_with fail
       go_ret
       exact DONE.out (by unfold alone;simp;omega) _ _
      have f5:((q:Int) != 2)=false:=by rw [h5];rfl
      have hal:alone 4 0 q=true:=by rw [h5];rfl
      have HA:=kI hal
      clear hal h5 h1 h2 h3
      go_wp2_with fail
     case' neg=>
      by_cases h5:k=5
      case' pos=>
       subst h5
       by_cases h6:q<2
       ·have f5:decide (q<2)=true:=decide_eq_true h6
        go_wp2_with fail
        go_ret
        exact DONE.out (by unfold alone;simp;omega) _ _
       have f5:decide (q<2)=false:=decide_eq_false h6
       by_cases h7:8<q
       ·have f6:decide (8<q)=true:=decide_eq_true h7
        go_wp2_with fail
        go_ret
        exact DONE.out (by unfold alone;simp;omega) _ _
       have f6:decide (8<q)=false:=decide_eq_false h7
       have hal:alone 5 0 q=true:=by unfold alone;simp;omega
       have HA:=kI hal
       clear hal h1 h2 h3 h4
       go_wp2_with fail
       all_goals try (exfalso;omega)
      case' neg=>
       have f1:(k == 1)=false:=beq_eq_false_iff_ne.2 h1
       have f2:(k == 2)=false:=beq_eq_false_iff_ne.2 h2
       have f3:(k == 3)=false:=beq_eq_false_iff_ne.2 h3
       have f4:(k == 4)=false:=beq_eq_false_iff_ne.2 h4
       have f5:(k == 5)=false:=beq_eq_false_iff_ne.2 h5
       by_cases h6:k<1
       ·have f6:decide (k<1)=true:=decide_eq_true h6
        go_wp2_with fail
        go_ret
        exact DONE.out (by unfold alone;simp [h1,h2,h3,h4,h5]) _ _
       ·have f6:decide (k<1)=false:=decide_eq_false h6
        have f7:decide (5<k)=true:=decide_eq_true (by omega)
        go_wp2_with fail
        go_ret
        exact DONE.out (by unfold alone;simp [h1,h2,h3,h4,h5]) _ _
  all_goals
   go_loopw [4] (fun t4 wr=>∃j:Nat,j≤q∧t4 = .int .i64 j∧allAlone (f.take j).pre=true∧wr.cell? ⟨w.heap.size,2,none⟩=some (.slice A q c)∧Below w.heap.size w wr∧w.heap.size+1≤wr.heap.size) (fun t _=>q-(intOf t).toNat)
   case atStart=>exact ⟨0,Nat.zero_le _,rfl,by simp [Fo.take_zero,Fo.pre,allAlone],by go_simp,HB0.out _ _,by simp⟩
   case round=>
    obtain ⟨j,hj,rfl,hja,e2,hb,hz⟩:=hrel
    have HB:=kI hb
    have HJA:=kI hja
    clear hja hb
    by_cases hjl:j<q
    ·have hjf:j<f.len:=by rw [HQ.out];exact hjl
     obtain ⟨b,off,cap,hv,_,_,hlt,hC⟩:=H.out.form (by omega)
     injection hv with hA _ hcc
     subst hA;subst hcc
     obtain ⟨d0,d1,d2,hch⟩:=tyC_at hC j hjf
     have c0:=(HB.out.cell (p:=⟨b,off+j*3,none⟩) hlt).trans d0
     have c1:=(HB.out.cell (p:=⟨b,off+j*3+1,none⟩) hlt).trans d1
     have c2:=(HB.out.cell (p:=⟨b,off+j*3+2,none⟩) hlt).trans d2
     have hch':TyV wr.heap.size wr (f.at_ j).2.2.2 (slv (f.at_ j).2.2.1):=(hch.keep HB.out.size fun b off hb'=>HB.out.cell (p:=⟨b,off,none⟩) hb')
     have hsz:=f.at_size j hjf
     have hsp:=f.pre_split j hjf
     have htk:=f.pre_take j hjf
     have hpl:=hch.len
     have hrec:=IH.out (f.at_ j).2.2.2 (f.at_ j).1 (f.at_ j).2.1 (slv (f.at_ j).2.2.1) wr (by omega) (by omega) hch'
     clear d0 d1 d2 hC hch hch' hsz
     unfold tyVal at hrec
     generalize f.at_ j=p at *
     obtain ⟨pk,pn,pv,pf⟩:=p
     dsimp only at hsp htk hpl hrec c0 c1 c2
     obtain ⟨x,hx⟩:∃x,(alone pk pn pf.len && allAlone pf.pre)=x:=⟨_,rfl⟩
     rw [hx] at hrec
     have hxa:allAlone ((pk,pn,pv) :: pf.pre)=x:=by rw [allAlone_cons,←hx,hpl]
     have HREC:=kI hrec
     have HSP:=kI (show allAlone f.pre=(x && allAlone (f.drop (j+1)).pre) by rw [hsp,allAlone_appJ,allAlone_appJ,HJA.out,hxa];rfl)
     have HTK:=kI (show allAlone (f.take (j+1)).pre=x by rw [htk,allAlone_appJ,HJA.out,hxa];rfl)
     clear hrec hsp htk hpl hx hxa hjf
     go_wp2_with fail
     refine HREC.out.mono ?_
     rintro e w2 ⟨rfl,hb3⟩
     have e2':=(hb3.cell (p:=⟨w.heap.size,2,none⟩) (by simp only;omega)).trans e2
     have HB3:=kI hb3
     clear hb3
     cases x
     ·go_wp2_with fail
      go_ret
      exact ⟨ret_bool (by rw [HA.out,HSP.out];rfl),HB.out.trans (HB3.out.mono (by omega))⟩
     ·go_wp2_with fail
      go_roundw
      case rel=>exact ⟨j+1,by omega,by go_num,HTK.out,e2',HB.out.trans (HB3.out.mono (by omega)),Nat.le_trans hz HB3.out.size⟩
      case measure=>simp [intOf];omega
    ·obtain rfl:j=q:=by omega
     have HT:Hid (f.take j=f):=kI (by rw [←HQ.out];exact f.take_len)
     go_wp2_with fail
     go_ret
     exact ⟨ret_bool (by rw [HA.out,←HT.out,HJA.out];rfl),HB.out⟩
end Go.Proofs.YtgjlmjlfghodmaaGreatDoor
namespace Go.Proofs.YtgjlmjlfghodmaaGreatDoor
open Go.RowKit
set_option maxHeartbeats 1000000 in
theorem rin_any (L:List Int) (vl:Value) (v:Int) (w:World) (hR:Rd w 1 vl L.length (L.map (Value.int .i64))) (hl:L.length≤1000000):
  Calls Tryz.prog 57 #[vl,.int .i64 v] w fun e w'=>e = .returned (.bool (decide (v∈L)))∧Below w.heap.size w w':=by
 obtain ⟨A,c,rfl⟩:∃A c,vl = .slice A L.length c:=by
  rcases hR.2 with ⟨h0,A,c,h⟩|⟨b,off,cap,h,_⟩
  ·exact ⟨A,c,by rw [h,h0]⟩
  ·exact ⟨_,cap,h⟩
 obtain ⟨q,hq⟩:∃q,L.length=q:=⟨_,rfl⟩
 have H:=kI hR
 have HQ:=kI hq
 rw [hq] at hl ⊢
 clear hR hq
 go_enter Tryz.func57,Tryz.ntmps57
 go_wp2_with fail
 go_loopw [5] (fun t wr=>∃j:Nat,j≤q∧t = .int .i64 j∧(L.take j).contains v=false∧Below w.heap.size w wr) (fun t _=>q-(intOf t).toNat)
 case atStart=>exact ⟨0,Nat.zero_le _,rfl,by simp,Below.refl _ _⟩
 case round=>
  obtain ⟨j,hj,rfl,hja,hb⟩:=hrel
  have HB:=kI hb
  have HJA:=kI hja
  clear hja hb
  by_cases hjl:j<q
  ·have hjL:j<L.length:=by rw [HQ.out];exact hjl
   obtain ⟨b,off,cap,hv,_,_,hlt,hc⟩:=H.out.2.resolve_left (by rintro ⟨h,_⟩;omega)
   injection hv with hA _ hcc
   subst hA;subst hcc
   obtain ⟨x,hx⟩:∃x,L[j]=x:=⟨_,rfl⟩
   have c0:wr.cell? ⟨b,off+j,none⟩=some (.int .i64 x):=(HB.out.cell (p:=⟨b,off+j,none⟩) hlt).trans (hc j _ (by rw [List.getElem?_map,List.getElem?_eq_getElem hjL,hx];rfl))
   have htk:L.take (j+1)=L.take j ++ [x]:=by rw [←hx];exact (List.take_append_getElem hjL).symm
   by_cases hxv:x=v
   ·have f1:(x == v)=true:=by simp [hxv]
    have hmem:decide (v∈L)=true:=by
     refine decide_eq_true ?_
     rw [←hxv,←hx]
     exact List.getElem_mem hjL
    have HM:=kI hmem
    clear htk hx hc hxv hmem
    go_wp2_with fail
    go_ret
    exact ⟨ret_bool HM.out.symm,HB.out⟩
   ·have f1:(x == v)=false:=beq_eq_false_iff_ne.2 hxv
    have hnm:(L.take (j+1)).contains v=false:=by
     rw [htk]
     have h1:=HJA.out
     simp only [List.contains_eq_mem,decide_eq_false_iff_not,List.mem_append,List.mem_singleton,not_or] at h1 ⊢
     exact ⟨h1,fun e=>hxv e.symm⟩
    have HM:=kI hnm
    clear htk hx hc hxv hnm
    go_wp2_with fail
    go_roundw
    case rel=>exact ⟨j+1,by omega,by go_num,HM.out,HB.out⟩
    case measure=>simp [intOf];omega
  ·obtain rfl:j=q:=by omega
   have hT:decide (v∈L)=false:=by
    have:=HJA.out
    rw [←HQ.out,List.take_length] at this
    simpa using this
   have HT:=kI hT
   clear hT
   go_wp2_with fail
   go_ret
   exact ⟨ret_bool HT.out.symm,HB.out⟩
end Go.Proofs.YtgjlmjlfghodmaaGreatDoor
