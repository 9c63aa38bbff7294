/- Texts of one proof, one behind the other. -/
import Derived.Test.YtmamdiggjghjkaaGreatDoorMgSolveOrder1
import Derived.Test.YtmamdiggjghjkaaGreatDoorMgSolveOrder25
import Derived.Deep.LoopGhost
set_option linter.unusedVariables false
namespace Go.Proofs.YtmamdiggjghjkaaGreatDoor
section
open Go.RowKit
attribute [local go_sem] Oper.semAt_some
attribute [local go_sem ↓] builtin_app
open Un (rowI rowI_get own_shape paint cnt wp_world Else)
set_option maxRecDepth 100000
theorem Rg.app {w2 w3:World}{v:Value}{M:List Rm}{G:List Gn}{B Bt:Nat}{s4:Value}{g:Nat}(h:Rg (fun b=>B≤b∧s4.ownBlock≠some b) Bt w2 v M G) (hE:Else (fun k=>s4.ownBlock=some k) w2 w3) (ho:∀k,s4.ownBlock=some k→Bt≤k) (hB:Bt≤w2.heap.size) (hg:s4.ownBlock=some g∨g=w2.heap.size+1):Rg (fun b=>B≤b∧some g≠some b) Bt w3 v M G:=by
 obtain ⟨h1,h2⟩:=h
 refine ⟨?_,h2⟩
 have k1:RgM (fun b=>(B≤b∧s4.ownBlock≠some b)∧b≠g) Bt w2 v M:=h1.imp fun b hlt hd=>⟨hd,fun e=>by
  subst e
  rcases hg with hg|hg
  ·exact hd.2 hg
  ·omega⟩
 exact (k1.to (hE.below ho hB) hE.size fun b hd hlt=>hE.block b hlt hd.1.2).imp fun b _ hd=>⟨hd.1.1,fun e=>hd.2 (Option.some.inj e).symm⟩
theorem fold_len2 (l:List Eqn):∀s:Sys,(l.foldl stp s).2.length=s.2.length+l.length:=by
 induction l with
 | nil=>intro s;rfl
 | cons x l ih=>intro s;rw [List.foldl_cons,ih];simp [stp,eqE];omega
theorem cls_len2 (l:List Eqn):(cls l).2.length=l.length:=by
 unfold cls
 rw [fold_len2]
 simp
theorem load_cls {w:World}{g:Nat}{v0 v1:Value}(h0:w.cell? ⟨g,0,none⟩=some v0) (h1:w.cell? ⟨g,1,none⟩=some v1):(loadVar 67 ⟨g,0,none⟩).run Tryz.prog w = .ok (.agg #[v0,v1]) w:=by
 go_simp
theorem Rg.nodeAll {D:Nat→Prop}{B:Nat}{wq:World}{M:List Rm}{G:List Gn}{b1 o1 n c:Nat}(h:Rg D B wq (.slice (some ⟨b1,o1,none⟩) n c) M G) (j:Nat) (hj:j<G.length):
  ∃(k:Int) (P:Sl) (p:Gn),G[j]? = some p∧p.1=k∧P.2.1=p.2.2.2.length∧(∀W,Below wq.heap.size wq W→W.cell? ⟨b1,o1+j*4,none⟩=some (.int .i64 k)∧W.cell? ⟨b1,o1+j*4+3,none⟩=some (slv P))∧
   ∀(t a:Nat),p.2.2.2[t]? = some a→∃b' o',P.1=some ⟨b',o',none⟩∧∀W,Below wq.heap.size wq W→W.cell? ⟨b',o'+t,none⟩=some (.int .i64 (a:Nat)):=by
 have hlen:=h.len
 have hjM:j<M.length:=by omega
 obtain ⟨b1',o1',cap1,hv1,_,_,hlt1,hc1⟩:=h.1.row.1.2.resolve_left (by rintro ⟨h,_⟩;omega)
 cases hv1
 obtain ⟨p0,p1,p2,p3⟩:=rmC_at M j hjM
 have hn:=h.1.nodes _ (List.getElem_mem hjM)
 refine ⟨_,_,rG M[j].1,?_,rfl,h.rows _ (List.getElem_mem hjM),fun W hW=>⟨(hW.cell (p:=⟨b1,o1+j*4,none⟩) hlt1).trans (hc1 _ _ p0),(hW.cell (p:=⟨b1,o1+j*4+3,none⟩) hlt1).trans (hc1 (j*4+3) _ p3)⟩,fun t a hta=>?_⟩
 ·rw [←h.2.1]
  simp [gM,hjM]
 ·have hta:M[j].1.2.2.2.2[t]? = some a:=hta
  have hlt:=(List.getElem?_eq_some_iff.1 hta).1
  obtain ⟨b',o',cap',hv',_,_,hlt',hc'⟩:=hn.2.1.2.resolve_left (by rintro ⟨h,_⟩;omega)
  unfold slv at hv'
  injection hv' with e1 e2 e3
  refine ⟨b',o',e1,fun W hW=>(hW.cell (p:=⟨b',o'+t,none⟩) hlt').trans (hc' t _ ?_)⟩
  simp [nums,ints,toI,hta]
def JP (c:Nat→Nat) (p p':Gn) (j:Nat):Prop:=∀t a b,t<j→p.2.2.2[t]? = some a→p'.2.2.2[t]? = some b→c a=c b
set_option maxHeartbeats 8000000 in
theorem close_any (w:World) (l:List Eqn) (v:Value) (h:EqV w.heap.size w l v) (hr:∀y∈l,rtE y=true) (hl:l.length≤20) (hs:esz l≤160):
  Calls Tryz.prog 33 #[v] w fun e w'=>∃(vm vs:Value) (M:List Rm) (c:Nat→Nat),e = .returned (.agg #[vm,vs])∧Rg (fun b=>w.heap.size≤b) w.heap.size w' vm M (cls l).1∧w'.ownsRow w.heap.size 3 1 vs (cls l).1.length (rowI (cls l).1.length c)∧
   Rc (cls l).1 c (cls l).2∧(∀a b,(a,b)∈(cls l).2→a<(cls l).1.length∧b<(cls l).1.length∧c a=c b)∧ClosedC (cls l).1 c∧Below w.heap.size w w':=by
 obtain ⟨A,cA,rfl⟩:=h.form
 obtain ⟨W0,hW0⟩:∃W0,w.alloc (.cells #[.slice none 0 0,.slice none 0 0] 67)=W0:=⟨_,rfl⟩
 have hb0:Below w.heap.size w W0:=by rw [←hW0];exact (Below.refl _ _).alloc (Nat.le_refl _) _
 have hx0:W0.heap[w.heap.size]? = some (Obj.cells #[.slice none 0 0,.slice none 0 0] 67):=by rw [←hW0];exact heap_alloc_new w _
 have hl0:w.heap.size<W0.heap.size:=(gL hx0).1
 have H:=kI (aI h (aI hr (aI hb0 hx0)))
 clear h hr hb0 hx0
 go_enter Tryz.func33,Tryz.ntmps33
 go_wp2_with fail
 go_loopw [3,4,5,6,7,8] (fun s3 s4 s5 _ _ _ wr=>∃(j:Nat) (M:List Rm),s5 = .int .i64 (j:Nat)∧j≤l.length∧Rg (fun b=>W0.heap.size≤b∧s4.ownBlock≠some b) w.heap.size wr s3 M (cls (l.take j)).1∧wr.ownsRow W0.heap.size 104 2 s4 (cls (l.take j)).2.length (prC (cls (l.take j)).2)∧Below W0.heap.size W0 wr) (fun _ _ s _ _ _ _=>l.length-(intOf s).toNat)
 case atStart=>exact ⟨0,[],rfl,Nat.zero_le _,⟨⟨⟨⟨rfl,.inl ⟨rfl,_,_,rfl⟩⟩,fun h=>absurd h (by decide)⟩,fun x hx=>by cases hx⟩,rfl,fun x hx=>by cases hx⟩,World.ownsRow_nil _ _ _ _,Below.refl _ _⟩
 case round=>
  obtain ⟨j,M,rfl,hj,hR,hT,hb⟩:=hrel
  have HT:=kI (aI hR (aI hT hb))
  by_cases hjl:j<l.length
  ·have f1:decide ((j:Int)<(l.length:Int))=true:=decide_eq_true (by omega)
   have hbw:Below w.heap.size w wr:=H.out.2.2.1.trans (hb.mono (Nat.le_of_lt hl0))
   obtain ⟨b,off,hA3,_,hat⟩:=(H.out.1.below hbw).at j hjl
   cases hA3
   have hty:=(H.out.1.below hbw).ty j hjl
   have hrj:=H.out.2.1 _ (List.getElem_mem hjl)
   obtain ⟨x,hx⟩:∃x,l[j]=x:=⟨_,rfl⟩
   have hss:esz (l.take j)+sz1 x≤esz l:=by rw [←hx,←esz_step l j hjl];exact esz_take l (j+1)
   have hst:cls (l.take (j+1))=stp (cls (l.take j)) x:=by rw [cls_step l j hjl,hx]
   have hlen:=cls_len (l.take j)
   rw [hx] at hat hty hrj
   obtain ⟨⟨k0,n0,⟨u1,u2,u3⟩,F⟩,⟨k1,n1,⟨v1,v2,v3⟩,F'⟩,a0,a1⟩:=x
   obtain ⟨x0,x1,x2,_⟩:=hat
   dsimp only [slv] at x0 x1 x2
   have hrt:rt1 (k0,n0,(u1,u2,u3),F)=true∧rt1 (k1,n1,(v1,v2,v3),F')=true:=by unfold rtE at hrj;rwa [Bool.and_eq_true] at hrj
   obtain ⟨s,hs'⟩:∃s,cls (l.take j)=s:=⟨_,rfl⟩
   rw [hs'] at hR hT hst hlen
   obtain ⟨As,cs,hs4,_,_⟩:=Un.own_form hT
   subst hs4
   have hBw:=hbw.size
   have hBz:=hb.size
   unfold sz1 at hss
   dsimp only at hss
   have HA1:=kI (radd_rt _ w.heap.size wr _ M s.1 hR (fun b hb=>⟨by omega,fun e=>by have:=(hT.lt b e).2;omega⟩) hBw (k0,n0,(u1,u2,u3),F) hty.1 hrt.1 (by dsimp only;omega))
   have HX:=kI (aI hx (aI hty (aI hrt (aI hss (aI hst (aI hs' (aI hlen (aI hBw (aI hBz hbw)))))))))
   dsimp only [t1V,tyVal,slv] at HA1
   clear hx hty hrj hrt hss hst hlen hs' hBw hBz hbw hR hT hb
   go_wp2_with fail
   refine HA1.out.mono ?_
   rintro e w1 ⟨v1',M1',rfl,hR1,hb1⟩
   obtain ⟨hx,hty,hrt,hss,hst,hs',hlen,hBw,hBz,hbw⟩:=HX.out
   have hbw1:=hbw.trans (hb1.mono hBw)
   obtain ⟨b',off',hA,_,hat⟩:=(H.out.1.below hbw1).at j hjl
   cases hA
   have hty1:=(H.out.1.below hbw1).ty j hjl
   rw [hx] at hat hty1
   obtain ⟨_,_,_,x3,x4,x5,_⟩:=hat
   dsimp only [slv] at x3 x4 x5
   obtain ⟨X1,hX1,lX1⟩:=gadd1_pre s.1 k0 n0 F
   have hz1:=hb1.size
   have hT0:=HT.out.2.1
   rw [hs'] at hT0
   have HA2:=kI (radd_rt _ w.heap.size w1 _ M1' _ hR1 (fun b hb=>⟨by omega,fun e=>by have:=(hT0.lt b e).2;omega⟩) hbw1.size (k1,n1,(v1,v2,v3),F') hty1.2 hrt.2 (by dsimp only;rw [hX1,List.length_append];omega))
   have HY:=kI (aI hbw1 (aI hb1 hT0))
   dsimp only [t1V,tyVal,slv] at HA2
   clear hx hty hrt hss hst hs' hlen hBw hBz hbw hbw1 hty1 hX1 lX1 hz1 hT0 hR1 hb1 x0 x1 x2 HA1
   go_wp2_with fail
   refine HA2.out.mono ?_
   rintro e w2 ⟨v2',M2',rfl,hR2,hb2⟩
   obtain ⟨hbw1,hb1,hT0⟩:=HY.out
   have hT2:=Un.own_else (S:=fun _=>False) hT0 (Else.of_below (hb1.trans (hb2.mono hb1.size))) fun k _ h=>h
   have hz2:W0.heap.size≤w2.heap.size:=Nat.le_trans HT.out.2.2.size (Nat.le_trans hb1.size hb2.size)
   obtain ⟨g,cp,w3,hrun,ho3,hgr3,hg3⟩:=app_pr w2 _ s.2 W0.heap.size hz2 hT2 ((gadd1 s.1 k0 n0 F).2,(gadd1 (gadd1 s.1 k0 n0 F).1 k1 n1 F').2) (by rw [←HX.out.2.2.2.2.2.1,cls_len2,List.length_take];omega)
   dsimp only at hrun
   have hE3:=(Else.alloc _ _ _).trans (Else.grown hgr3 fun k hk=>hk)
   have HZ:=kI (aI hR2 (aI hb2 (aI hT2 (aI ho3 (aI hE3 hg3)))))
   clear hR2 hb2 hT2 ho3 hgr3 hE3 hg3 hbw1 hb1 hT0 HA2 x3 x4 x5
   go_wp2_with fail
   go_roundw
   case rel=>
    obtain ⟨hR2,hb2,hT2,ho3,hE3,hg3⟩:=HZ.out
    obtain ⟨hbw1,hb1,_⟩:=HY.out
    obtain ⟨hx,hty,hrt,hss,hst,hs',hlen,hBw,hBz,hbw⟩:=HX.out
    have hz2:W0.heap.size≤w2.heap.size:=Nat.le_trans HT.out.2.2.size (Nat.le_trans hb1.size hb2.size)
    have hw2:w.heap.size≤w2.heap.size:=Nat.le_trans (Nat.le_of_lt hl0) hz2
    have hbT:Below W0.heap.size W0 w3:=(HT.out.2.2.trans ((hb1.mono HT.out.2.2.size).trans (hb2.mono (Nat.le_trans HT.out.2.2.size hb1.size)))).trans (hE3.below (fun k hk=>(hT2.lt k hk).1) hz2)
    refine ⟨j+1,M2',by go_num,by omega,?_,?_,hbT⟩
    ·rw [hst]
     exact hR2.app hE3 (fun k hk=>Nat.le_trans (Nat.le_of_lt hl0) (hT2.lt k hk).1) hw2 hg3
    ·rw [hst]
     exact ho3
   case measure=>simp [intOf];omega
  ·have hje:j=l.length:=by omega
   subst hje
   have hok:=cls_ok l H.out.2.1 fun y hy=>EqT.tyN (B:=w.heap.size) (w:=w) (by
    obtain ⟨i,hi,he⟩:=List.getElem_of_mem hy
    rw [←he]
    exact H.out.1.ty i hi)
   rw [List.take_length] at hR hT
   have hlen:=hR.len
   have hcl:=cls_len l
   have hc2:=cls_len2 l
   obtain ⟨⟨G,E⟩,hs'⟩:∃s,cls l=s:=⟨_,rfl⟩
   rw [hs'] at hR hT hok hlen hcl hc2
   dsimp only at hR hT hok hlen hcl hc2
   obtain ⟨As,cs,hs3⟩:=hR.1.row.1.form
   obtain ⟨At,ct,hs4,_,_⟩:=Un.own_form hT
   subst hs3 hs4
   generalize M.length=ml at *
   subst hlen
   have HNW:=kI (Un.rnew_any wr G.length (by omega))
   have HR:=kI (aI hR (aI hT (aI hb (aI hok (aI hs' hc2)))))
   have hn:G.length≤160:=by omega
   have hE:E.length≤20:=by omega
   clear hR hT hb hok hs' hcl hc2 HT
   go_wp2_with fail
   refine HNW.out.mono ?_
   rintro e w1 ⟨v9,rfl,ho1,hb1⟩
   have HW1:=kI (aI ho1 hb1)
   clear ho1 hb1 HNW
   generalize wr=wq at *
   go_wp2_with fail
   go_loopw [9,10] (fun s9 s10 wx=>∃(k:Nat) (c:Nat→Nat),s10 = .int .i64 (k:Nat)∧k≤E.length∧wx.ownsRow wq.heap.size 3 1 s9 G.length (rowI G.length c)∧Rc G c E∧(∀a b,(a,b)∈E.take k→c a=c b)∧Below wq.heap.size wq wx) (fun _ s _=>E.length-(intOf s).toNat)
   case atStart=>exact ⟨0,fun k=>k,rfl,Nat.zero_le _,HW1.out.1,Rc.start HR.out.2.2.2.1,fun a b h=>by simp at h,HW1.out.2⟩
   case round=>
    obtain ⟨k,c,rfl,hk,ho,hc,he,hbx⟩:=hrel
    generalize wr=wx at *
    by_cases hkl:k<E.length
    ·obtain ⟨hR,hT,hb,hok,hs',hc2⟩:=HR.out
     obtain ⟨gt,ct',hsl,_,hgt⟩:=own_shape hT (by omega)
     cases hsl
     obtain ⟨q1,q2⟩:=prC_at E k hkl
     obtain ⟨⟨a,b⟩,hab⟩:∃x,E[k]=x:=⟨_,rfl⟩
     rw [hab] at q1 q2
     have z0:wx.cell? ⟨gt,k*2,none⟩=some (.int .i64 (a:Nat)):=(hbx.cell (p:=⟨gt,k*2,none⟩) hgt).trans ((hT.cellAt (k*2) (by omega)).trans q1)
     have z1:wx.cell? ⟨gt,k*2+1,none⟩=some (.int .i64 (b:Nat)):=(hbx.cell (p:=⟨gt,k*2+1,none⟩) hgt).trans ((hT.cellAt (k*2+1) (by omega)).trans q2)
     have hel:=hok.2.2 a b (by rw [←hab];exact List.getElem_mem hkl)
     have hJ:=Un.rjoin_in (own_below ho (Below.refl wx.heap.size wx).drew) a b hel.1 hel.2 (by omega)
     have hcc:∀x y,(x,y)∈E.take (k+1)→paint c a b x=paint c a b y:=by
      intro x y hxy
      rw [List.take_add_one,List.getElem?_eq_getElem hkl,hab] at hxy
      rw [Un.paint_eq]
      rcases List.mem_append.1 hxy with h|h
      ·exact .inl (he x y h)
      ·obtain ⟨rfl,rfl⟩:x=a∧y=b:=by simpa using h
       exact .inr ⟨.inl rfl,.inr rfl⟩
     have hcj:=hc.join hel.1 hel.2 (.eq (by rw [←hab];exact List.getElem_mem hkl))
     obtain ⟨A9,c9,rfl⟩:=Un.row_form ho
     have HKL:=kI hkl
     have HJ:=kI (aI hJ (aI hcc (aI hcj hbx)))
     clear hJ hcc hcj hbx hel q1 q2 hab ho hc he hR hT hb hok hs' hc2
     go_upto_region 14 with fail
     go_still_tail 11,(by kernel_rfl)
     change wpList _ _ _ _ _ wx.drew
     go_wp2_with fail
     refine HJ.out.1.mono ?_
     rintro e w5 ⟨v5,rfl,ho5,hb5⟩
     have hz5:=HJ.out.2.2.2.size
     have HV:=kI (aI (own_mono ho5 (show wq.heap.size≤wx.drew.heap.size from hz5)) (HJ.out.2.2.2.trans (((Below.refl wx.heap.size wx).drew.trans hb5).mono hz5)))
     clear ho5 hb5
     go_wp2_with fail
     go_roundw
     case rel=>exact ⟨k+1,paint c a b,by go_num,HKL.out,HV.out.1,HJ.out.2.2.1,HJ.out.2.1,HV.out.2⟩
     case measure=>have:=HKL.out;simp [intOf];omega
    ·have hke:k=E.length:=by omega
     subst hke
     rw [List.take_length] at he
     obtain ⟨A9,c9,rfl⟩:=Un.row_form ho
     have H3:=kI (aI ho (aI hc (aI he hbx)))
     clear ho hc he hbx
     go_wp2_with fail
     go_loopg [9,11,12,13,14] (2*G.length+1) (fun n s9 s11 _ _ _ wx=>∃(ch:Bool) (c:Nat→Nat),s11 = .bool ch∧wx.ownsRow wq.heap.size 3 1 s9 G.length (rowI G.length c)∧Rc G c E∧(∀a b,(a,b)∈E→c a=c b)∧(ch=false→ClosedC G c)∧Un.cnt G.length c*2+ch.toNat≤n∧Below wq.heap.size wq wx)
     case atStart=>exact ⟨true,c,rfl,H3.out.1,H3.out.2.1,H3.out.2.2.1,(fun h=>absurd h (by decide)),(by have:=Un.cnt_le G.length c;show _*2+1≤_;omega),H3.out.2.2.2⟩
     case round=>
      obtain ⟨ch,c2,rfl,ho,hc,he,hcl,hm,hbx⟩:=hrel
      cases ch with
      | false=>
       have H4:=kI (aI ho (aI hc (aI he (aI (hcl rfl) hbx))))
       clear ho hc he hcl hm hbx H3 HW1
       obtain ⟨A9,c9,rfl⟩:=Un.row_form H4.out.1
       have hbt:=(HR.out.2.2.1.trans (H4.out.2.2.2.2.mono HR.out.2.2.1.size))
       have hF0:wr.heap[w.heap.size]? = some (Obj.cells #[.slice none 0 0,.slice none 0 0] 67):=(hbt.block _ hl0).trans H.out.2.2.2
       have d0:wr.cell? ⟨w.heap.size,0,none⟩=some (.slice none 0 0):=cell_of_row wr _ 0 _ _ (0,0) hF0
       have d1:wr.cell? ⟨w.heap.size,1,none⟩=some (.slice none 0 0):=cell_of_row wr _ 1 _ _ (0,0) hF0
       have z0:wr.frozen? ⟨w.heap.size,0,none⟩=false:=by simp [World.frozen?,hF0]
       have z1:wr.frozen? ⟨w.heap.size,1,none⟩=false:=by simp [World.frozen?,hF0]
       have HF:=kI (aI hbt hF0)
       clear hbt hF0
       go_wp2_with fail
       obtain ⟨V,hV⟩:∃V,(wr.setCell ⟨w.heap.size,0,none⟩ (.slice As G.length cs)).setCell ⟨w.heap.size,1,none⟩ (.slice A9 G.length c9)=V:=⟨_,rfl⟩
       have hE3:Else (fun k=>k=w.heap.size) wr V:=by rw [←hV];exact (Un.Else.set (S:=fun k=>k=w.heap.size) wr (p:=⟨w.heap.size,0,none⟩) rfl _).trans (Un.Else.set (S:=fun k=>k=w.heap.size) _ (p:=⟨w.heap.size,1,none⟩) rfl _)
       have hF1:=heap_setCell_same _ w.heap.size 1 _ _ (.slice A9 G.length c9) (heap_setCell_same wr w.heap.size 0 _ _ (.slice As G.length cs) HF.out.2)
       rw [hV] at hF1 ⊢
       have y0:V.cell? ⟨w.heap.size,0,none⟩=some (.slice As G.length cs):=cell_of_row V _ 0 _ _ (0,0) hF1
       have y1:V.cell? ⟨w.heap.size,1,none⟩=some (.slice A9 G.length c9):=cell_of_row V _ 1 _ _ (0,0) hF1
       obtain ⟨ho,hc,he,hcl,hbx⟩:=H4.out
       obtain ⟨hR,hT,hb,hok,hs',hc2⟩:=HR.out
       have hzq:=hb.size
       have hzr:=hbx.size
       have hR1:=hR.below (by omega) hbx
       refine bodyPost_ret (results_box rfl _ _ w.heap.size (.agg #[.slice As G.length cs,.slice A9 G.length c9]) rfl (load_cls y0 y1)) rfl ?_
       rw [hs']
       refine ⟨_,_,M,c2,rfl,⟨(hR1.1.to (hE3.below (fun k e=>Nat.le_of_eq e.symm) (by omega)) hE3.size (fun b hd hlt=>hE3.block b hlt fun e=>by have:=hd.1;omega)).imp (fun b _ hd=>by have:=hd.1;omega),hR1.2⟩,own_mono (Un.own_else ho hE3 fun k hk e=>by have:=(ho.lt k hk).1;omega) (by omega),hc,fun a b hab=>⟨(hok.2.2 a b hab).1,(hok.2.2 a b hab).2,he a b hab⟩,hcl,?_⟩
       exact (H.out.2.2.1.trans (HF.out.1.mono (Nat.le_of_lt hl0))).trans (hE3.below (fun k e=>Nat.le_of_eq e.symm) (by omega))
      | true=>
       have H4:=kI (aI ho (aI hc (aI he (aI hm hbx))))
       clear ho hc he hcl hm hbx H3 HW1
       go_wp2_with fail
       go_loopw [9,11,12,13,14] (fun s9 s11 s12 _ _ wy=>∃i:Nat,s12 = .int .i64 (i:Nat)∧i≤G.length∧J3 wq G E (Un.cnt G.length c2) (fun _=>True) (fun c=>∀x y,x<i→y<x→DoneP G c x y) s9 s11 wy) (fun _ _ s _ _ _=>G.length-(intOf s).toNat)
       case atStart=>exact ⟨0,rfl,Nat.zero_le _,false,c2,rfl,H4.out.1,H4.out.2.1,H4.out.2.2.1,trivial,(fun h=>by cases h),(fun _=>⟨Nat.le_refl _,fun x y h=>absurd h (Nat.not_lt_zero _)⟩),H4.out.2.2.2.2⟩
       case round=>
        obtain ⟨i,rfl,hi,hJ⟩:=hrel
        have HJ:=kI hJ
        clear hJ
        by_cases hil:i<G.length
        ·obtain ⟨b1,o1,cap1,hv1,_,_,hlt1,hc1⟩:=HR.out.1.1.row.1.2.resolve_left (by rintro ⟨h,_⟩;have:=HR.out.1.len;omega)
         injection hv1 with hA1 hNM hcc1
         subst hA1;subst hcc1
         clear hc1 hNM
         go_wp2_with fail
         go_loopw [9,11,13,14] (fun s9 s11 s13 _ wy=>∃k:Nat,s13 = .int .i64 (k:Nat)∧k≤i∧J3 wq G E (Un.cnt G.length c2) (fun _=>True) (fun c=>(∀x y,x<i→y<x→DoneP G c x y)∧∀y,y<k→DoneP G c i y) s9 s11 wy) (fun _ _ s _ _=>i-(intOf s).toNat)
         case atStart=>exact ⟨0,rfl,Nat.zero_le _,HJ.out.imp (fun _ h=>h) fun c _ h=>⟨h,fun y h=>absurd h (Nat.not_lt_zero _)⟩⟩
         case round=>
          obtain ⟨k,rfl,hk,hJ2⟩:=hrel
          have HJ2:=kI hJ2
          clear hJ2
          by_cases hki:k<i
          ·obtain ⟨ch,c3,rfl,q1,q2,q3,_,q4,q5,q6⟩:=HJ2.out
           obtain ⟨g9,cv9,rfl,_,hg9⟩:=own_shape q1 (by omega)
           have r1:wr.cell? ⟨g9,i,none⟩=some (.int .i64 (c3 i:Nat)):=(q1.cellAt i (by omega)).trans (rowI_get hil)
           have r2:wr.cell? ⟨g9,k,none⟩=some (.int .i64 (c3 k:Nat)):=(q1.cellAt k (by omega)).trans (rowI_get (by omega))
           obtain ⟨ki,⟨v1,v2,v3⟩,p,hp,hpk,hpl,a0,hpa⟩:=HR.out.1.nodeAll i hil
           obtain ⟨kj,⟨v4,v5,v6⟩,p',hp',hpk',hpl',e0,hpa'⟩:=HR.out.1.nodeAll k (by omega)
           have HN:=kI (aI a0 e0)
           obtain ⟨a0,a3⟩:=HN.out.1 wr q6
           obtain ⟨e0,e3⟩:=HN.out.2 wr q6
           dsimp only [slv] at a3 e3 hpl hpl'
           have hkG:k<G.length:=by omega
           have HC:Hid (∀wy,Below wr.heap.size wr wy→DoneP G c3 i k→J3 wq G E (Un.cnt G.length c2) (fun _=>True) (fun c=>(∀x y,x<i→y<x→DoneP G c x y)∧∀y,y<k+1→DoneP G c i y) (.slice (some ⟨g9,0,none⟩) G.length cv9) (.bool ch) wy):=kI fun wy hy hD=>⟨ch,c3,rfl,own_below q1 hy,q2,q3,trivial,q4,fun e=>⟨(q5 e).1,(q5 e).2.1,fun y hyk=>by
            rcases Nat.lt_or_ge y k with h|h
            ·exact (q5 e).2.2 y h
            ·obtain rfl:y=k:=by omega
             exact hD⟩,q6.trans (hy.mono q6.size)⟩
           have HNO:Hid (¬ (c3 i=c3 k∧ki≠1∧ki=kj∧v2=v5)→DoneP G c3 i k):=kI fun hb z z' h1 h2 h3 h4 h5 h6=>by
            rw [hp] at h1
            rw [hp'] at h2
            cases h1
            cases h2
            exact absurd ⟨h3,by rw [←hpk];exact h4,by rw [←hpk,←hpk'];exact h5,by rw [hpl,hpl'];exact h6⟩ hb
           have HS:=kI (aI q1 (aI q2 (aI q3 (aI q4 (aI q5 q6)))))
           have HP:=kI (aI hp (aI hp' (aI hpk (aI hpk' (aI hpl (aI hpl' (aI hpa hpa')))))))
           clear q1 q2 q3 q4 q5 q6 hp hp' hpk hpk' hpl hpl' hpa hpa' HJ2
           go_upto_region 24 with fail
           go_cut [128] from 81 to 128 (fun s128 wx=>∃b:Bool,s128 = .bool b∧(b=false→c3 i=c3 k∧ki≠1∧ki=kj∧v2=v5)∧(b=true→DoneP G c3 i k)∧∃q,wx=wr.drewN q)
           case first=>
            by_cases m1:c3 i=c3 k
            case neg=>
             have t1:((c3 i:Int) != (c3 k:Int))=true:=bne_iff_ne.2 (by omega)
             have HE:=kI (HNO.out (fun h=>m1 h.1))
             clear m1
             go_quiet (fail)
             go_wp2_with fail
             go_meet
             exact ⟨true,rfl,(fun h=>absurd h (by decide)),fun _=>HE.out,_,rfl⟩
            have t1:((c3 i:Int) != (c3 k:Int))=false:=by simp [m1]
            by_cases m2:ki=1
            case pos=>
             have t2:(ki == 1)=true:=by simp [m2]
             have HE:=kI (HNO.out (fun h=>h.2.1 m2))
             clear m1 m2
             go_quiet (fail)
             go_wp2_with fail
             go_meet
             exact ⟨true,rfl,(fun h=>absurd h (by decide)),fun _=>HE.out,_,rfl⟩
            have t2:(ki == 1)=false:=by simp [m2]
            by_cases m3:ki=kj
            case neg=>
             have t3:(ki != kj)=true:=bne_iff_ne.2 m3
             have HE:=kI (HNO.out (fun h=>m3 h.2.2.1))
             clear m1 m2 m3
             go_quiet (fail)
             go_wp2_with fail
             go_meet
             exact ⟨true,rfl,(fun h=>absurd h (by decide)),fun _=>HE.out,_,rfl⟩
            have t3:(ki != kj)=false:=by simp [m3]
            by_cases m4:v2=v5
            case neg=>
             have t4:((v2:Int) != (v5:Int))=true:=bne_iff_ne.2 (by omega)
             have HE:=kI (HNO.out (fun h=>m4 h.2.2.2))
             clear m1 m2 m3 m4
             go_quiet (fail)
             go_wp2_with fail
             go_meet
             exact ⟨true,rfl,(fun h=>absurd h (by decide)),fun _=>HE.out,_,rfl⟩
            have t4:((v2:Int) != (v5:Int))=false:=by simp [m4]
            have HE:=kI (aI m1 (aI m2 (aI m3 m4)))
            clear m1 m2 m3 m4
            go_quiet (fail)
            go_wp2_with fail
            go_meet
            exact ⟨false,rfl,fun _=>HE.out,fun h=>absurd h (by decide),_,rfl⟩
           case rest=>
            obtain ⟨b,rfl,hb1,hb2,qd,rfl⟩:=hcut
            clear a0 a3 e0 e3 r1 r2
            cases b with
            | true=>
             have HE:=kI (hb2 rfl)
             clear hb1 hb2
             go_wp2_with fail
             go_roundw
             case rel=>exact ⟨k+1,by go_num,by omega,HC.out _ (below_drewN (Below.refl _ _) _) HE.out⟩
             case measure=>simp [intOf];omega
            | false=>
             have HM:=kI (hb1 rfl)
             clear hb1 hb2 HC HNO
             have hbd:Below wr.heap.size wr (wr.drewN qd):=below_drewN (Below.refl _ _) _
             have HD:=kI hbd
             clear hbd
             go_wp2_with fail
             go_loopw [9,11,14] (fun s9 s11 s14 wy=>∃j:Nat,s14 = .int .i64 (j:Nat)∧j≤v2∧J3 wq G E (Un.cnt G.length c2) (fun c=>c i=c k) (fun c=>((∀x y,x<i→y<x→DoneP G c x y)∧∀y,y<k→DoneP G c i y)∧JP c p p' j) s9 s11 wy) (fun _ _ s _=>v2-(intOf s).toNat)
             case atStart=>
              obtain ⟨q1,q2,q3,q4,q5,q6⟩:=HS.out
              exact ⟨0,rfl,Nat.zero_le _,ch,c3,rfl,own_below q1 HD.out,q2,q3,HM.out.1,q4,(fun e=>⟨(q5 e).1,(q5 e).2,fun t a b h=>absurd h (Nat.not_lt_zero _)⟩),q6.trans (HD.out.mono q6.size)⟩
             case round=>
              obtain ⟨j,rfl,hj,ch,c4,rfl,q1,q2,q3,q7,q4,q5,q6⟩:=hrel
              generalize wr=wy at *
              obtain ⟨g8,cv8,rfl,_,hg8⟩:=own_shape q1 (by omega)
              obtain ⟨_,a3⟩:=HN.out.1 wy q6
              dsimp only [slv] at a3
              have HT:=kI (aI q1 (aI q2 (aI q3 (aI q7 (aI q4 (aI q5 q6))))))
              clear q1 q2 q3 q7 q4 q5 q6
              by_cases hjv:j<v2
              ·have f1:decide ((j:Int)<(v2:Int))=true:=decide_eq_true (by omega)
               obtain ⟨m1,m2,m3,m4⟩:=HM.out
               obtain ⟨hp,hp',hpk,hpk',hpl,hpl',hpa,hpa'⟩:=HP.out
               have hlj:j<p.2.2.2.length:=by omega
               have hlj':j<p'.2.2.2.length:=by omega
               obtain ⟨a,ha⟩:∃a,p.2.2.2[j]? = some a:=⟨_,List.getElem?_eq_getElem hlj⟩
               obtain ⟨b,hb⟩:∃a,p'.2.2.2[j]? = some a:=⟨_,List.getElem?_eq_getElem hlj'⟩
               obtain ⟨bi,oi,hvi,za⟩:=hpa j a ha
               obtain ⟨bk,ok,hvk,zb⟩:=hpa' j b hb
               subst hvi hvk
               have hv8:v2≤8:=by have h9:=(HR.out.2.2.2.1.2.1 p (List.mem_of_getElem? hp)).1;omega
               have hpt:=HT.out.2.1.part hp hp' HT.out.2.2.2.1 (by rw [hpk];exact m2) (by rw [hpk,hpk'];exact m3) (by omega) ha hb
               have HAB:=kI (aI hp (aI hp' (aI ha (aI hb (aI hpt.2.2 hpl)))))
               have hag:=hpt.1
               have hbg:=hpt.2.1
               have EX:Hid (∀W,Below wy.heap.size wy W→W.cell? ⟨b1,o1+i*4+3,none⟩=some (.slice (some ⟨bi,oi,none⟩) v2 v3)∧W.cell? ⟨b1,o1+k*4+3,none⟩=some (.slice (some ⟨bk,ok,none⟩) v2 v6)∧W.cell? ⟨bi,oi+j,none⟩=some (.int .i64 (a:Nat))∧W.cell? ⟨bk,ok+j,none⟩=some (.int .i64 (b:Nat))):=kI fun W hW=>by
                have hq:=HT.out.2.2.2.2.2.2.trans (hW.mono HT.out.2.2.2.2.2.2.size)
                have x1:=(HN.out.1 W hq).2
                have x2:=(HN.out.2 W hq).2
                dsimp only [slv] at x1 x2
                rw [←m4] at x2
                exact ⟨x1,x2,za W hq,zb W hq⟩
               have HSM:=kI (Un.rsame_in (own_below HT.out.1 (Below.refl wy.heap.size wy).drew) a b hag hbg)
               clear hpt ha hb za zb hp hp' hpk hpk' hpl hpl' hpa hpa' m1 m2 m3 m4 hlj hlj'
               have HJV:=kI hjv
               have hj8:j+1≤8:=by omega
               go_wp2_with fail
               have hS:Below wy.heap.size wy wy.drew:=(Below.refl _ _).drew
               refine wp_region_held (S:=(fun W=>Below wy.heap.size wy W)) (by kernel_rfl) ?_
               change wpAnyH _ _ _ _ _ 19 (List.replicate 19 false).toArray _ wy.drew
               simp only [List.replicate_succ,List.replicate_zero]
               refine tj (i:=0) (some 139) (.slice (some ⟨g8,0,none⟩) G.length cv8) rfl hS ?_
               simp only [Act.put,zA,zB,zC]
               refine tj (i:=1) (some 140) (.slice (some ⟨b1,o1,none⟩) G.length cs) rfl hS ?_
               simp only [Act.put,zA,zB,zC]
               refine tj (i:=2) (some 141) (.int .i64 (i:Nat)) rfl hS ?_
               simp only [Act.put,zA,zB,zC]
               refine tj (i:=3) (some 142) (.pointer (some ⟨b1,o1+i*4,none⟩)) rfl hS ?_
               simp only [Act.put,zA,zB,zC]
               refine tj (i:=4) (some 143) (.pointer (some ⟨b1,o1+i*4+3,none⟩)) rfl hS ?_
               simp only [Act.put,zA,zB,zC]
               refine tk (i:=5) (some 144) (.slice (some ⟨bi,oi,none⟩) v2 v3) rfl (fun W hw=>by obtain ⟨e1,e2,e3,e4⟩:=EX.out W hw;clear hw;go_simp) hS ?_
               simp only [Act.put,zA,zB,zC]
               refine tj (i:=6) (some 145) (.int .i64 (j:Nat)) rfl hS ?_
               simp only [Act.put,zA,zB,zC]
               refine tj (i:=7) (some 146) (.pointer (some ⟨bi,oi+j,none⟩)) rfl hS ?_
               simp only [Act.put,zA,zB,zC]
               refine tk (i:=8) (some 147) (.int .i64 (a:Nat)) rfl (fun W hw=>by obtain ⟨e1,e2,e3,e4⟩:=EX.out W hw;clear hw;go_simp) hS ?_
               simp only [Act.put,zA,zB,zC]
               refine tj (i:=9) (some 148) (.slice (some ⟨b1,o1,none⟩) G.length cs) rfl hS ?_
               simp only [Act.put,zA,zB,zC]
               refine tj (i:=10) (some 149) (.int .i64 (k:Nat)) rfl hS ?_
               simp only [Act.put,zA,zB,zC]
               refine tj (i:=11) (some 150) (.pointer (some ⟨b1,o1+k*4,none⟩)) rfl hS ?_
               simp only [Act.put,zA,zB,zC]
               refine tj (i:=12) (some 151) (.pointer (some ⟨b1,o1+k*4+3,none⟩)) rfl hS ?_
               simp only [Act.put,zA,zB,zC]
               refine tk (i:=13) (some 152) (.slice (some ⟨bk,ok,none⟩) v2 v6) rfl (fun W hw=>by obtain ⟨e1,e2,e3,e4⟩:=EX.out W hw;clear hw;go_simp) hS ?_
               simp only [Act.put,zA,zB,zC]
               refine tj (i:=14) (some 153) (.int .i64 (j:Nat)) rfl hS ?_
               simp only [Act.put,zA,zB,zC]
               refine tj (i:=15) (some 154) (.pointer (some ⟨bk,ok+j,none⟩)) rfl hS ?_
               simp only [Act.put,zA,zB,zC]
               refine tk (i:=16) (some 155) (.int .i64 (b:Nat)) rfl (fun W hw=>by obtain ⟨e1,e2,e3,e4⟩:=EX.out W hw;clear hw;go_simp) hS ?_
               simp only [Act.put,zA,zB,zC]
               refine aK 17 ?_
               refine ops_call (d:=some 156) rfl (by rfl) (by kernel_rfl) (by go_simp) (HSM.out.mono ?_)
               rintro e w5 ⟨rfl,q5,hq5⟩
               have hS5:Below wy.heap.size wy w5:=by rw [hq5];exact below_drewN hS _
               clear hq5
               refine ⟨_,rfl,hS5,?_⟩
               simp only [Act.put,zA,zB,zC]
               obtain ⟨bs,hbs⟩:∃bs,(c4 a == c4 b)=bs:=⟨_,rfl⟩
               rw [hbs]
               have HBS:=kI hbs
               clear hbs
               refine tj (i:=18) (some 157) (.bool (!bs)) rfl hS5 ?_
               simp only [Act.put,zA,zB,zC]
               refine wpAnyH_done (by kernel_rfl) ?_ _
               have EX5:Hid (∀W,Below w5.heap.size w5 W→W.cell? ⟨b1,o1+i*4+3,none⟩=some (.slice (some ⟨bi,oi,none⟩) v2 v3)∧W.cell? ⟨b1,o1+k*4+3,none⟩=some (.slice (some ⟨bk,ok,none⟩) v2 v6)∧W.cell? ⟨bi,oi+j,none⟩=some (.int .i64 (a:Nat))∧W.cell? ⟨bk,ok+j,none⟩=some (.int .i64 (b:Nat))):=kI fun W hW=>EX.out W (hS5.trans (hW.mono hS5.size))
               have HJN:=kI (Un.rjoin_in (own_below (own_below HT.out.1 hS5) (Below.refl w5.heap.size w5).drew) a b hag hbg (by omega))
               have HS5:=kI hS5
               clear hS hS5 EX HSM
               cases bs with
               | true=>
                go_wp2_with fail
                go_roundw
                case rel=>
                 obtain ⟨q1,q2,q3,q7,q4,q5,q6⟩:=HT.out
                 obtain ⟨hp,hp',ha,hb,_,hpl⟩:=HAB.out
                 refine ⟨j+1,by go_num,HJV.out,ch,c4,rfl,own_below q1 HS5.out,q2,q3,q7,q4,fun e=>⟨(q5 e).1,(q5 e).2.1,fun t a' b' ht ha' hb'=>?_⟩,q6.trans (HS5.out.mono q6.size)⟩
                 rcases Nat.lt_or_ge t j with h|h
                 ·exact (q5 e).2.2 t a' b' h ha' hb'
                 ·obtain rfl:t=j:=by omega
                  rw [ha] at ha'
                  rw [hb] at hb'
                  cases ha'
                  cases hb'
                  exact beq_iff_eq.1 HBS.out
                case measure=>have:=HJV.out;simp [intOf];omega
               | false=>
                go_wp2_with fail
                have hS:Below w5.heap.size w5 w5.drew:=(Below.refl _ _).drew
                refine wp_region_held (S:=(fun W=>Below w5.heap.size w5 W)) (by kernel_rfl) ?_
                change wpAnyH _ _ _ _ _ 19 (List.replicate 19 false).toArray _ w5.drew
                simp only [List.replicate_succ,List.replicate_zero]
                refine tj (i:=0) (some 158) (.slice (some ⟨g8,0,none⟩) G.length cv8) rfl hS ?_
                simp only [Act.put,zA,zB,zC]
                refine tj (i:=1) (some 159) (.slice (some ⟨b1,o1,none⟩) G.length cs) rfl hS ?_
                simp only [Act.put,zA,zB,zC]
                refine tj (i:=2) (some 160) (.int .i64 (i:Nat)) rfl hS ?_
                simp only [Act.put,zA,zB,zC]
                refine tj (i:=3) (some 161) (.pointer (some ⟨b1,o1+i*4,none⟩)) rfl hS ?_
                simp only [Act.put,zA,zB,zC]
                refine tj (i:=4) (some 162) (.pointer (some ⟨b1,o1+i*4+3,none⟩)) rfl hS ?_
                simp only [Act.put,zA,zB,zC]
                refine tk (i:=5) (some 163) (.slice (some ⟨bi,oi,none⟩) v2 v3) rfl (fun W hw=>by obtain ⟨e1,e2,e3,e4⟩:=EX5.out W hw;clear hw;go_simp) hS ?_
                simp only [Act.put,zA,zB,zC]
                refine tj (i:=6) (some 164) (.int .i64 (j:Nat)) rfl hS ?_
                simp only [Act.put,zA,zB,zC]
                refine tj (i:=7) (some 165) (.pointer (some ⟨bi,oi+j,none⟩)) rfl hS ?_
                simp only [Act.put,zA,zB,zC]
                refine tk (i:=8) (some 166) (.int .i64 (a:Nat)) rfl (fun W hw=>by obtain ⟨e1,e2,e3,e4⟩:=EX5.out W hw;clear hw;go_simp) hS ?_
                simp only [Act.put,zA,zB,zC]
                refine tj (i:=9) (some 167) (.slice (some ⟨b1,o1,none⟩) G.length cs) rfl hS ?_
                simp only [Act.put,zA,zB,zC]
                refine tj (i:=10) (some 168) (.int .i64 (k:Nat)) rfl hS ?_
                simp only [Act.put,zA,zB,zC]
                refine tj (i:=11) (some 169) (.pointer (some ⟨b1,o1+k*4,none⟩)) rfl hS ?_
                simp only [Act.put,zA,zB,zC]
                refine tj (i:=12) (some 170) (.pointer (some ⟨b1,o1+k*4+3,none⟩)) rfl hS ?_
                simp only [Act.put,zA,zB,zC]
                refine tk (i:=13) (some 171) (.slice (some ⟨bk,ok,none⟩) v2 v6) rfl (fun W hw=>by obtain ⟨e1,e2,e3,e4⟩:=EX5.out W hw;clear hw;go_simp) hS ?_
                simp only [Act.put,zA,zB,zC]
                refine tj (i:=14) (some 172) (.int .i64 (j:Nat)) rfl hS ?_
                simp only [Act.put,zA,zB,zC]
                refine tj (i:=15) (some 173) (.pointer (some ⟨bk,ok+j,none⟩)) rfl hS ?_
                simp only [Act.put,zA,zB,zC]
                refine tk (i:=16) (some 174) (.int .i64 (b:Nat)) rfl (fun W hw=>by obtain ⟨e1,e2,e3,e4⟩:=EX5.out W hw;clear hw;go_simp) hS ?_
                simp only [Act.put,zA,zB,zC]
                refine aK 17 ?_
                refine ops_call (d:=some 175) rfl (by rfl) (by kernel_rfl) (by go_simp) (HJN.out.mono ?_)
                rintro e w6 ⟨v7,rfl,ho6,hb6⟩
                obtain ⟨Aj,cj,rfl⟩:=Un.row_form ho6
                have hS6:Below w5.heap.size w5 w6:=hS.trans (hb6.mono hS.size)
                refine ⟨_,rfl,hS6,?_⟩
                simp only [Act.put,zA,zB,zC]
                refine tj (i:=18) (some 9) (.slice Aj G.length cj) rfl hS6 ?_
                simp only [Act.put,zA,zB,zC]
                refine wpAnyH_done (by kernel_rfl) ?_ _
                have HJ6:=kI (aI ho6 hS6)
                clear ho6 hS6 hb6 hS EX5 HJN
                go_wp2_with fail
                go_roundw
                case rel=>
                 obtain ⟨q1,q2,q3,q7,q4,q5,q6⟩:=HT.out
                 have hne:c4 a≠c4 b:=fun e=>by have:=HBS.out;rw [e] at this;simp at this
                 have hcn:=Un.cnt_paint hag hbg hne
                 have hqb:Below wq.heap.size wq w6:=q6.trans ((HS5.out.trans (HJ6.out.2.mono HS5.out.size)).mono q6.size)
                 refine ⟨j+1,by go_num,HJV.out,true,paint c4 a b,rfl,own_mono HJ6.out.1 (Nat.le_trans q6.size HS5.out.size),HAB.out.2.2.2.2.1,fun x y hxy=>(Un.paint_eq _ _ _ _ _).2 (.inl (q3 x y hxy)),(Un.paint_eq _ _ _ _ _).2 (.inl q7),fun _=>?_,(fun h=>by cases h),hqb⟩
                 cases ch with
                 | true=>have:=q4 rfl;omega
                 | false=>have:=(q5 rfl).1;omega
                case measure=>have:=HJV.out;simp [intOf];omega
              ·have hje:j=v2:=by omega
               subst hje
               go_wp2_with fail
               go_roundw
               case rel=>
                obtain ⟨q1,q2,q3,q7,q4,q5,q6⟩:=HT.out
                obtain ⟨hp,hp',hpk,hpk',hpl,hpl',_,_⟩:=HP.out
                exact ⟨k+1,by go_num,by omega,ch,c4,rfl,q1,q2,q3,trivial,q4,fun e=>⟨(q5 e).1,(q5 e).2.1.1,fun y hyk=>by
                 rcases Nat.lt_or_ge y k with h|h
                 ·exact (q5 e).2.1.2 y h
                 ·obtain rfl:y=k:=by omega
                  intro z z' h1 h2 h3 h4 h5 h6 t a b ha hb
                  rw [hp] at h1
                  rw [hp'] at h2
                  cases h1
                  cases h2
                  exact (q5 e).2.2 t a b (by have:=(List.getElem?_eq_some_iff.1 ha).1;omega) ha hb⟩,q6⟩
               case measure=>simp [intOf];omega
          ·have hke:k=i:=by omega
           subst hke
           go_wp2_with fail
           go_roundw
           case rel=>exact ⟨k+1,by go_num,by omega,HJ2.out.imp (fun _ h=>h) fun c _ h x y hx hy=>by
            rcases Nat.lt_or_ge x k with h1|h1
            ·exact h.1 x y h1 hy
            ·obtain rfl:x=k:=by omega
             exact h.2 y hy⟩
           case measure=>simp [intOf];omega
        ·have hie:i=G.length:=by omega
         subst hie
         obtain ⟨ch,c3,rfl,q1,q2,q3,_,q4,q5,q6⟩:=HJ.out
         have HK:=kI (aI q1 (aI q2 (aI q3 (aI q4 (aI q5 q6)))))
         clear q1 q2 q3 q4 q5 q6 HJ
         go_wp2_with fail
         go_roundg (Un.cnt G.length c3*2+ch.toNat)
         case measure=>
          have h1:=HK.out.2.2.2.1
          have h2:=HK.out.2.2.2.2.1
          have h3:=H4.out.2.2.2.1
          cases ch with
          | false=>have:=(h2 rfl).1;simp at h3 ⊢;omega
          | true=>have:=h1 rfl;simp at h3 ⊢;omega
         case rel=>exact ⟨ch,c3,rfl,HK.out.1,HK.out.2.1,HK.out.2.2.1,fun e=>closed_done fun x y hx hy=>(HK.out.2.2.2.2.1 e).2 x y hx hy,Nat.le_refl _,HK.out.2.2.2.2.2⟩
end
end Go.Proofs.YtmamdiggjghjkaaGreatDoor
