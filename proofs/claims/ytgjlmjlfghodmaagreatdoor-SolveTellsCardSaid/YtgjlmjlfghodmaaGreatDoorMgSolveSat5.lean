/- Texts of one proof, one behind the other. -/
import Derived.Test.YtgjlmjlfghodmaaGreatDoorMgSolveSat1
import Derived.Test.YtgjlmjlfghodmaaGreatDoorMgSolveSat4
import Derived.Test.YtgjlmjlfghodmaaGreatDoorMgSolveSat3
import Derived.Test.YtgjlmjlfghodmaaGreatDoorMgSolveSat2
import Derived.Shelf.Strings.BuilderK
import Derived.Test.YtgjlmjlfghodmaaGreatDoorProg
import Derived.Test.YtgjlmjlfghodmaaGreatDoorShBu
import Derived.Laws.IdiomStrings
import Derived.WalkSmall
import Derived.Lib.ItoaLen
set_option linter.unusedVariables false
namespace Go.Proofs.YtgjlmjlfghodmaaGreatDoor
open Go.RowKit Go.Shelf
attribute [local go_sem] Oper.semAt_some
set_option maxRecDepth 100000 in
set_option maxHeartbeats 4000000 in
theorem arrow_any (w:World) (f:Fo) (vl:Value) (hvl:TyV w.heap.size w f vl) (hsz:f.size<1000000):
  Calls Tryz.prog 39 #[vl] w fun e w'=>∃u':Sl,e = .returned (tyVal f.arrF.1 f.arrF.2.1 (slv u'))∧Below w.heap.size w w'∧FreshT 28 w.heap.size w' idn f.arrF.2.2 u':=by
 obtain ⟨A,c,rfl⟩:=hvl.slice
 have hll:=f.len_le_size
 refine (callsIn_wide (n:=4)).1 ?_
 refine callsIn_of_wp_marks Tryz.func39 rfl trivial ?_ rfl
 simp only [Tryz.ntmps39,List.size_toArray,List.length_cons,List.length_nil,Nat.reduceAdd,Nat.reduceSub,Array.replicate_succ,Array.replicate_zero,List.push_toArray,List.append_toArray,List.nil_append,List.cons_append]
 gi_wp2_with (refine ⟨trivial,?_⟩;gi_at_call 70;refine (callsIn_wide.2 (back_make A f.len c _)).mono ?_;rintro e w' ⟨rfl,rfl⟩)
 obtain ⟨w0,hw0⟩:∃w0,(((w.alloc (.cells #[.slice A f.len c] 26)).alloc (.cells #[.int .i64 0,.int .i64 0,.slice none 0 0] 28)).alloc (.cells #[.int .i64 0,.int .i64 0,.slice none 0 0] 28)).alloc (.cells #[.slice A f.len c] 26)=w0:=⟨_,rfl⟩
 have hs0:w0.heap.size=w.heap.size+4:=by rw [←hw0];simp
 have hB0:Below w.heap.size w w0:=by rw [←hw0];exact ((((Below.refl _ w).alloc (Nat.le_refl _) _).alloc (by simp) _).alloc (by simp only [World.size_alloc];omega) _).alloc (by simp only [World.size_alloc];omega) _
 have h0:w0.heap[w.heap.size]? = some (.cells #[.slice A f.len c] 26):=by
  rw [←hw0]
  exact (Below.heap_alloc _ _ _ (by simp only [World.size_alloc];omega)).trans ((Below.heap_alloc _ _ _ (by simp only [World.size_alloc];omega)).trans ((Below.heap_alloc _ _ _ (by simp only [World.size_alloc];omega)).trans (heap_alloc_new w _)))
 have h1:w0.heap[w.heap.size+1]? = some (.cells rt0 28):=by
  rw [←hw0]
  refine (Below.heap_alloc _ _ _ (by simp only [World.size_alloc];omega)).trans ((Below.heap_alloc _ _ _ (by simp only [World.size_alloc];omega)).trans ?_)
  have:=heap_alloc_new (w.alloc (.cells #[.slice A f.len c] 26)) (.cells #[.int .i64 0,.int .i64 0,.slice none 0 0] 28)
  rwa [World.size_alloc] at this
 have h2:w0.heap[w.heap.size+2]? = some (.cells rt0 28):=by
  rw [←hw0]
  refine (Below.heap_alloc _ _ _ (by simp only [World.size_alloc];omega)).trans ?_
  have:=heap_alloc_new ((w.alloc (.cells #[.slice A f.len c] 26)).alloc (.cells #[.int .i64 0,.int .i64 0,.slice none 0 0] 28)) (.cells #[.int .i64 0,.int .i64 0,.slice none 0 0] 28)
  simp only [World.size_alloc] at this
  exact this
 have h3:w0.heap[w.heap.size+3]? = some (.cells #[.slice A f.len c] 26):=by
  rw [←hw0]
  have:=heap_alloc_new (((w.alloc (.cells #[.slice A f.len c] 26)).alloc (.cells #[.int .i64 0,.int .i64 0,.slice none 0 0] 28)).alloc (.cells #[.int .i64 0,.int .i64 0,.slice none 0 0] 28)) (.cells #[.slice A f.len c] 26)
  simp only [World.size_alloc] at this
  exact this
 have hR0:RdX w.heap.size w0 (.slice A f.len c) f.top:=hvl.rd.below hB0
 have hTL:TyL w.heap.size w f:=hvl.list
 rw [hw0]
 rw [←Fo.top_len] at h0 h3 hR0 ⊢
 have hinv:ArInv w (.slice A f.top.length c) f 0 w0:=by
  have hdl:f.drop (f.len-0) = .nil:=f.drop_len
  refine ⟨⟨(none,0,0),?_,?_⟩,h0,h1,hB0⟩
  ·rw [hdl];exact h2
  ·rw [hdl]
   intro W _ _
   exact ⟨.nil,trivial,tyV_nil.2 ⟨none,0,rfl⟩⟩
 have h33:Boxed w0 (w.heap.size+3) 26 (.slice A f.top.length c):=h3
 clear hw0 h0 h1 h2 h3
 refine wpIn_rangeG (by omega) (gf:=102) (lb:=#[.pointer (some ⟨w.heap.size+1+1+1,0,none⟩)]) rfl (enters_of Tryz.func102 (by kernel_rfl) rfl)
  (back_seqG 3 (by omega) (w.heap.size+3) w.heap.size 171 A c f.top (by rw [Fo.top_len];omega) w0 (by omega) h33 hR0) (Below.refl _ _) KpB.t (KpB.b (by omega)) (fun _=>rfl)
  (fun pre W=>ArInv w (.slice A f.top.length c) f pre.length W∧Boxed W (w.heap.size+3) 26 (.slice A f.top.length c)) (fun _ _ _=>False)
  (OwnFrom.and (ArInv.own _ (by omega)) (Own.from (boxed_own _ _ (fun _=>.slice A f.top.length c)) _)) (fun _ _ _ _ _ hs _ _=>hs)
  (AbC.and (ArInv.ab _ (by omega)) (box_ab (by decide))) (fun _ _ _ _ hs _=>hs)
  ⟨hinv,h33⟩
  (fun x a' W=>∃Bx,W.heap[Bx]? = some (Obj.cells #[.int .i64 x.2.1,.int .i64 x.2.2.1,slv x.2.2.2] 28)∧a' = { tmps:=#[.slice A f.top.length c,.pointer (some ⟨w.heap.size,0,none⟩),.pointer (some ⟨w.heap.size+1,0,none⟩),.pointer (some ⟨w.heap.size+1+1,0,none⟩),.int .i64 x.1,.pointer (some ⟨Bx,0,none⟩),.slice A f.top.length c,.func (.func 102) #[] #[.pointer (some ⟨w.heap.size+1+1+1,0,none⟩)],.int .i64 x.1,trV x.2,undef,undef,undef,undef,undef,undef,undef,undef,undef,undef,undef,undef,undef],defers:=[] })
  (fun x a' s W W' row hs hg hr=>by
   obtain ⟨Bx,hc,ha⟩:=hs
   refine ⟨Bx,(hg.block Bx (gL hc).1 fun e=>?_).trans hc,ha⟩
   obtain ⟨o,ho,hoc⟩:=(hr Bx e.symm).2
   rw [hc] at ho
   cases ho
   cases hoc) ?assign ?body ?done ?stop
 case assign=>
  rintro l pre x W K hi hK
  obtain ⟨x0,x1,x2,A3,n3,c3⟩:=x
  dsimp only [trV,slv] at hK ⊢
  have hbel:=hi.1.2.2.2
  have hsW:=hbel.size
  have hlt3:=hi.2.lt
  have HI:=kI hi
  clear hi
  gi_wp2
  refine hK _ _ ((KeepsOthers.alloc _ _).from _) ⟨(Below.refl _ _).alloc hsW _,fun o ho _=>(Below.heap_alloc _ _ _ hlt3).trans ho⟩ ?_ ⟨W.heap.size,heap_alloc_new W _,rfl⟩
  exact ⟨(ArInv.own w.heap.size (Nat.le_refl _)).alloc (s:=pre) _ HI.out.1,HI.out.2.alloc _⟩
 case body=>
  rintro l pre x a' W hl ⟨hi,hbx⟩ ⟨Bx,hc,rfl⟩ ⟨hpl,hx⟩
  obtain ⟨q,hq⟩:∃q,f.top.length=q:=⟨_,rfl⟩
  obtain ⟨i,hii⟩:∃i,f.top.length-1-pre.length=i:=⟨_,rfl⟩
  have hqf:f.len=q:=by rw [←hq,Fo.top_len]
  have hil:i<f.len:=by omega
  have htop:=f.top_get i (by rw [Fo.top_len];exact hil)
  have hds:=f.drop_step i hil
  have hpsz:=f.at_size i hil
  have hpT:=hTL.at i hil
  simp only [hii] at hx
  rw [htop] at hx
  have hd1:f.drop (f.len-(pre.length+1))=f.drop i:=by congr 1;omega
  have hd0:f.drop (f.len-pre.length)=f.drop (i+1):=by congr 1;omega
  have hdl:=f.len_drop (i+1)
  subst hx
  generalize f.at_ i=p at *
  obtain ⟨k,n,⟨u1,u2,u3⟩,ps⟩:=p
  dsimp only [trV,slv] at hc hpT hpsz hds ⊢
  have hbw:=hi.2.2.2
  have hsW:=hbw.size
  obtain ⟨⟨ua,hua,hfa⟩,hbp,hrt,_⟩:=id hi
  have hFC:∀Wx,Below W.heap.size W Wx→Calls Tryz.prog 52 #[tyVal k n (.slice u1 u2 u3)] Wx fun e w'=>∃u':Sl,e = .returned (tyVal k n (slv u'))∧Below Wx.heap.size Wx w'∧FreshT 28 Wx.heap.size w' idn ps u':=
   fun Wx hx=>copy_any Wx k n (u1,u2,u3) ps (hpT.keep (Nat.le_trans hsW hx.size) fun b off hb=>((hbw.trans (hx.mono hsW)).cell (p:=⟨b,off,none⟩) hb)) (by omega)
  have e0:W.cell? ⟨w.heap.size,0,none⟩=some (.slice A q c):=by rw [←hq];exact hbp.cell
  have x0:W.cell? ⟨Bx,0,none⟩=some (.int .i64 k):=cell_of_row W Bx 0 _ _ (0,0) hc
  have x1:W.cell? ⟨Bx,1,none⟩=some (.int .i64 n):=cell_of_row W Bx 1 _ _ (0,0) hc
  have x2:W.cell? ⟨Bx,2,none⟩=some (.slice u1 u2 u3):=cell_of_row W Bx 2 _ _ (0,0) hc
  have hl2:w.heap.size+2<W.heap.size:=(gL hua).1
  have hl4:w.heap.size+4≤W.heap.size:=by have:=hbx.lt;omega
  have HI:=kI hi
  have HBX:=kI hbx
  have HFA:=kI hfa
  have HUA:=kI hua
  have HDS:=kI hds
  have HD:=kI (aI hd1 (aI hd0 hdl))
  have HFC:=kI hFC
  have HQ:=kI (aI hq (aI hqf (aI hii hil)))
  have HBW:=kI hbw
  have hiq:(i:Int)+pre.length+1=q:=by omega
  have HIQ:=kI hiq
  have hpq:pre.length<q:=by omega
  have hqb:q≤1000000:=by omega
  rw [hq] at *
  clear hi hbx hfa hds hd1 hd0 hdl hFC hq hqf hii hil htop hpT hbw hbp hrt hc hiq hpl hR0 hinv h33 hTL hua
  rcases Nat.eq_zero_or_pos pre.length with hp0|hp0
  ·have f1:((i:Int) == (q:Int)-1)=true:=by have:=HIQ.out;simp;omega
   gi_wp2_with (refine ⟨trivial,?_⟩;gi_at_call 52;refine (CallsIn.inRound l (callsIn_wide.2 (HFC.out W (Below.refl _ _)))).mono ?_;rintro e w3 ⟨⟨v1,v2,v3⟩,rfl,hb3,hf3⟩;obtain ⟨r0,r1,r2,z0,z1,z2,W4,hW4,h4,hsz4,hfar,hb4⟩:=set3 (w:=w3) (w.heap.size+1+1) _ _ _ (.int .i64 k) (.int .i64 n) (.slice v1 v2 v3) ((hb3.block _ hl2).trans HUA.out);have H3:=kI (aI hb3 (aI hf3 (aI h4 (aI hsz4 (aI hfar hb4)))));clear hb3 hf3 h4 hsz4 hfar hb4;dsimp only [tyVal,slv])
   obtain ⟨hb3,hf3,h4,hsz4,hfar,hb4⟩:=H3.out
   obtain ⟨hd1,hd0,hdl⟩:=HD.out
   have harr:(f.drop i).arrF=(k,n,ps):=by
    rw [HDS.out,Fo.arrF,if_pos (by have:=HQ.out;have:=HIQ.out;omega)]
   obtain ⟨y1,y2,y3⟩:=ar_fin (x:=((i:Int),k,n,(u1,u2,u3))) (u:=(v1,v2,v3)) HI.out hb3 h4 hsz4 hfar hb4 (by rw [hd1,harr]) (by rw [hd1,harr]) (by rw [hd1,harr];exact hf3.mono (by omega)) HBX.out (w.heap.size+4) (by omega) (by omega)
   exact ⟨y1,y2,y3,y2.boxed HBX.out⟩
  ·have f1:((i:Int) == (q:Int)-1)=false:=by
    refine beq_eq_false_iff_ne.2 ?_
    have:=HIQ.out
    omega
   have hmix:Tryz.prog.follows Departure.mixedOrders=true:=by kernel_rfl
   have HUA2:=HUA.out
   rw [HD.out.2.1] at HUA2
   have hfa2:=HFA.out
   rw [HD.out.2.1] at hfa2
   generalize hax:(f.drop (i+1)).arrF=ax at *
   obtain ⟨xk,xn,xps⟩:=ax
   obtain ⟨ua1,ua2,ua3⟩:=ua
   dsimp only [slv] at HUA2 hfa2
   obtain ⟨s0,s1,s2,_⟩:=set3 (w:=W) (w.heap.size+1+1) _ _ _ (.int .i64 k) (.int .i64 n) (.slice none 0 0) HUA2
   have HUA3:=kI HUA2
   have HFA3:=kI hfa2
   have HAX:=kI hax
   clear HUA HFA HUA2 hfa2 hax
   gi_wp2
   gi_region_with_o (refine ⟨trivial,?_⟩;gi_at_call 52;refine (CallsIn.inRound l (callsIn_wide.2 (HFC.out W.drew ((Below.refl _ _).drew)))).mono ?_;rintro e w3 ⟨⟨v1,v2,v3⟩,rfl,hb3,hf3⟩;obtain ⟨r0,r1,r2,z0,z1,z2,W4,hW4,h4,hsz4,hfar,hb4⟩:=set3 (w:=w3) (w.heap.size+1+1) _ _ _ (.int .i64 4) (.int .i64 0) (.slice (some ⟨w3.heap.size,0,none⟩) 2 2) ((hb3.block _ hl2).trans HUA3.out);have hl3:w.heap.size+1+1<w3.heap.size:=Nat.lt_of_lt_of_le hl2 hb3.size;have H3:=kI (aI hb3 (aI hf3 (aI h4 (aI hsz4 (aI hfar hb4)))));clear hb3 hf3 h4 hsz4 hfar hb4;dsimp only [tyVal,slv])
   all_goals gi_wp2
   all_goals
    obtain ⟨hb3,hf3,h4,hsz4,hfar,hb4⟩:=H3.out
    obtain ⟨hd1,hd0,hdl⟩:=HD.out
    have harr:(f.drop i).arrF=(4,0,.cons k n (u1,u2,u3) ps (.cons xk xn (none,0,0) xps .nil)):=by
     rw [HDS.out,Fo.arrF,if_neg (by have:=HQ.out;have:=HIQ.out;omega),HAX.out]
    have hb3':Below W.heap.size W w3:=(Below.refl _ W).drew.trans hb3
    have ho:∀o:Obj,Below w3.heap.size w3 (w3.alloc o):=fun o=>(Below.refl _ _).alloc (Nat.le_refl _) o
    obtain ⟨y1,y2,y3⟩:=ar_fin (W3:=w3.alloc (.cells #[.int .i64 k,.int .i64 n,.slice v1 v2 v3,.int .i64 xk,.int .i64 xn,.slice ua1 ua2 ua3] 28)) (W4:=W4.alloc (.cells #[.int .i64 k,.int .i64 n,.slice v1 v2 v3,.int .i64 xk,.int .i64 xn,.slice ua1 ua2 ua3] 28)) (x:=((i:Int),k,n,(u1,u2,u3))) (u:=(some ⟨w3.heap.size,0,none⟩,2,2)) (o:=#[.slice A q c]) HI.out (hb3'.trans ((ho _).mono hb3'.size)) ((Below.heap_alloc _ _ _ (by omega)).trans h4) (by simp [hsz4]) (fun b hne=>by simp only [World.alloc,Array.getElem?_push,hsz4,hfar b hne]) ⟨hb4.os,hb4.tape,hb4.output,by simp [hsz4],fun b hb=>by simp only [World.alloc,Array.getElem?_push,hsz4,hb4.block b hb]⟩ (by rw [hd1,harr]) (by rw [hd1,harr])
     (by
      rw [hd1,harr]
      refine FreshT.two (kx:=k) (nx:=n) (ux:=(v1,v2,v3)) (ky:=xk) (ny:=xn) (uy:=(ua1,ua2,ua3)) ((hf3.mono (show w.heap.size+3≤W.heap.size by omega)).below (ho _)) ((HFA3.out.below hb3').below (ho _)) w3.heap.size (by omega) (heap_alloc_new w3 _)) HBX.out (w.heap.size+4) (by omega) (by omega)
    refine ⟨?_,y2,y3,y2.boxed HBX.out⟩
    first|exact y1|(rw [hs0];exact y1)
 case done=>
  rintro D ys W hD hys ⟨hi,hbx⟩ hK
  have hlen:ys.length=f.len:=by
   have:(ys.map (·.2)).length=f.top.reverse.length:=by rw [hys]
   simpa [Fo.top_len] using this
  rw [hlen] at hi
  have hdr:f.drop (f.len-f.len)=f:=by rw [Nat.sub_self];exact f.drop_zero
  unfold ArInv at hi
  rw [hdr] at hi
  obtain ⟨⟨⟨ua1,ua2,ua3⟩,hua,hfa⟩,hbp,hrt,hbw⟩:=hi
  generalize hax:f.arrF=ax at *
  obtain ⟨xk,xn,xps⟩:=ax
  dsimp only [slv] at hua hfa ⊢
  have x0:W.cell? ⟨w.heap.size+1+1,0,none⟩=some (.int .i64 xk):=cell_of_row W _ 0 _ _ (0,0) hua
  have x1:W.cell? ⟨w.heap.size+1+1,1,none⟩=some (.int .i64 xn):=cell_of_row W _ 1 _ _ (0,0) hua
  have x2:W.cell? ⟨w.heap.size+1+1,2,none⟩=some (.slice ua1 ua2 ua3):=cell_of_row W _ 2 _ _ (0,0) hua
  obtain ⟨r0,r1,r2,z0,z1,z2,W4,hW4,h4,hsz4,hfar,hb4⟩:=set3 (w:=W) (w.heap.size+1) _ _ _ (.int .i64 xk) (.int .i64 xn) (.slice ua1 ua2 ua3) hrt
  have hK4:W4.heap[D]? = some (.deferred (some [])):=(hfar D (by omega)).trans hK
  have hgp:=grownBy_putObj' W4 D (.deferred none)
  have h5:(W4.putObj D (.deferred none)).heap[w.heap.size+1]? = some (Obj.cells #[.int .i64 xk,.int .i64 xn,.slice ua1 ua2 ua3] 28):=(hgp.block _ (gL h4).1 (fun e=>by injection e with e;omega)).trans h4
  have hb5:Below w.heap.size w (W4.putObj D (.deferred none)):=(hbw.trans (hb4.mono (by omega))).trans ((Below.refl _ _).grown hgp (by have:=hbw.size;omega) (fun k e=>by cases e;omega))
  have hf5:FreshT 28 w.heap.size (W4.putObj D (.deferred none)) idn xps (ua1,ua2,ua3):=by
   refine (hfa.to (Nat.le_trans (by omega) hgp.size) fun b cs hb hc=>?_).mono (by omega)
   have hbl:=(gL hc).1
   refine (hgp.block b (by omega) (fun e=>?_)).trans ((hfar b (by omega)).trans hc)
   injection e with e
   rw [e,hK] at hc
   cases hc
  have HLD:=kI (load_ty (w:=W4.putObj D (.deferred none)) (g:=w.heap.size+1) (k:=xk) (n:=xn) (u:=(ua1,ua2,ua3)) (cell_of_row _ _ 0 _ _ (0,0) h5) (cell_of_row _ _ 1 _ _ (0,0) h5) (cell_of_row _ _ 2 _ _ (0,0) h5))
  have HB5:=kI hb5
  have HF5:=kI hf5
  have HK4:=kI hK4
  have HAX:=kI hax
  clear hua hfa hbp hrt hbw hbx hK hgp h5 hb5 hf5 hK4 h4 hsz4 hfar hb4 hax hys hlen hdr
  gi_wp2
  refine ⟨by simp,.inl ⟨_,_,rfl,run_takeDeferred HK4.out,?_⟩⟩
  exact ⟨_,results_box rfl _ _ _ _ rfl HLD.out,(ua1,ua2,ua3),by rw [HAX.out],HB5.out,by rw [HAX.out];exact HF5.out⟩
 case stop=>
  rintro D c pre W _ _ h _
  exact h.elim
end Go.Proofs.YtgjlmjlfghodmaaGreatDoor
namespace Go.Proofs.YtgjlmjlfghodmaaGreatDoor
open Go.RowKit Go.Shelf
theorem two_cells {X:World}(g cp:Nat) (k0 n0 k1 n1:Int) (u0 u1:Sl) (f0 f1:Fo) (hg:g<X.heap.size) (hcp:2≤cp) (hcm:cp≤maxLen) (c0:X.cell? ⟨g,0,none⟩=some (.int .i64 k0)) (c1:X.cell? ⟨g,1,none⟩=some (.int .i64 n0)) (c2:X.cell? ⟨g,2,none⟩=some (slv u0)) (c3:X.cell? ⟨g,3,none⟩=some (.int .i64 k1)) (c4:X.cell? ⟨g,4,none⟩=some (.int .i64 n1)) (c5:X.cell? ⟨g,5,none⟩=some (slv u1)) (h0:TyV X.heap.size X f0 (slv u0)) (h1:TyV X.heap.size X f1 (slv u1)):TyV X.heap.size X (.cons k0 n0 u0 f0 (.cons k1 n1 u1 f1 .nil)) (.slice (some ⟨g,0,none⟩) 2 cp):=
 tyV_cons.2 ⟨g,0,cp,rfl,hcp,hcm,hg,tyC_cons.2 ⟨c0,c1,c2,h0,tyC_cons.2 ⟨c3,c4,c5,h1,tyC_nil⟩⟩⟩
theorem no_parts (B:Nat) (w:World):TyV B w .nil (slv (none,0,0)):=tyV_nil.2 ⟨none,0,rfl⟩
set_option maxRecDepth 100000 in
theorem var_any (n:Int) (w:World):Calls Tryz.prog 38 #[.int .i64 n] w fun e w'=>e = .returned (tyVal 1 n (.slice none 0 0))∧Below w.heap.size w w':=by
 obtain ⟨w1,hw1⟩:∃w1,w.alloc (.cells rt0 28)=w1:=⟨_,rfl⟩
 have hb1:Below w.heap.size w w1:=by rw [←hw1];exact (Below.refl _ _).alloc (Nat.le_refl _) _
 have hx1:w1.heap[w.heap.size]? = some (Obj.cells rt0 28):=by rw [←hw1];exact heap_alloc_new w _
 obtain ⟨r0,r1,r2,z0,z1,z2,w2,hw2,hld,hsz,hfar,hbl⟩:=ret_cells (w:=w1) w.heap.size 1 n (none,0,0) hx1
 have HLD:=kI hld
 have HB:=kI (hb1.trans hbl)
 unfold rt0 at hw1
 clear hld hfar hbl hb1 hx1
 dsimp only [slv] at hw2
 go_enter Tryz.func38,Tryz.ntmps38
 go_wp2
 refine bodyPost_ret (results_box rfl _ _ _ _ rfl HLD.out) rfl ?_
 exact ⟨rfl,HB.out⟩
end Go.Proofs.YtgjlmjlfghodmaaGreatDoor
namespace Go.Proofs.YtgjlmjlfghodmaaGreatDoor
open Go.RowKit
theorem own_below {w w':World}{base:Nat}{e:TypeId}{size:Nat}{v:Value}{n:Nat}{xs:List Value}(h:w.ownsRow base e size v n xs) (hb:Below w.heap.size w w'):w'.ownsRow base e size v n xs:=by
 refine ⟨h.1,?_⟩
 rcases h.2 with h0|⟨g,cap,cur,h0,hbg,hg,hr⟩
 ·exact .inl h0
 ·exact .inr ⟨g,cap,cur,h0,hbg,(hb.block g (gL hg).1).trans hg,hr⟩
end Go.Proofs.YtgjlmjlfghodmaaGreatDoor
namespace Go.Proofs
open Go.Shelf
def Tryz.lays166_ren:Go.Shelf.Ren:=⟨fun|166=>71|240=>103|276=>131|n=>n,fun|0=>0|3=>3|4=>4|5=>5|9=>9|20=>20|37=>64|70=>106|72=>108|75=>113|80=>120|164=>203|n=>n,fun|n=>n⟩
theorem Tryz.lays166:Go.Proofs.Lays.n166 Tryz.prog Tryz.lays166_ren:={
 mixed:=by kernel_rfl
 f166:=Tryz.func71.trans (congrArg some (by kernel_rfl))
 f240:=Tryz.func103.trans (congrArg some (by kernel_rfl))
 f276:=Tryz.func131.trans (congrArg some (by kernel_rfl))
 t0:=Tryz.underlying0
 a0:=Tryz.isAgg0
 z0:=Tryz.sizeOf0
 v0:=Tryz.zeroValue0
 t3:=Tryz.underlying3
 a3:=Tryz.isAgg3
 z3:=Tryz.sizeOf3
 v3:=Tryz.zeroValue3
 t4:=Tryz.underlying4
 a4:=Tryz.isAgg4
 z4:=Tryz.sizeOf4
 v4:=Tryz.zeroValue4
 t9:=Tryz.underlying9
 a9:=Tryz.isAgg9
 z9:=Tryz.sizeOf9
 v9:=Tryz.zeroValue9
 t20:=Tryz.underlying20
 a20:=Tryz.isAgg20
 z20:=Tryz.sizeOf20
 v20:=Tryz.zeroValue20
 t37:=Tryz.underlying64
 a37:=Tryz.isAgg64
 z37:=Tryz.sizeOf64
 v37:=Tryz.zeroValue64
 t70:=Tryz.underlying106
 a70:=Tryz.isAgg106
 z70:=Tryz.sizeOf106
 v70:=Tryz.zeroValue106
 t72:=Tryz.underlying108
 a72:=Tryz.isAgg108
 z72:=Tryz.sizeOf108
 v72:=Tryz.zeroValue108
 t75:=Tryz.underlying113
 a75:=Tryz.isAgg113
 z75:=Tryz.sizeOf113
 v75:=Tryz.zeroValue113
 t164:=Tryz.underlying203
 a164:=Tryz.isAgg203
 z164:=Tryz.sizeOf203
 v164:=Tryz.zeroValue203 }
theorem Tryz.Builder_Extra_166:Builder.Extra Tryz.prog Tryz.lays166_ren:={
 sizeBuilder:=by kernel_rfl
 liesBuilder:=by kernel_rfl
 t5:=Tryz.underlying5
 a5:=Tryz.isAgg5
 z5:=Tryz.sizeOf5
 v5:=Tryz.zeroValue5
 infoByte:=by kernel_rfl
 cellsByte:=by kernel_rfl
 sizeByte:=by kernel_rfl
 neB5:=by decide }
open Go.RowKit in
theorem Tryz.Builder_WriteString_k (B b:Nat) (bs:List Value) (s:ByteArray) (w:World) (h:Lib.IsBuilderF 108 5 B b bs w) (hlen:bs.length+s.size≤140737488355328) (hBw:B≤w.heap.size):
  Calls Tryz.prog 71 #[.pointer (some ⟨b,0,none⟩),.string s] w fun e w'=>e = .returned (.tuple #[.int .i64 s.size,.nilIface])∧(Lib.BuilderAtF 108 5 B b (.pointer (some ⟨b,0,none⟩)) (bs++Lib.strCells s) w'∧Below B w w'∧Lib.OthersKept 5 (some b) w w'):=Any.Builder_WriteString_k Tryz.lays166 Tryz.Builder_Extra_166 B b bs s w h hlen hBw
end Go.Proofs
namespace Go.Proofs.YtgjlmjlfghodmaaGreatDoor
open Go.RowKit Go.Shelf Go.Sort Go.Maps
def nameB (n:Int):List UInt8:=
 if (decide (0≤n) && decide (n<1073741824)) then 39 :: UInt8.ofNat (97+(n % 26).toNat) :: (if n<26 then [] else Lib.itoa (n / 26)) else []
def Tab (w:World):Prop:=Lib.TabIs Tryz.prog w "internal/strconv.uint64pow10" .u64 Lib.pow10Tab
theorem gTab:(Tryz.prog.globalNamed "internal/strconv.uint64pow10").isSome=true:=by kernel_rfl
theorem Tab.below {w w':World}(h:Tab w) (hb:Below w.heap.size w w'):Tab w':=by
 obtain ⟨g,hg⟩:=Option.isSome_iff_exists.1 gTab
 have hlt:g<w.heap.size:=by
  have h2:=h
  unfold Tab Lib.TabIs World.var? at h2
  rw [hg,Option.bind_some] at h2
  rcases Nat.lt_or_ge g w.heap.size with h'|h'
  ·exact h'
  ·rw [Array.getElem?_eq_none h'] at h2
   cases h2
 exact var?_below hb hg hlt h
theorem below_grow (w:World) (k:Nat) (os:Array Obj):Below w.heap.size w (grow (w.drewN k) os):=by
 refine (below_drewN (Below.refl _ w) k).trans ⟨rfl,rfl,rfl,?_,fun i hi=>?_⟩
 ·simp [grow]
 ·have hd:(w.drewN k).heap=w.heap:=rfl
  show ((w.drewN k).heap++os)[i]? = _
  rw [hd,Array.getElem?_append_left hi]
theorem bapp (a b:List UInt8):(⟨a.toArray⟩:ByteArray) ++ ⟨b.toArray⟩=⟨(a++b).toArray⟩:=by
 apply ByteArray.ext
 simp [ByteArray.data_append]
def brk (x:Int×List UInt8):List UInt8:=if x.1=4 then 40 :: (x.2 ++ [41]) else x.2
def sepT:List (Int×List UInt8)→List UInt8
 | []=>[]
 | [x]=>brk x
 | x :: y :: r=>brk x++32 :: 42 :: 32 :: sepT (y :: r)
def oneT (k n:Int) (l:List (Int×List UInt8)):List UInt8:=
 if k=1 then nameB n else if k=2 then [105,110,116] else if k=3 then [98,111,111,108]
 else if k=4 then (match l with | [x,y]=>brk x++32 :: 45 :: 62 :: 32 :: y.2|_=>[])
 else if k=5 then 40 :: (sepT l ++ [41]) else []
namespace Fo
def txts:Fo→List (Int×List UInt8)
 | nil=>[]
 | cons k n _ ps r=>(k,oneT k n ps.txts) :: r.txts
end Fo
set_option maxHeartbeats 1000000 in
set_option maxRecDepth 100000 in
theorem name_any (n:Int) (w:World) (ht:Tab w):Calls Tryz.prog 105 #[.int .i64 n] w fun e w'=>e = .returned (.string ⟨(nameB n).toArray⟩)∧Below w.heap.size w w':=by
 go_enter Tryz.func105,Tryz.ntmps105
 obtain ⟨b,hb⟩:∃b,(decide (0≤n) && decide (n<1073741824))=b:=⟨_,rfl⟩
 have hn:=number_any n
 rw [hb] at hn
 cases b
 ·go_wp2_with (go_at_call 129;refine (hn _).mono ?_;rintro e w' ⟨rfl,hw'⟩;subst w')
  go_ret
  refine ⟨?_,Below.refl _ _⟩
  rw [nameB,hb];rfl
 ·simp only [Bool.and_eq_true] at hb
  obtain ⟨hb1,hb2⟩:=hb
  have h0:=of_decide_eq_true hb1
  have h1:=of_decide_eq_true hb2
  have hm1:0≤n % 26:=Int.emod_nonneg _ (by omega)
  have hm2:n % 26<26:=Int.emod_lt_of_pos _ (by omega)
  obtain ⟨c,hc⟩:∃c,UInt8.ofNat (97+(n % 26).toNat)=c:=⟨_,rfl⟩
  have hct:(c.toNat:Int)=97+n % 26:=by
   rw [←hc,UInt8.toNat_ofNat']
   omega
  have hcv:=run_convert_bytes_back (P:=Tryz.prog) (w.alloc (.cells #[.int .u8 39,.int .u8 (97+n % 26)] 5)) 64 9 5 ⟨w.heap.size,0,none⟩ 2 [39,c] Tryz.underlying64 Tryz.underlying5 Tryz.underlying9 (by
   intro j hj
   have:=cells_new w [.int .u8 39,.int .u8 (97+n % 26)] 5
   match j,hj with
   | 0,_=>exact this 0 _ rfl
   | 1,_=>rw [show ([39,c]:List UInt8)[1]=c from rfl,hct];exact this 1 _ rfl)
  simp only [List.length_cons,List.length_nil,Nat.reduceAdd] at hcv
  by_cases h26:n<26
  ·have f1:decide (n<26)=true:=decide_eq_true h26
   go_wp2_with (go_at_call 129;refine (hn _).mono ?_;rintro e w' ⟨rfl,hw'⟩;subst w')
   go_ret
   refine ⟨?_,(Below.refl _ _).alloc (Nat.le_refl _) _⟩
   rw [nameB,hb1,hb2,hc]
   simp [h26]
  ·have f1:decide (n<26)=false:=decide_eq_false h26
   have hb1':=(Below.refl w.heap.size w).alloc (Nat.le_refl _) (.cells #[.int .u8 39,.int .u8 (97+n % 26)] 5)
   have hlen:(Lib.itoa (n / 26)).length≤21:=Lib.itoa_length_le _ (by omega) (by omega)
   have HT:=kI (Tryz.strconv_Itoa (n / 26) (by omega) (by omega) (w.alloc (.cells #[.int .u8 39,.int .u8 (97+n % 26)] 5)) (ht.below hb1'))
   go_wp2_with (first|(go_at_call 129;refine (hn _).mono ?_;rintro e w' ⟨rfl,hw'⟩;subst w')|(go_at_call 132;refine HT.out.mono ?_;rintro e w' ⟨rfl,kk,os,hw'⟩;subst w'))
   go_ret
   refine ⟨?_,hb1'.trans ((below_grow _ kk os).mono (by simp))⟩
   rw [nameB,hb1,hb2,hc]
   have:=bapp [39,c] (Lib.itoa (n / 26))
   rw [if_neg (show ¬ n<26 by omega)]
   simpa using this
end Go.Proofs.YtgjlmjlfghodmaaGreatDoor
namespace Go.Proofs.YtgjlmjlfghodmaaGreatDoor
open Go.RowKit Go.Shelf
attribute [local go_sem] Oper.semAt_some
def allAlone (l:List Tr):Bool:=l.all fun x=>alone x.1 x.2.1 x.2.2.2.1
theorem load_bool {w:World}{g:Nat}{b:Bool}(h:w.cell? ⟨g,0,none⟩=some (.bool b)):(loadVar 4 ⟨g,0,none⟩).run Tryz.prog w = .ok (.bool b) w:=by
 go_simp
set_option maxRecDepth 100000 in
set_option maxHeartbeats 2000000 in
theorem right_any (w:World) (B:Nat) (k n:Int) (u:Sl) (ps:Fo) (hB:B≤w.heap.size) (hps:TyV B w ps (slv u)) (hs:ps.size<1000000):
  Calls Tryz.prog 53 #[tyVal k n (slv u)] w fun e w'=>e = .returned (.bool (allAlone (Fo.cons k n u ps .nil).pre))∧Below w.heap.size w w':=by
 obtain ⟨u1,u2,u3⟩:=u
 dsimp only [tyVal,slv] at hps ⊢
 refine (callsIn_wide (n:=4)).1 ?_
 refine callsIn_of_wp_marks Tryz.func53 rfl trivial ?_ rfl
 simp only [Tryz.ntmps53,List.size_toArray,List.length_cons,List.length_nil,Nat.reduceAdd,Nat.reduceSub,Array.replicate_succ,Array.replicate_zero,List.push_toArray,List.append_toArray,List.nil_append,List.cons_append]
 gi_wp2_with (refine ⟨trivial,?_⟩;gi_at_call 94;refine (callsIn_wide.2 (all_make _ 1 1 _)).mono ?_;rintro e w' ⟨rfl,rfl⟩)
 obtain ⟨wa,hwa⟩:∃wa,(w.alloc (Obj.cells #[.int .i64 k,.int .i64 n,.slice u1 u2 u3] 28)).alloc (Obj.cells #[.bool false] 4)=wa:=⟨_,rfl⟩
 have hsa:wa.heap.size=w.heap.size+1+1:=by rw [←hwa];simp
 have hba:Below w.heap.size w wa:=by rw [←hwa];exact ((Below.refl _ w).alloc (Nat.le_refl _) _).alloc (by simp) _
 have bz:Boxed wa (w.heap.size+1) 4 (.bool false):=by
  rw [←hwa]
  have:=Boxed.new (w.alloc (Obj.cells #[.int .i64 k,.int .i64 n,.slice u1 u2 u3] 28)) 4 (.bool false)
  rwa [World.size_alloc] at this
 obtain ⟨w4,hw4,hs4,hbx,hrd,hTL,hb4⟩:=one_laid (w:=wa) (B:=B) k n (u1,u2,u3) ps (by omega) (hps.below (hba.mono hB))
 dsimp only [slv] at hw4
 rw [hwa,←hsa,hw4]
 have bz4:Boxed w4 (w.heap.size+1) 4 (.bool false):=(hb4.block _ (by omega)).trans bz
 have hb04:Below w.heap.size w w4:=hba.trans (hb4.mono (by omega))
 have hf:(Fo.cons k n (u1,u2,u3) ps .nil).size=1+ps.size:=by simp [Fo.size]
 refine wpIn_rangeC (by omega) (gf:=127) (lb:=#[.pointer (some ⟨wa.heap.size+1,0,none⟩)]) rfl (enters_of Tryz.func127 (by kernel_rfl) rfl)
  (all_seq 3 (by omega) (wa.heap.size+1) B _ (.cons k n (u1,u2,u3) ps .nil) (by omega) w4 (by omega) hbx hrd hTL) (Below.refl _ _) KpC.t (KpC.b (by omega)) (fun _=>rfl)
  (fun pre W=>allAlone pre=true∧Boxed W (w.heap.size+1) 4 (.bool false)∧Below w.heap.size w W) (fun c pre W=>(c = .ret∧allAlone pre=false)∧Boxed W (w.heap.size+1) 4 (.bool false)∧Below w.heap.size w W)
  (OwnFrom.and (ownFrom_pure _ _) (OwnFrom.and (Own.from (boxed_own _ _ (fun _=>.bool false)) _) (below_own (by omega) (Nat.le_refl _)))) (fun _=>OwnFrom.and (ownFrom_pure _ _) (OwnFrom.and (Own.from (boxed_own _ _ (fun _=>.bool false)) _) (below_own (by omega) (Nat.le_refl _))))
  (AbC.and AbC.pure (AbC.and (box_ab (by decide)) (below_ab (by omega) (Nat.le_refl _)))) (fun _=>AbC.and AbC.pure (AbC.and (box_ab (by decide)) (below_ab (by omega) (Nat.le_refl _))))
  ⟨rfl,bz4,hb04⟩
  (fun x a' W=>∃Bx,(W.cell? ⟨Bx,0,none⟩=some (.int .i64 x.1)∧W.cell? ⟨Bx,1,none⟩=some (.int .i64 x.2.1)∧W.cell? ⟨Bx,2,none⟩=some (slv x.2.2))∧a' = { tmps:=#[tyVal k n (.slice u1 u2 u3),.pointer (some ⟨w.heap.size,0,none⟩),.pointer (some ⟨w.heap.size+1,0,none⟩),.pointer (some ⟨Bx,0,none⟩),tyVal k n (.slice u1 u2 u3),.slice (some ⟨wa.heap.size,0,none⟩) 1 1,.func (.func 127) #[] #[.pointer (some ⟨wa.heap.size+1,0,none⟩)],trV x,undef,undef,undef],defers:=[] })
  (fun x a' s W W' row hs hg hr=>by
   obtain ⟨Bx,⟨c0,c1,c2⟩,ha⟩:=hs
   exact ⟨Bx,⟨cell_kept c0 hg (fun r e=>(hr r e).2),cell_kept c1 hg (fun r e=>(hr r e).2),cell_kept c2 hg (fun r e=>(hr r e).2)⟩,ha⟩) ?assign ?body ?done ?stop
 case assign=>
  rintro l pre x W K ⟨hi1,hi2,hi3⟩ hK
  obtain ⟨x0,x1,A3,n3,c3⟩:=x
  dsimp only [trV,slv] at hK ⊢
  have hsz:=hi3.size
  gi_wp2
  exact hK _ _ ((KeepsOthers.alloc _ _).from _) (KpC.of_below ((Below.refl _ _).alloc (Nat.le_refl _) _) (by omega)) ⟨hi1,hi2.alloc _,hi3.alloc hsz _⟩ ⟨W.heap.size,⟨by go_simp,by go_simp,by go_simp⟩,by simp [tyVal]⟩
 case body=>
  rintro l pre x a' W hl ⟨hi1,hi2,hi3⟩ ⟨Bx,⟨c0,c1,c2⟩,rfl⟩ hlt
  obtain ⟨x0,x1,A3,n3,c3⟩:=x
  dsimp only [trV,slv,tyVal] at c0 c1 c2 ⊢
  obtain ⟨b,hb⟩:∃b,alone x0 x1 n3=b:=⟨_,rfl⟩
  have FA:=kI (alone_any x0 x1 A3 n3 c3 W)
  rw [hb] at FA
  have hap:allAlone (pre ++ [(x0,x1,A3,n3,c3)])=b:=by
   have:allAlone (pre ++ [(x0,x1,A3,n3,c3)])=(allAlone pre && alone x0 x1 n3):=by simp [allAlone]
   rw [this,hi1,hb];rfl
  have HAP:=kI hap
  have HSZ:=kI hi3.size
  have HS4:=kI hs4
  have HSA:=kI hsa
  clear hap hb hf hs4 hsa hs
  cases b
  ·gi_wp2_with (refine ⟨trivial,?_⟩;gi_at_call 95;refine (CallsIn.inRound l (callsIn_wide.2 FA.out)).mono ?_;rintro e w' ⟨rfl,hbw⟩;have hi2':Boxed w' (w.heap.size+1) 4 (.bool false):=(hbw.block _ hi2.lt).trans hi2;have bc:=hi2'.cell;have bf:=hi2'.frozen;have HB2:=kI hi2';clear hi2')
   refine ⟨⟨Nat.le_trans hbw.size (KeepsOthers.setCell w' _ _).size,fun j o _ hj ho=>(KeepsOthers.setCell w' _ _).same j o ((hbw.block j (gL hj).1).trans hj) ho⟩,⟨rfl,HAP.out⟩,HB2.out.set _,?_⟩
   have hb1:Below w.heap.size w w':=hi3.trans (hbw.mono HSZ.out)
   exact hb1.trans ((Below.refl _ _).grown (grownBy_setCell' w' (w.heap.size+1) _) hb1.size (fun k e=>by cases e;omega))
  ·gi_wp2_with (refine ⟨trivial,?_⟩;gi_at_call 95;refine (CallsIn.inRound l (callsIn_wide.2 FA.out)).mono ?_;rintro e w' ⟨rfl,hbw⟩)
   refine ⟨⟨hbw.size,fun j o _ hj _=>(hbw.block j (gL hj).1).trans hj⟩,KpC.of_below hbw (Nat.le_trans hB HSZ.out),HAP.out,(hbw.block _ hi2.lt).trans hi2,hi3.trans (hbw.mono HSZ.out)⟩
 case done=>
  rintro D ys W hD rfl ⟨hi1,hi2,hi3⟩ hK
  have bc:=hi2.cell
  have bf:=hi2.frozen
  have HB2:=kI hi2
  have HA:=kI hi1
  clear hi2 hi1 hf
  gi_wp2
  have bx:Boxed ((W.setCell ⟨w.heap.size+1,0,none⟩ (.bool true)).putObj D (.deferred none)) (w.heap.size+1) 4 (.bool true):=(HB2.out.set _).kept (grownBy_putObj' _ D (.deferred none)) (fun e=>by cases e;omega)
  have hK':(W.setCell ⟨w.heap.size+1,0,none⟩ (.bool true)).heap[D]? = some (.deferred (some [])):=((grownBy_setCell' W (w.heap.size+1) (.bool true)).block D (gL hK).1 (fun e=>by cases e;omega)).trans hK
  refine ⟨by simp,.inl ⟨_,_,rfl,run_takeDeferred hK',?_⟩⟩
  refine ⟨_,results_box rfl _ _ _ _ rfl (load_bool bx.cell),?_,?_⟩
  ·rw [HA.out]
  ·have h1:=hi3.trans ((Below.refl _ _).grown (grownBy_setCell' W (w.heap.size+1) (.bool true)) hi3.size (fun k e=>by cases e;omega))
   exact h1.trans ((Below.refl _ _).grown (grownBy_putObj' _ D (.deferred none)) h1.size (fun k e=>by cases e;omega))
 case stop=>
  rintro D c pre W hD ⟨hne,s,hsp⟩ ⟨⟨rfl,hi1⟩,hi2,hi3⟩ hK
  gi_wp2
  have bx:Boxed (W.putObj D (.deferred none)) (w.heap.size+1) 4 (.bool false):=hi2.kept (grownBy_putObj' _ D (.deferred none)) (fun e=>by cases e;omega)
  refine ⟨by simp,.inl ⟨_,_,rfl,run_takeDeferred hK,?_⟩⟩
  refine ⟨_,results_box rfl _ _ _ _ rfl (load_bool bx.cell),?_,hi3.trans ((Below.refl _ _).grown (grownBy_putObj' _ D (.deferred none)) hi3.size (fun k e=>by cases e;omega))⟩
  have:allAlone (pre++s)=false:=by
   have h2:allAlone (pre++s)=(allAlone pre && allAlone s):=by simp [allAlone]
   rw [h2,hi1];rfl
  rw [←hsp,this]
end Go.Proofs.YtgjlmjlfghodmaaGreatDoor
namespace Go.Proofs.YtgjlmjlfghodmaaGreatDoor
open Go.RowKit Go.Shelf
structure Pc where
 s:List UInt8
 k:Int
 n:Int
 u:Sl
 ps:Fo
def strB (s:List UInt8):Value:=.string ⟨s.toArray⟩
def pcC (p:Pc):List Value:=[strB p.s,.int .i64 p.k,.int .i64 p.n,slv p.u]
def pcV (p:Pc):Value:=.agg #[strB p.s,.int .i64 p.k,.int .i64 p.n,slv p.u]
abbrev pcS (s:List UInt8):Pc:=⟨s,0,0,(none,0,0),.nil⟩
abbrev pcT (k n:Int) (u:Sl) (ps:Fo):Pc:=⟨[],k,n,u,ps⟩
theorem pcC_len (L:List Pc):(L.flatMap pcC).length=L.length*4:=by
 induction L with
 | nil=>rfl
 | cons x L ih=>simp [pcC,ih];omega
theorem pcC_one (L:List Pc):∀u∈L.flatMap pcC,u.oneCell'=true:=by
 intro u hu
 obtain ⟨x,_,hx⟩:=List.mem_flatMap.1 hu
 simp only [pcC,List.mem_cons,List.not_mem_nil,or_false] at hx
 rcases hx with rfl|rfl|rfl|rfl<;>rfl
namespace Fo
def ok:Fo→Bool
 | nil=>true
 | cons k n _ ps r=>alone k n ps.len && ps.ok && r.ok
end Fo
def ptx (p:Pc):List UInt8:=p.s++oneT p.k p.n p.ps.txts
def PcOk (B:Nat) (w:World) (p:Pc):Prop:=TyV B w p.ps (slv p.u)∧(p.k=0∧p.ps = .nil∨alone p.k p.n p.ps.len=true∧p.ps.ok=true)∧p.s.length≤40
theorem PcOk.str (B:Nat) (w:World) (s:List UInt8) (hs:s.length≤40):PcOk B w (pcS s):=⟨tyV_nil.2 ⟨none,0,rfl⟩,.inl ⟨rfl,rfl⟩,hs⟩
def pw (p:Pc):Nat:=if p.k=0 then 1 else 3+6*p.ps.size
def pws (L:List Pc):Nat:=(L.map pw).sum
theorem pws_app (a b:List Pc):pws (a++b)=pws a+pws b:=by simp [pws]
theorem ptx_str (s:List UInt8):ptx (pcS s)=s:=by simp [ptx,oneT]
theorem alone_ne (k n:Int) (m:Nat) (h:alone k n m=true):k≠0:=by
 rintro rfl
 simp [alone] at h
def brkP (k n:Int) (u:Sl) (ps:Fo):List Pc:=if k=4 then [pcS [40],pcT k n u ps,pcS [41]] else [pcT k n u ps]
theorem brkP_txt (k n:Int) (u:Sl) (ps:Fo):(brkP k n u ps).flatMap ptx=brk (k,oneT k n ps.txts):=by
 unfold brkP brk
 split<;>simp [ptx,oneT]
theorem brkP_len (k n:Int) (u:Sl) (ps:Fo):(brkP k n u ps).length≤3:=by unfold brkP;split<;>simp
theorem brkP_pw (k n:Int) (u:Sl) (ps:Fo):pws (brkP k n u ps)≤5+6*ps.size:=by
 unfold brkP
 split
 ·simp [pws,pw];split<;>omega
 ·simp [pws,pw];split<;>omega
theorem brkP_ok {B:Nat}{w:World}{k n:Int}{u:Sl}{ps:Fo}(h:PcOk B w (pcT k n u ps)):∀p∈brkP k n u ps,PcOk B w p:=by
 intro p hp
 unfold brkP at hp
 split at hp
 ·simp only [List.mem_cons,List.not_mem_nil,or_false] at hp
  rcases hp with rfl|rfl|rfl
  ·exact PcOk.str _ _ _ (by simp)
  ·exact h
  ·exact PcOk.str _ _ _ (by simp)
 ·simp only [List.mem_cons,List.not_mem_nil,or_false] at hp
  subst hp
  exact h
theorem own_new (w:World) (e:TypeId) (size n:Nat) (L:List Value) (hL:L.length=n*size) (hn:n≤maxLen) (w0:World) (h0:Below w0.heap.size w0 w):(w.alloc (.cells L.toArray e)).ownsRow w0.heap.size e size (.slice (some ⟨w.heap.size,0,none⟩) n n) n L:=own_full w _ h0.size e size n L hL hn
set_option maxRecDepth 100000 in
theorem bracketed_any (k n:Int) (u:Sl) (ps:Fo) (w:World):Calls Tryz.prog 106 #[tyVal k n (slv u)] w fun e w'=>∃v,e = .returned v∧w'.ownsRow w.heap.size 110 4 v (brkP k n u ps).length ((brkP k n u ps).flatMap pcC)∧Below w.heap.size w w':=by
 obtain ⟨u1,u2,u3⟩:=u
 dsimp only [tyVal,slv]
 have hb:=(Below.refl w.heap.size w).alloc (Nat.le_refl _) (.cells #[.int .i64 k,.int .i64 n,.slice u1 u2 u3] 28)
 go_enter Tryz.func106,Tryz.ntmps106
 by_cases h4:k=4
 ·subst h4
  have ho:=(own_new (w.alloc (.cells #[.int .i64 4,.int .i64 n,.slice u1 u2 u3] 28)) 110 4 3 ((brkP 4 n (u1,u2,u3) ps).flatMap pcC) rfl (by unfold maxLen;omega) w hb)
  rw [World.size_alloc] at ho
  have HO:=kI ho
  have HB:=kI (hb.alloc hb.size (.cells ((brkP 4 n (u1,u2,u3) ps).flatMap pcC).toArray 110))
  clear hb ho
  go_wp2_with fail
  go_ret
  exact ⟨_,rfl,HO.out,HB.out⟩
 ·have f1:(k == 4)=false:=beq_eq_false_iff_ne.2 h4
  have hbk:brkP k n (u1,u2,u3) ps=[pcT k n (u1,u2,u3) ps]:=by unfold brkP;rw [if_neg h4]
  rw [hbk]
  have ho:=(own_new (w.alloc (.cells #[.int .i64 k,.int .i64 n,.slice u1 u2 u3] 28)) 110 4 1 ([pcT k n (u1,u2,u3) ps].flatMap pcC) rfl (by unfold maxLen;omega) w hb)
  rw [World.size_alloc] at ho
  have HO:=kI ho
  have HB:=kI (hb.alloc hb.size (.cells ([pcT k n (u1,u2,u3) ps].flatMap pcC).toArray 110))
  clear hb hbk ho
  go_wp2_with fail
  go_ret
  exact ⟨_,rfl,HO.out,HB.out⟩
end Go.Proofs.YtgjlmjlfghodmaaGreatDoor
namespace Go.Proofs.YtgjlmjlfghodmaaGreatDoor
open Go.RowKit Go.Shelf
attribute [local go_sem ↓] builtin_app
theorem pcInfo:(Tryz.prog.info? 110).map (fun i=>(i.zero,i.size,i.bytes))=some (some (.agg #[.string ⟨#[]⟩,.int .i64 0,.int .i64 0,.slice none 0 0]),4,56):=by kernel_rfl
theorem app_pc (W:World) (base:Nat) (v:Value) (L:List Pc) (own:W.ownsRow base 110 4 v L.length (L.flatMap pcC)) (vx:Value) (L2:List Pc) (rd:Rd W 4 vx L2.length (L2.flatMap pcC)) (hl:L.length+L2.length≤100000000) (hbase:base≤W.heap.size):
  ∃v' W',(app_ #[111,111] 111 #[v,vx]).run Tryz.prog W = .ok v' W'∧W'.ownsRow base 110 4 v' (L++L2).length ((L++L2).flatMap pcC)∧Below base W W'∧KeepT 28 W W'∧W.grownBy W' v.ownBlock∧(v'.ownBlock=v.ownBlock∨v'.ownBlock=some W.heap.size):=by
 obtain ⟨i0,hi0,hz0,hz1,hz2⟩:=info_parts pcInfo
 obtain ⟨v1,w1,hrun,hown,hg,hat⟩:=run_append_rd (P:=Tryz.prog) W base 111 111 110 i0 _ 4 56 Tryz.underlying111 hi0 hz0 hz1 hz2 rfl (by omega) v _ _ own vx _ _ rd (pcC_one _) (by unfold maxLen;omega) (by omega) hbase
 refine ⟨v1,w1,hrun,?_,(Below.refl _ _).grown hg hbase (fun k e=>(own.lt k e).1),KeepT.grown hg (row_not own (by decide)),hg,hat⟩
 rw [List.length_append,List.flatMap_append]
 exact hown
def tupT:Bool→Fo→List Pc
 | _,.nil=>[]
 | b,.cons k n u ps r=>(if b then [] else [pcS [32,42,32]])++(brkP k n u ps++tupT false r)
theorem tupT_app (f g:Fo) (b:Bool):tupT b (f.app g)=tupT b f++tupT (b && decide (f.len=0)) g:=by
 induction f generalizing b with
 | nil=>simp [Fo.app,tupT,Fo.len]
 | cons k n u ps r _ ih=>simp [Fo.app,tupT,Fo.len,ih]
theorem tupT_len (f:Fo) (b:Bool):(tupT b f).length≤4*f.len:=by
 induction f generalizing b with
 | nil=>simp [tupT]
 | cons k n u ps r _ ih=>
  have h1:=brkP_len k n u ps
  have h2:=ih false
  simp only [tupT,List.length_append,Fo.len]
  split<;>simp<;>omega
theorem tupT_pw (f:Fo) (b:Bool):pws (tupT b f)≤6*f.size:=by
 induction f generalizing b with
 | nil=>simp [tupT,pws,Fo.size]
 | cons k n u ps r _ ih=>
  have h1:=brkP_pw k n u ps
  have h2:=ih false
  simp only [tupT,pws_app,Fo.size]
  split
  ·simp [pws] at *;omega
  ·simp [pws,pw] at *;omega
theorem tupT_txt (f:Fo):(tupT true f).flatMap ptx=sepT f.txts∧(0<f.len→(tupT false f).flatMap ptx=32 :: 42 :: 32 :: sepT f.txts):=by
 induction f with
 | nil=>exact ⟨rfl,fun h=>by simp [Fo.len] at h⟩
 | cons k n u ps r _ ih=>
  have h1:=brkP_txt k n u ps
  have key:(brkP k n u ps++tupT false r).flatMap ptx=sepT (Fo.cons k n u ps r).txts:=by
   rw [List.flatMap_append,h1]
   cases r with
   | nil=>simp [tupT,Fo.txts,sepT]
   | cons k' n' u' ps' r'=>
    rw [ih.2 (by simp [Fo.len])]
    simp only [Fo.txts,sepT]
  refine ⟨by simpa [tupT] using key,fun _=>?_⟩
  have:tupT false (Fo.cons k n u ps r)=pcS [32,42,32] :: (brkP k n u ps++tupT false r):=rfl
  rw [this,List.flatMap_cons,key,ptx_str]
  rfl
theorem tupT_ok {B:Nat}{w:World}{f:Fo}(hL:TyL B w f) (hok:f.ok=true) (b:Bool):∀p∈tupT b f,PcOk B w p:=by
 induction f generalizing b with
 | nil=>intro p hp;simp [tupT] at hp
 | cons k n u ps r _ ih=>
  simp only [Fo.ok,Bool.and_eq_true] at hok
  intro p hp
  simp only [tupT,List.mem_append] at hp
  rcases hp with hp|hp|hp
  ·split at hp
   ·cases hp
   ·obtain rfl:=List.mem_singleton.1 hp
    exact PcOk.str _ _ _ (by simp)
  ·exact brkP_ok ⟨hL.1,.inr ⟨hok.1.1,hok.1.2⟩,by simp⟩ p hp
  ·exact ih hL.2 hok.2 false p hp
theorem len_take (f:Fo) (j:Nat) (hj:j≤f.len):(f.take j).len=j:=by
 induction f generalizing j with
 | nil=>cases j<;>simp_all [Fo.take,Fo.len]
 | cons k n u ps r _ ih=>
  cases j with
  | zero=>simp [Fo.take,Fo.len]
  | succ j=>simp only [Fo.take,Fo.len] at hj ⊢;rw [ih j (by omega)]
set_option maxHeartbeats 1000000 in
set_option maxRecDepth 100000 in
theorem tuple_any (f:Fo) (vl:Value) (w:World) (hvl:TyV w.heap.size w f vl) (hf:f.len≤1000000):Calls Tryz.prog 107 #[vl] w fun e w'=>∃v,e = .returned v∧w'.ownsRow w.heap.size 110 4 v ([pcS [40]]++tupT true f ++ [pcS [41]]).length (([pcS [40]]++tupT true f ++ [pcS [41]]).flatMap pcC)∧Below w.heap.size w w':=by
 obtain ⟨A,c,rfl⟩:=hvl.slice
 have H:=kI hvl
 clear hvl
 have ho:=own_new w 110 4 1 ([pcS [40]].flatMap pcC) rfl (by unfold maxLen;omega) w (Below.refl _ _)
 have hb:=(Below.refl w.heap.size w).alloc (Nat.le_refl _) (.cells ([pcS [40]].flatMap pcC).toArray 110)
 have HO:=kI ho
 have HB:=kI hb
 clear ho hb
 obtain ⟨q,hq⟩:∃q,f.len=q:=⟨_,rfl⟩
 rw [hq] at hf ⊢
 have HQ:=kI hq
 clear hq
 go_enter Tryz.func107,Tryz.ntmps107
 go_wp2_with fail
 go_loopw [3,10] (fun t3 t10 wr=>∃j:Nat,j≤q∧t10 = .int .i64 j∧wr.ownsRow w.heap.size 110 4 t3 ([pcS [40]]++tupT true (f.take j)).length (([pcS [40]]++tupT true (f.take j)).flatMap pcC)∧Below w.heap.size w wr) (fun _ t _=>q-(intOf t).toNat)
 case atStart=>exact ⟨0,Nat.zero_le _,rfl,by rw [Fo.take_zero];exact HO.out,HB.out⟩
 case round=>
  obtain ⟨j,hj,rfl,hown,hbw⟩:=hrel
  have htl:=tupT_len (f.take j) true
  have HBW:=kI hbw
  have HOW:=kI hown
  have hsW:=hbw.size
  clear hbw hown
  by_cases hjl:j<q
  ·have hjF:j<f.len:=by rw [HQ.out];exact hjl
   have htk:=len_take f j (by omega)
   obtain ⟨b,off,cap,hv,_,_,hlt,hC⟩:=H.out.form (by omega)
   rw [HQ.out] at hv
   injection hv with hA _ hcc
   subst hA;subst hcc
   obtain ⟨d0,d1,d2,hch⟩:=tyC_at hC j hjF
   have c0:=(HBW.out.cell (p:=⟨b,off+j*3,none⟩) hlt).trans d0
   have c1:=(HBW.out.cell (p:=⟨b,off+j*3+1,none⟩) hlt).trans d1
   have c2:=(HBW.out.cell (p:=⟨b,off+j*3+2,none⟩) hlt).trans d2
   have hts:=f.take_step j hjF
   have htl1:([pcS [40]]++tupT true (f.take j)).length≤5000000:=by simp;omega
   generalize f.at_ j=p at *
   obtain ⟨pk,pn,⟨p1,p2,p3⟩,pf⟩:=p
   dsimp only [slv] at c0 c1 c2 hch hts
   obtain ⟨W0,hW0⟩:∃W0,W0=wr.alloc (.cells #[.int .i64 pk,.int .i64 pn,.slice p1 p2 p3] 28):=⟨_,rfl⟩
   have hb0:Below w.heap.size wr W0:=by rw [hW0];exact (Below.refl _ _).alloc hsW _
   have hs0:W0.heap.size=wr.heap.size+1:=by rw [hW0];simp
   have hx0:W0.heap[wr.heap.size]? = some (.cells #[.int .i64 pk,.int .i64 pn,.slice p1 p2 p3] 28):=by rw [hW0];exact heap_alloc_new wr _
   have own0:W0.ownsRow w.heap.size 110 4 u3 ([pcS [40]]++tupT true (f.take j)).length (([pcS [40]]++tupT true (f.take j)).flatMap pcC):=by rw [hW0];exact HOW.out.alloc _
   have hbl:=brkP_len pk pn (p1,p2,p3) pf
   have HTS:=kI hts
   have HTK:=kI htk
   clear d0 d1 d2 hC hch hts htk
   rcases Nat.eq_zero_or_pos j with h0|h0
   ·have f1:decide ((0:Int)<(j:Int))=false:=decide_eq_false (by omega)
    have f1n:¬ (0<j):=by omega
    have hfin:∀(v2:Value) (w2:World),Below W0.heap.size W0 w2→w2.ownsRow W0.heap.size 110 4 v2 (brkP pk pn (p1,p2,p3) pf).length ((brkP pk pn (p1,p2,p3) pf).flatMap pcC)→
      ∃v3 w3,(app_ #[111,111] 111 #[u3,v2]).run Tryz.prog w2 = .ok v3 w3∧Hid (w3.ownsRow w.heap.size 110 4 v3 ([pcS [40]]++tupT true (f.take (j+1))).length (([pcS [40]]++tupT true (f.take (j+1))).flatMap pcC)∧Below w.heap.size w w3):=by
     intro v2 w2 hb2 hown2
     obtain ⟨v3,w3,hrun3,hown3,hb3,_⟩:=app_pc w2 w.heap.size u3 _ (own_below own0 hb2) v2 _ (Rd.of_own hown2) (by omega) (Nat.le_trans hsW (Nat.le_trans hb0.size hb2.size))
     refine ⟨v3,w3,hrun3,kI ⟨?_,HBW.out.trans (hb0.trans ((hb2.mono (Nat.le_trans hsW hb0.size)).trans hb3))⟩⟩
     have e:[pcS [40]]++tupT true (f.take (j+1))=[pcS [40]]++tupT true (f.take j)++brkP pk pn (p1,p2,p3) pf:=by
      rw [HTS.out,tupT_app,HTK.out,h0]
      simp [tupT]
     rw [e]
     exact hown3
    have HFIN:=kI hfin
    clear hfin own0 hx0 hb0 htl1 hbl h0
    rw [hW0] at HFIN
    go_wp2_with (go_at_call 106;refine (bracketed_any pk pn (p1,p2,p3) pf _).mono ?_;rintro e w2 ⟨v2,rfl,hown2,hb2⟩;obtain ⟨v3,w3,hrun3,HR⟩:=HFIN.out v2 w2 hb2 hown2;clear hown2 hb2)
    go_roundw
    case rel=>exact ⟨j+1,by omega,by go_num,HR.out.1,HR.out.2⟩
    case measure=>simp [intOf];omega
   ·have f1:decide ((0:Int)<(j:Int))=true:=decide_eq_true (by omega)
    obtain ⟨W1,hW1⟩:∃W1,W1=W0.alloc (.cells #[.string ⟨#[32,42,32]⟩,.int .i64 0,.int .i64 0,.slice none 0 0] 110):=⟨_,rfl⟩
    have rd1:Rd W1 4 (.slice (some ⟨W0.heap.size,0,none⟩) 1 1) 1 ([pcS [32,42,32]].flatMap pcC):=by
     rw [hW1];exact rd_new W0 [.string ⟨#[32,42,32]⟩,.int .i64 0,.int .i64 0,.slice none 0 0] 110 4 1 rfl (by unfold maxLen;omega)
    have own1:=own0.alloc (.cells #[.string ⟨#[32,42,32]⟩,.int .i64 0,.int .i64 0,.slice none 0 0] 110)
    rw [←hW1] at own1
    have hb1:Below W0.heap.size W0 W1:=by rw [hW1];exact (Below.refl _ _).alloc (Nat.le_refl _) _
    obtain ⟨v1,w1,hrun1,hown1,hbw1,hkt1,_⟩:=app_pc W1 w.heap.size u3 _ own1 _ [pcS [32,42,32]] rd1 (by have h:=htl1;simp at h ⊢;omega) (Nat.le_trans hsW (Nat.le_trans hb0.size hb1.size))
    have hx1:w1.heap[wr.heap.size]? = some (.cells #[.int .i64 pk,.int .i64 pn,.slice p1 p2 p3] 28):=hkt1.2 _ _ ((hb1.block _ (by omega)).trans hx0)
    have y0:w1.cell? ⟨wr.heap.size,0,none⟩=some (.int .i64 pk):=cell_of_row w1 _ 0 _ _ (0,0) hx1
    have y1:w1.cell? ⟨wr.heap.size,1,none⟩=some (.int .i64 pn):=cell_of_row w1 _ 1 _ _ (0,0) hx1
    have y2:w1.cell? ⟨wr.heap.size,2,none⟩=some (.slice p1 p2 p3):=cell_of_row w1 _ 2 _ _ (0,0) hx1
    have hbb:Below w.heap.size wr w1:=hb0.trans ((hb1.mono (Nat.le_trans hsW hb0.size)).trans hbw1)
    have hfin:∀(v2:Value) (w2:World),Below w1.heap.size w1 w2→w2.ownsRow w1.heap.size 110 4 v2 (brkP pk pn (p1,p2,p3) pf).length ((brkP pk pn (p1,p2,p3) pf).flatMap pcC)→
      ∃v3 w3,(app_ #[111,111] 111 #[v1,v2]).run Tryz.prog w2 = .ok v3 w3∧Hid (w3.ownsRow w.heap.size 110 4 v3 ([pcS [40]]++tupT true (f.take (j+1))).length (([pcS [40]]++tupT true (f.take (j+1))).flatMap pcC)∧Below w.heap.size w w3):=by
     intro v2 w2 hb2 hown2
     obtain ⟨v3,w3,hrun3,hown3,hb3,_⟩:=app_pc w2 w.heap.size v1 _ (own_below hown1 hb2) v2 _ (Rd.of_own hown2) (by simp at htl1 ⊢;omega) (Nat.le_trans hsW (Nat.le_trans hbb.size hb2.size))
     refine ⟨v3,w3,hrun3,kI ⟨?_,HBW.out.trans (hbb.trans ((hb2.mono (Nat.le_trans hsW hbb.size)).trans hb3))⟩⟩
     have e:[pcS [40]]++tupT true (f.take (j+1))=[pcS [40]]++tupT true (f.take j) ++ [pcS [32,42,32]]++brkP pk pn (p1,p2,p3) pf:=by
      rw [HTS.out,tupT_app,HTK.out]
      have:¬ j=0:=by omega
      simp [tupT,this]
     rw [e]
     exact hown3
    have HFIN:=kI hfin
    rw [hW1,hW0] at hrun1
    rw [World.size_alloc] at hrun1
    clear hfin own0 hx0 hb0 htl1 hbl own1 rd1 hown1 hbw1 hkt1 hx1 hbb hb1 hW1 hW0
    go_wp2_with (go_at_call 106;refine (bracketed_any pk pn (p1,p2,p3) pf _).mono ?_;rintro e w2 ⟨v2,rfl,hown2,hb2⟩;obtain ⟨v3,w3,hrun3,HR⟩:=HFIN.out v2 w2 hb2 hown2;clear hown2 hb2)
    go_roundw
    case rel=>exact ⟨j+1,by omega,by go_num,HR.out.1,HR.out.2⟩
    case measure=>simp [intOf];omega
  ·obtain rfl:j=q:=by omega
   have hT:f.take j=f:=by rw [←HQ.out];exact f.take_len
   obtain ⟨W1,hW1⟩:∃W1,W1=wr.alloc (.cells #[.string ⟨#[41]⟩,.int .i64 0,.int .i64 0,.slice none 0 0] 110):=⟨_,rfl⟩
   have rd1:Rd W1 4 (.slice (some ⟨wr.heap.size,0,none⟩) 1 1) 1 ([pcS [41]].flatMap pcC):=by
    rw [hW1];exact rd_new wr [.string ⟨#[41]⟩,.int .i64 0,.int .i64 0,.slice none 0 0] 110 4 1 rfl (by unfold maxLen;omega)
   have own1:=HOW.out.alloc (.cells #[.string ⟨#[41]⟩,.int .i64 0,.int .i64 0,.slice none 0 0] 110)
   rw [←hW1,hT] at own1
   rw [hT] at htl
   have hb1:Below w.heap.size wr W1:=by rw [hW1];exact (Below.refl _ _).alloc hsW _
   obtain ⟨v1,w1,hrun1,hown1,hbw1,_⟩:=app_pc W1 w.heap.size u3 _ own1 _ [pcS [41]] rd1 (by have:=HQ.out;simp;omega) (Nat.le_trans hsW hb1.size)
   have HF:=kI (aI hown1 (HBW.out.trans (hb1.trans hbw1)))
   rw [hW1] at hrun1
   clear own1 rd1 hown1 hbw1 hb1 hW1 hT
   go_wp2_with fail
   go_ret
   exact ⟨_,rfl,HF.out.1,HF.out.2⟩
end Go.Proofs.YtgjlmjlfghodmaaGreatDoor
