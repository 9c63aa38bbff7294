/- Texts of one proof, one behind the other. -/
import Derived.Test.YtmamdiggjghjkaaGreatDoorMgSolveOrder1
import Derived.Test.YtmamdiggjghjkaaGreatDoorMgSolveOrder8
import Derived.Test.YtmamdiggjghjkaaGreatDoorMgSolveOrder7
import Derived.Deep.RegionHeld3
set_option linter.unusedVariables false
namespace Go.Proofs.YtmamdiggjghjkaaGreatDoor
section
open Go.RowKit Go.Shelf
attribute [local go_sem ↓] builtin_app
theorem ndC_one (L:List Nd):∀u∈L.flatMap ndC,u.oneCell'=true:=by
 intro u hu
 obtain ⟨b,_,hu⟩:=List.mem_flatMap.1 hu
 simp only [ndC,List.mem_cons,List.not_mem_nil,or_false] at hu
 rcases hu with rfl|rfl|rfl|rfl<;>rfl
theorem exec_app {P:Program}{o:Oper}{a:Act}{w:World}(s x:Operand) (t:TypeId) (ho:o.op = .call { callee:=.builtin .append,args:=#[s,x],argTypes:=#[t,t] }) {vs vx v':Value}{w':World}
  (hrun:(app_ #[t,t] o.type #[vs,vx]).run P w = .ok v' w') (hs:a.eval s=vs) (hx:a.eval x=vx):(execOp a.eval o).run P w = .ok (.value v') w':=by
 have hrun2:(Builtin.append_ #[t,t] o.type #[vs,vx]).run P w = .ok v' w':=hrun
 simp [execOp,ho,resolve,invoke,builtin,hs,hx,hrun2,Result.andThen]
structure Chg (w w':World) (g mb:Nat) (v v':Value):Prop where
 os:w'.os=w.os
 tape:w'.tape=w.tape
 output:w'.output=w.output
 size:w.heap.size≤w'.heap.size
 block:∀b,b<w.heap.size→b≠g→b≠mb→v.ownBlock≠some b→w'.heap[b]? = w.heap[b]?
 at_:v'.ownBlock=v.ownBlock∨∃b,v'.ownBlock=some b∧w.heap.size≤b
theorem Chg.of_below {w w':World}{g mb:Nat}{v:Value}(h:Below w.heap.size w w'):Chg w w' g mb v v:=⟨h.os,h.tape,h.output,h.size,fun b hb _ _ _=>h.block b hb,.inl rfl⟩
theorem ndInfo:(Tryz.prog.info? 210).map (fun i=>(i.zero,i.size,i.bytes))=some (some (.agg #[.int .i64 0,.int .i64 0,.int .i64 0,.slice none 0 0]),4,48):=by kernel_rfl
theorem app_nd (W:World) (base:Nat) (v:Value) (L:List Nd) (own:W.ownsRow base 210 4 v L.length (L.flatMap ndC)) (vx:Value) (x:Nd) (rd:Rd W 4 vx 1 (ndC x)) (hl:L.length≤10000000) (hbase:base≤W.heap.size):
  ∃(v':Value) (W':World),(app_ #[195,195] 195 #[v,vx]).run Tryz.prog W = .ok v' W'∧W'.ownsRow base 210 4 v' (L ++ [x]).length ((L ++ [x]).flatMap ndC)∧W.grownBy W' v.ownBlock∧(v'.ownBlock=v.ownBlock∨v'.ownBlock=some W.heap.size):=by
 obtain ⟨i0,hi0,hz0,hz1,hz2⟩:=info_parts ndInfo
 have rd':Rd W 4 vx [x].length ([x].flatMap ndC):=by simpa using rd
 obtain ⟨v1,w1,hrun,hown,hg,hat⟩:=run_append_rd (P:=Tryz.prog) W base 195 195 210 i0 _ 4 48 Tryz.underlying195 hi0 hz0 hz1 hz2 rfl (by omega) v _ _ own vx _ _ rd' (ndC_one _) (by unfold maxLen;simp;omega) (by simp;omega) hbase
 refine ⟨v1,w1,hrun,?_,hg,hat⟩
 rw [List.length_append,List.flatMap_append]
 exact hown
theorem ndC_at (L:List Nd) (i:Nat) (hi:i<L.length):(L.flatMap ndC)[i*4]? = some (.int .i64 L[i].1)∧(L.flatMap ndC)[i*4+1]? = some (.int .i64 L[i].2.1)∧(L.flatMap ndC)[i*4+2]? = some (.int .i64 L[i].2.2.1)∧(L.flatMap ndC)[i*4+3]? = some (slv L[i].2.2.2):=by
 induction L generalizing i with
 | nil=>simp at hi
 | cons x L ih=>
  cases i with
  | zero=>simp [ndC]
  | succ i=>
   have:=ih i (by simpa using hi)
   have e:∀j,((x :: L).flatMap ndC)[(i+1)*4+j]? = (L.flatMap ndC)[i*4+j]?:=fun j=>by
    rw [List.flatMap_cons,List.getElem?_append_right (by simp [ndC];omega)]
    congr 1
    simp [ndC];omega
   have e0:=e 0
   simp only [Nat.add_zero] at e0
   rw [e0,e 1,e 2,e 3]
   simpa using this
theorem gsum_take (G:List Gn) (P:List Nat) (j:Nat) (hj:j<P.length) (hp:P[j]<G.length):gsum G (P.take (j+1))=gsum G (P.take j)+G[P[j]].2.2.1:=by
 unfold gsum
 rw [List.take_succ_eq_append_getElem hj,List.map_append,List.sum_append]
 simp [List.getElem?_eq_getElem hp]
theorem gsum_le (G:List Gn) (P:List Nat) (j:Nat):gsum G (P.take j)≤gsum G P:=by
 have h:gsum G P=gsum G (P.take j)+gsum G (P.drop j):=by
  conv=>lhs;rw [←List.take_append_drop j P]
  simp only [gsum,List.map_append,List.sum_append]
 omega
theorem node_fin {B g mb:Nat}{wr w3 w4:World}{A:Option Addr}{c:Nat}{L:List Nd}{G:List Gn}{k n:Int}{s:Nat}{P:List Nat}(hc:wr.heap[g]? = some (Obj.cells #[.slice A L.length c,.map (some mb)] 197))
  (hrow:wr.ownsRow B 210 4 (.slice A L.length c) L.length (L.flatMap ndC)) (hnd:NdL B wr L G) (hm:∃S,MapF (gvf (G ++ [(k,n,s,P)])) S (G.length+1) mb wr) (hge:B≤g∧B≤mb) (hBw:B≤wr.heap.size) (hL:L.length≤10000000)
  (hb3:Below wr.heap.size wr w3) (q:Sl) (hq:w3.ownsRow wr.heap.size 3 1 (slv q) P.length (nums P)) (hw4:w3.alloc (.cells #[.int .i64 k,.int .i64 n,.int .i64 s,slv q] 210)=w4):
  ∃(A5:Option Addr) (c5:Nat) (w5:World),(app_ #[195,195] 195 #[.slice A L.length c,.slice (some ⟨w3.heap.size,0,none⟩) 1 1]).run Tryz.prog w4 = .ok (.slice A5 (L.length+1) c5) w5∧
   GrM B (w5.setCell ⟨g,0,none⟩ (.slice A5 (L.length+1) c5)) g (.slice A5 (L.length+1) c5) mb (L ++ [((k,n,(s:Int),q):Nd)]) (G ++ [(k,n,s,P)])∧w5.cell? ⟨g,0,none⟩=some (.slice A L.length c)∧w5.frozen? ⟨g,0,none⟩=false∧
   (∀b,b<wr.heap.size→b≠g→(Value.slice A L.length c).ownBlock≠some b→w5.heap[b]? = wr.heap[b]?∧(w5.setCell ⟨g,0,none⟩ (.slice A5 (L.length+1) c5)).heap[b]? = wr.heap[b]?)∧
   w5.os=wr.os∧w5.tape=wr.tape∧w5.output=wr.output∧wr.heap.size≤w5.heap.size∧((Value.slice A5 (L.length+1) c5).ownBlock=(Value.slice A L.length c).ownBlock∨∃b,(Value.slice A5 (L.length+1) c5).ownBlock=some b∧wr.heap.size≤b):=by
 have hs4:w4.heap.size=w3.heap.size+1:=by rw [←hw4];simp
 have hz3:=hb3.size
 have hb4:Below wr.heap.size wr w4:=by rw [←hw4];exact hb3.alloc hz3 _
 have hn4:w4.heap[w3.heap.size]? = some (Obj.cells #[.int .i64 k,.int .i64 n,.int .i64 s,slv q] 210):=by rw [←hw4];exact heap_alloc_new _ _
 have rd4:Rd w4 4 (.slice (some ⟨w3.heap.size,0,none⟩) 1 1) 1 (ndC (k,n,(s:Int),q)):=by
  refine ⟨rfl,.inr ⟨_,0,1,rfl,Nat.le_refl _,by unfold maxLen;omega,by omega,fun j u hu=>?_⟩⟩
  have hj:j<4:=(List.getElem?_eq_some_iff.1 hu).1
  rw [cell_of_row w4 w3.heap.size (0+j) _ _ (0,0) hn4]
  rcases (by omega:j=0∨j=1∨j=2∨j=3) with rfl|rfl|rfl|rfl<;>simpa [ndC,slv] using hu
 have hlt:=hrow.lt
 have row4:w4.ownsRow B 210 4 (.slice A L.length c) L.length (L.flatMap ndC):=by
  refine ⟨hrow.1,?_⟩
  rcases hrow.2 with h|⟨b,cap,cur,hv,hb,hh,hr⟩
  ·exact .inl h
  ·exact .inr ⟨b,cap,cur,hv,hb,(hb4.block b (hlt b (by rw [hv];rfl)).2).trans hh,hr⟩
 obtain ⟨v5,w5,run5,own5,g5,at5⟩:=app_nd w4 B _ L row4 _ (k,n,(s:Int),q) rd4 hL (by omega)
 obtain ⟨A5,c5,rfl,_,_⟩:=own_form own5
 have hl1:(L ++ [((k,n,(s:Int),q):Nd)]).length=L.length+1:=by simp
 rw [hl1] at run5 own5 at5
 have hgl:g<wr.heap.size:=(gL hc).1
 have hgne:(Value.slice A L.length c).ownBlock≠some g:=fun e=>by
  rcases hrow.2 with h|⟨b,cap,cur,hv,hb,hh,hr⟩
  ·rw [h.1] at e;cases e
  ·rw [hv] at e
   have:b=g:=by simpa [Value.ownBlock] using e
   subst this
   rw [hh] at hc
   cases hc
 have hblk:∀b,b<wr.heap.size→(Value.slice A L.length c).ownBlock≠some b→w5.heap[b]? = wr.heap[b]?:=fun b hb hne=>(g5.block b (by omega) (fun e=>hne e.symm)).trans (hb4.block b hb)
 have hc5:w5.heap[g]? = some (Obj.cells #[.slice A L.length c,.map (some mb)] 197):=(hblk g hgl hgne).trans hc
 have hset:∀b,b≠g→(w5.setCell ⟨g,0,none⟩ (.slice A5 (L.length+1) c5)).heap[b]? = w5.heap[b]?:=fun b hne=>Below.heap_setCell _ _ _ _ hne
 have hml:mb<wr.heap.size:=by obtain ⟨_,h⟩:=hm;exact h.lt
 have hmo:∃es ck,wr.heap[mb]? = some (Obj.map es ck):=by obtain ⟨_,_,_,⟨es,ck,h,_⟩,_⟩:=hm;exact ⟨es,ck,h⟩
 have hmg:mb≠g:=by rintro rfl;obtain ⟨_,_,h⟩:=hmo;rw [hc] at h;cases h
 have hmne:(Value.slice A L.length c).ownBlock≠some mb:=fun e=>by
  rcases hrow.2 with h|⟨b,cap,cur,hv,hb,hh,hr⟩
  ·rw [h.1] at e;cases e
  ·rw [hv] at e
   have:b=mb:=by simpa [Value.ownBlock] using e
   subst this
   obtain ⟨_,_,h⟩:=hmo
   rw [hh] at h
   cases h
 refine ⟨A5,c5,w5,run5,⟨?_,?_,?_,?_,hge⟩,cell_of_row w5 _ 0 _ _ (0,0) hc5,frozen_cells hc5 0,fun b hb hne hro=>⟨hblk b hb hro,(hset b hne).trans (hblk b hb hro)⟩,g5.os.trans hb4.os,g5.tape.trans hb4.tape,g5.output.trans hb4.output,Nat.le_trans hb4.size g5.size,?_⟩
 ·exact heap_setCell_same w5 g 0 _ _ _ hc5
 ·rw [hl1]
  refine ⟨own5.1,?_⟩
  rcases own5.2 with h|⟨b,cap,cur,hv,hb,hh,hr⟩
  ·exact .inl h
  ·exact .inr ⟨b,cap,cur,hv,hb,(hset b (by rintro rfl;rw [hc5] at hh;cases hh)).trans hh,hr⟩
 ·refine NdL.snoc (hnd.to fun b cs _ hi=>?_) ⟨rfl,rfl,rfl,hq.1,?_⟩
  ·have hbl:=(gL hi).1
   have hbg:b≠g:=by rintro rfl;rw [hc] at hi;cases hi
   refine (hset b hbg).trans ((hblk b hbl fun e=>?_).trans hi)
   rcases hrow.2 with h|⟨b2,cap,cur,hv,hb,hh,hr⟩
   ·rw [h.1] at e;cases e
   ·rw [hv] at e
    have:b2=b:=by simpa [Value.ownBlock] using e
    subst this
    rw [hh] at hi
    cases hi
  ·rcases hq.2 with h|⟨b,cap,cur,hv,hb,hh,hr⟩
   ·exact .inl h
   ·have hbl:=(gL hh).1
    refine .inr ⟨b,cap,cur,hv,by omega,(hset b (by omega)).trans ((g5.block b (by omega) (fun e=>?_)).trans ?_),hr⟩
    ·have:=(hlt b e.symm).2
     omega
    ·rw [←hw4];exact (Below.heap_alloc _ _ _ hbl).trans hh
 ·obtain ⟨S,h⟩:=hm
  refine ⟨S,?_⟩
  rw [List.length_append]
  exact h.block ((hset mb hmg).trans (hblk mb hml hmne))
 ·rcases at5 with h|h
  ·exact .inl h
  ·exact .inr ⟨_,h,by omega⟩
set_option maxHeartbeats 4000000 in
set_option maxRecDepth 100000 in
theorem node_graph (w:World) (B g mb:Nat) (v:Value) (L:List Nd) (G:List Gn) (hG:GrM B w g v mb L G) (hB:B≤w.heap.size) (k n:Int) (u:Sl) (hn:(Lit.int .i64 n).wf=true) (P:List Nat) (vp:Value) (hP:Rd w 1 vp P.length (nums P))
  (hPl:∀p∈P,p<G.length) (hsz:gsum G P≤1000000) (hGl:G.length≤1000000) (hPn:P.length≤1000000):
  Calls Tryz.prog 131 #[.pointer (some ⟨g,0,none⟩),tyVal k n (slv u),vp] w fun e w'=>∃v' L',e = .returned (.int .i64 ((gnode G k n P).2:Nat))∧GrM B w' g v' mb L' (gnode G k n P).1∧Chg w w' g mb v v'∧∃E,L'=L++E∧∀x∈E,∀b,(slv x.2.2.2).ownBlock=some b→w.heap.size≤b:=by
 obtain ⟨u1,u2,u3⟩:=u
 obtain ⟨AP,cP,rfl⟩:=hP.form
 obtain ⟨A,c,rfl,hlc,_⟩:=own_form hG.row
 dsimp only [tyVal,slv]
 obtain ⟨w1,hw1⟩:∃w1,w.alloc (.cells #[.int .i64 k,.int .i64 n,.slice u1 u2 u3] 25)=w1:=⟨_,rfl⟩
 have hb1:Below w.heap.size w w1:=by rw [←hw1];exact (Below.refl _ _).alloc (Nat.le_refl _) _
 have hs1:w1.heap.size=w.heap.size+1:=by rw [←hw1];simp
 have hB1:w1.heap[w.heap.size]? = some (.cells #[.int .i64 k,.int .i64 n,.slice u1 u2 u3] 25):=by rw [←hw1];exact heap_alloc_new _ _
 have hG1:=hG.below hb1
 have hgW:=hG.lt.1
 have HRW:=kI (show (Value.slice A L.length c).ownBlock≠some w.heap.size from fun e=>by have:=(hG.row.lt _ e).2;omega)
 have c0:w1.cell? ⟨w.heap.size,0,none⟩=some (.int .i64 k):=cell_of_row w1 _ 0 _ _ (0,0) hB1
 have c1:w1.cell? ⟨w.heap.size,1,none⟩=some (.int .i64 n):=cell_of_row w1 _ 1 _ _ (0,0) hB1
 have g0:w1.cell? ⟨g,0,none⟩=some (.slice A L.length c):=cell_of_row w1 _ 0 _ _ (0,0) hG1.cell
 have g1:w1.cell? ⟨g,1,none⟩=some (.map (some mb)):=cell_of_row w1 _ 1 _ _ (0,0) hG1.cell
 obtain ⟨S,hm⟩:=hG1.vars
 have HG1:=kI hG1
 have HB1:=kI hb1
 have HBX:=kI hB1
 have HM:=kI hm
 have HP:=kI hP
 have HPL:=kI hPl
 have HS1:=kI hs1
 by_cases hk:k=1
 ·subst hk
  have hlk:=hm.look_ok intsTy n hn
  cases hv:gvar G n with
  | some i=>
   have hgn:gnode G 1 n P=(G,i):=by simp [gnode,hv]
   have hf:gvf G n=some (.int .i64 i):=by simp [gvf,hv]
   rw [hf] at hlk
   dsimp only [Option.getD,Option.isSome] at hlk
   have hlkd:(Instr.lookup 145 (.map (some mb)) (.int .i64 n) true).run Tryz.prog w1.drew = .ok (.tuple #[.int .i64 i,.bool true]) w1.drew:=by
    have:=(hm.below (Below.refl _ _).drew).look_ok intsTy n hn
    rw [hf] at this
    exact this
   rw [hgn]
   clear hG hG1 hb1 hB1 hm hP hPl hs1 hlk
   go_enter Tryz.func131,Tryz.ntmps131
   go_wp2_with fail
   go_region
   all_goals go_wp2_with fail
   all_goals exact bodyPost_ret (results_tmp rfl _ _ _) rfl ⟨_,L,rfl,HG1.out.below (Below.refl _ _).drew,Chg.of_below HB1.out.drew,[],by simp,fun x hx=>nomatch hx⟩
  | none=>
   have hgn:gnode G 1 n P=(G ++ [(1,n,1+gsum G P,P)],G.length):=by simp [gnode,hv]
   have hf:gvf G n=none:=by simp [gvf,hv]
   have hlkd:(Instr.lookup 145 (.map (some mb)) (.int .i64 n) true).run Tryz.prog w1.drew = .ok (.tuple #[.int .i64 0,.bool false]) w1.drew:=by
    have:=(hm.below (Below.refl _ _).drew).look_ok intsTy n hn
    rw [hf] at this
    exact this
   have hd2:Below w1.heap.size w1 w1.drew.drew:=⟨rfl,rfl,rfl,Nat.le_refl _,fun _ _=>rfl⟩
   obtain ⟨W3,run3,m3,g3,o3,s3⟩:=(hm.below hd2).put intsTy (by omega) n hn (.int .i64 (L.length:Nat))
   have hll:=hG1.nodes.len
   have hmo:∃es ck,w1.heap[mb]? = some (Obj.map es ck):=by obtain ⟨_,_,⟨es,ck,h,_⟩,_⟩:=hm;exact ⟨es,ck,h⟩
   have hob:∀i,i≠mb→W3.heap[i]? = w1.heap[i]?:=fun i hi=>o3 i hi
   have hmg:g≠mb:=by rintro rfl;obtain ⟨_,_,h⟩:=hmo;rw [hG1.cell] at h;cases h
   have hwm:w.heap.size≠mb:=by rintro e;have:=hG.lt.2;omega
   rw [hgn]
   have HC:=kI ((hob g hmg).trans hG1.cell)
   have HR:=kI (show W3.ownsRow B 210 4 (.slice A L.length c) L.length (L.flatMap ndC) from by
    refine ⟨hG1.row.1,?_⟩
    rcases hG1.row.2 with h|⟨b,cap,cur,hv,hb,hh,hr⟩
    ·exact .inl h
    ·exact .inr ⟨b,cap,cur,hv,hb,(hob b (by rintro rfl;obtain ⟨_,_,h⟩:=hmo;rw [hh] at h;cases h)).trans hh,hr⟩)
   have HN:=kI (hG1.nodes.to (w':=W3) fun b cs _ hh=>(hob b (by rintro rfl;obtain ⟨_,_,h⟩:=hmo;rw [hh] at h;cases h)).trans hh)
   have HGE:=kI hG1.ge
   have HPr:=kI (show Rd W3 1 (.slice AP P.length cP) P.length (nums P) from by
    obtain ⟨h1,h2⟩:=hP.below hb1
    refine ⟨h1,h2.imp id ?_⟩
    rintro ⟨b,off,cap,hv,hc1,hc2,hb,hcs⟩
    refine ⟨b,off,cap,hv,hc1,hc2,by have:=s3;simp only [World.drew] at this;omega,fun j u hu=>?_⟩
    have hcu:=hcs j u hu
    have hbm:b≠mb:=by
     rintro rfl
     obtain ⟨_,_,h⟩:=hmo
     simp [World.cell?,h] at hcu
    exact (World.cell?_of_block (a:=⟨b,off+j,none⟩) (hob b hbm)).trans hcu)
   have HMG:=kI (show ∀s0:Nat,∃S,MapF (gvf (G ++ [(1,n,s0,P)])) S (G.length+1) mb W3 from fun s0=>⟨_,by rw [gvf_snoc_var G n s0 P hv,←hll];rw [←hll] at m3;exact m3⟩)
   have HCH:=kI (show W3.os=w.os∧W3.tape=w.tape∧W3.output=w.output∧w.heap.size≤W3.heap.size∧∀b,b<w.heap.size→b≠mb→W3.heap[b]? = w.heap[b]? from ⟨g3.os.trans hb1.os,g3.tape.trans hb1.tape,g3.output.trans hb1.output,by have:=s3;simp only [World.drew] at this;omega,fun b hb hbm=>(hob b hbm).trans (hb1.block b hb)⟩)
   have HBX:=kI ((hob _ hwm).trans hB1)
   have HS1:=kI (show W3.heap.size=w.heap.size+1 by have:=s3;simp only [World.drew] at this;omega)
   have kx3:W3.cell? ⟨g,0,none⟩=some (.slice A L.length c)∧W3.cell? ⟨g,1,none⟩=some (.map (some mb))∧W3.cell? ⟨w.heap.size,1,none⟩=some (.int .i64 n):=⟨cell_of_row W3 g 0 _ _ (0,0) HC.out,cell_of_row W3 g 1 _ _ (0,0) HC.out,cell_of_row W3 _ 1 _ _ (0,0) HBX.out⟩
   have g0d:w1.drew.cell? ⟨g,0,none⟩=some (.slice A L.length c):=g0
   have g0e:w1.drew.drew.cell? ⟨g,0,none⟩=some (.slice A L.length c):=g0
   have g1e:w1.drew.drew.cell? ⟨g,1,none⟩=some (.map (some mb)):=g1
   have c1e:w1.drew.drew.cell? ⟨w.heap.size,1,none⟩=some (.int .i64 n):=c1
   clear hG hG1 hb1 hB1 hm hP hPl hs1 HG1 HM HP HB1 hd2 m3 g3 o3 s3 hll hmo hob hmg hwm hf
   go_enter Tryz.func131,Tryz.ntmps131
   go_wp2_with fail
   go_region
   go_wp2_with fail
   go_region_held3 (fun W=>W.cell? ⟨g,0,none⟩=some (.slice A L.length c)∧W.cell? ⟨g,1,none⟩=some (.map (some mb))∧W.cell? ⟨w.heap.size,1,none⟩=some (.int .i64 n)) (first|exact ⟨g0e,g1e,c1e⟩|exact kx3) (fail)
   clear g0 g1 c1 g0d g0e g1e c1e run3 hlkd
   obtain ⟨g0,g1,c1⟩:=kx3
   go_wp2_with fail
   go_loopw [9,40] (fun s9 s40 wr=>∃j:Nat,s40 = .int .i64 j∧j≤P.length∧s9 = .int .i64 ((1+gsum G (P.take j):Nat):Int)∧wr=W3) (fun _ s _=>P.length-(intOf s).toNat)
   case atStart=>exact ⟨0,rfl,Nat.zero_le _,by simp [gsum],rfl⟩
   case round=>
    obtain ⟨j,rfl,hj,rfl,rfl⟩:=hrel
    by_cases hjl:j<P.length
    ·have hpj:=HPL.out _ (List.getElem_mem hjl)
     have hgl:=HN.out.len
     obtain ⟨ab,cb,hv,-,-⟩:=own_shape HR.out (by omega)
     injection hv with hv _ _
     subst hv
     have hst:=gsum_take G P j hjl hpj
     have hle:=gsum_le G P (j+1)
     have hnd:=HN.out.at P[j] (by omega) hpj
     obtain ⟨-,-,q2,-⟩:=ndC_at L P[j] (by omega)
     have x2:wr.cell? ⟨ab,P[j]*4+2,none⟩=some (.int .i64 L[P[j]].2.2.1):=by rw [HR.out.cellAt _ (by omega)];exact q2
     obtain ⟨bp,po,pc,hv2,-,-,-,hc2⟩:=HPr.out.2.resolve_left (by omega)
     injection hv2 with hv2 _ _
     subst hv2
     have p0:=hc2 j (.int .i64 (P[j]:Int)) (by simp [nums,ints,toI,hjl])
     rw [hnd.2.2.1] at x2
     obtain ⟨z,hz⟩:∃z,G[P[j]].2.2.1=z:=⟨_,rfl⟩
     rw [hz] at x2 hst
     have hpL:P[j]<L.length:=by omega
     obtain ⟨p,hp⟩:∃p,P[j]=p:=⟨_,rfl⟩
     rw [hp] at x2 p0 hpL
     obtain ⟨s0,hs0⟩:∃s0,1+gsum G (P.take j)=s0:=⟨_,rfl⟩
     have hs1:1+gsum G (P.take (j+1))=s0+z:=by omega
     have hbd:s0+z≤1000001:=by omega
     rw [hs0]
     have HS1':=kI hs1
     have f1:IntKind.i64.wrap ((s0:Int)+(z:Int))=(s0:Int)+(z:Int):=IntWalk.i64_in _ (by omega)
     clear hnd q2 hc2 hst hle hz hp hs0 hs1 hpj hgl
     go_wp2_with fail
     go_roundw
     case rel=>exact ⟨j+1,by go_num,hjl,by rw [HS1'.out];push_cast;rfl,trivial⟩
     case measure=>simp [intOf];omega
    ·have hje:j=P.length:=by omega
     subst hje
     rw [List.take_length]
     obtain ⟨s0,hs0⟩:∃s0:Nat,1+gsum G P=s0:=⟨_,rfl⟩
     rw [hs0]
     have HS0E:=kI hs0
     clear hs0
     go_wp2_with fail
     have hgl:g<wr.heap.size:=(gL HC.out).1
     have hgw:g<w.heap.size:=hgW
     obtain ⟨S0,hS0⟩:∃S0:World→Prop,S0=fun W=>W.cell? ⟨w.heap.size,0,none⟩=some (.int .i64 1)∧W.cell? ⟨w.heap.size,1,none⟩=some (.int .i64 n):=⟨_,rfl⟩
     have hSof:∀W,W.heap[w.heap.size]? = some (.cells #[.int .i64 1,.int .i64 n,.slice u1 u2 u3] 25)→S0 W:=fun W h=>by
      rw [hS0];exact ⟨cell_of_row W _ 0 _ _ (0,0) h,cell_of_row W _ 1 _ _ (0,0) h⟩
     have EX:∀W,S0 W→W.cell? ⟨w.heap.size,0,none⟩=some (.int .i64 1)∧W.cell? ⟨w.heap.size,1,none⟩=some (.int .i64 n):=fun W h=>by rw [hS0] at h;exact h
     have EX:=kI EX
     have HSOF:=kI hSof
     have hS:S0 wr.drew:=hSof _ HBX.out
     have hcl:=clone_ints wr.drew _ (toI P) (by rw [toI_len];exact HPr.out.below (Below.refl _ _).drew) (by rw [toI_len];omega)
     have HCL:=kI hcl
     have HL:=kI HN.out.len
     have HWL:=kI (aI (show w.heap.size<wr.heap.size by have:=HS1.out;omega) (aI (show g<wr.heap.size from hgl) (aI (show B≤wr.heap.size by have:=HS1.out;omega) (show L.length≤10000000 by have:=HL.out;omega))))
     have HMM:=kI (HMG.out s0)
     have HGW:=kI (aI hgw hgl)
     clear hS0 hSof hcl hgw hgl
     refine wp_region_held (S:=S0) (by kernel_rfl) ?_
     change wpAnyH _ _ _ _ _ 18 (List.replicate 18 false).toArray _ wr.drew
     simp only [List.replicate_succ,List.replicate_zero]
     refine tj (i:=0) (some 55) (.pointer (some ⟨g,0,none⟩)) rfl hS ?_
     simp only [Act.put,zA,zB,zC]
     refine tj (i:=1) (some 56) (.pointer (some ⟨g,0,none⟩)) rfl hS ?_
     simp only [Act.put,zA,zB,zC]
     refine tj (i:=2) (some 57) (.pointer (some ⟨g,0,none⟩)) rfl hS ?_
     simp only [Act.put,zA,zB,zC]
     refine tj (i:=3) (some 58) (.pointer (some ⟨g,0,none⟩)) rfl hS ?_
     simp only [Act.put,zA,zB,zC]
     refine tj (i:=5) (some 60) (.pointer (some ⟨w.heap.size,0,none⟩)) rfl hS ?_
     simp only [Act.put,zA,zB,zC]
     refine tk (i:=6) (some 61) (.int .i64 1) rfl (fun w hw=>by obtain ⟨n0,n1⟩:=EX.out w hw;clear hw;go_simp) hS ?_
     simp only [Act.put,zA,zB,zC]
     refine tj (i:=7) (some 62) (.pointer (some ⟨w.heap.size,1,none⟩)) rfl hS ?_
     simp only [Act.put,zA,zB,zC]
     refine tk (i:=8) (some 63) (.int .i64 n) rfl (fun w hw=>by obtain ⟨n0,n1⟩:=EX.out w hw;clear hw;go_simp) hS ?_
     simp only [Act.put,zA,zB,zC]
     refine tj (i:=9) (some 64) (.int .i64 s0) rfl hS ?_
     simp only [Act.put,zA,zB,zC]
     refine tj (i:=10) (some 65) (.slice AP P.length cP) rfl hS ?_
     simp only [Act.put,zA,zB,zC]
     have g0d:wr.drew.cell? ⟨g,0,none⟩=some (.slice A L.length c):=g0
     clear g0 g1 c0 c1
     refine wpAnyH_all (rs:=[4,11]) (by kernel_rfl) (by simp) fun q hq=>?_
     rcases (by simpa using hq:q=4∨q=11) with rfl|rfl
     ·have g0x:=g0d
      refine ops_val (d:=some 59) (v:=.slice A L.length c) rfl (by rfl) (by kernel_rfl) (by go_simp) hS ?_
      clear g0x
      simp only [Act.put,zA,zB,zC]
      refine aK 11 ?_
      refine ops_call (d:=some 66) rfl (by rfl) (by kernel_rfl) (by go_simp) (HCL.out.mono ?_)
      rintro e w3 ⟨vq,rfl,ownq,hb3d⟩
      rw [toI_len] at ownq
      obtain ⟨Aq,cq,rfl,-,-⟩:=own_form ownq
      have HQW:=kI (show ∀b,(Value.slice Aq P.length cq).ownBlock=some b→wr.heap.size≤b from fun b hb=>(ownq.lt b hb).1)
      have hb3:Below wr.heap.size wr w3:=(Below.refl _ _).drew.trans hb3d
      have hx3:=(hb3.block _ HWL.out.1).trans HBX.out
      have hg3:=cell_of_row w3 g 0 _ _ (0,0) ((hb3.block _ HWL.out.2.1).trans HC.out)
      obtain ⟨A5,c5,w5,run5,gr5,e5,z5,blk5,os5,tp5,ou5,sz5,at5⟩:=node_fin HC.out HR.out HN.out HMM.out HGE.out HWL.out.2.2.1 HWL.out.2.2.2 hb3 (Aq,P.length,cq) ownq rfl
      dsimp only [slv] at run5
      have hx4:=(Below.heap_alloc w3 (Obj.cells #[.int .i64 1,.int .i64 n,.int .i64 s0,.slice Aq P.length cq] 210) w.heap.size (gL hx3).1).trans hx3
      have hg4:(w3.alloc (Obj.cells #[.int .i64 1,.int .i64 n,.int .i64 s0,.slice Aq P.length cq] 210)).cell? ⟨g,0,none⟩=some (.slice A L.length c):=by
       have h3:=(hb3.block _ HWL.out.2.1).trans HC.out
       exact cell_of_row _ g 0 _ _ (0,0) ((Below.heap_alloc w3 _ g (gL h3).1).trans h3)
      have hx5:=(blk5 _ HWL.out.1 (Nat.ne_of_gt HGW.out.1) HRW.out).1.trans HBX.out
      have hx6:=(blk5 _ HWL.out.1 (Nat.ne_of_gt HGW.out.1) HRW.out).2.trans HBX.out
      have HS3:=kI (HSOF.out _ hx3)
      have HS4:=kI (HSOF.out _ hx4)
      have HS5:=kI (HSOF.out _ hx5)
      have HS6:=kI (HSOF.out _ hx6)
      have HFI:=kI (aI gr5 (aI blk5 (aI os5 (aI tp5 (aI ou5 (aI sz5 at5))))))
      have HG3:=kI hg3
      have HG4:=kI hg4
      have c6:=cell_of_row _ g 0 _ _ (0,0) gr5.cell
      clear ownq hb3d hb3 hx3 hg3 hx4 hg4 hx5 hx6 gr5 blk5 os5 tp5 ou5 sz5 at5
      refine ⟨_,rfl,HS3.out,?_⟩
      simp only [Act.put,zA,zB,zC]
      have hS3:=HS3.out
      refine tj (i:=12) (some 67) (.agg #[.int .i64 1,.int .i64 n,.int .i64 s0,.slice Aq P.length cq]) rfl hS3 ?_
      simp only [Act.put,zA,zB,zC]
      refine aK 13 ?_
      refine ops_val (d:=some 68) (v:=.slice (some ⟨w3.heap.size,0,none⟩) 1 1) (w':=w3.alloc (Obj.cells #[.int .i64 1,.int .i64 n,.int .i64 s0,.slice Aq P.length cq] 210)) rfl (by rfl) (by kernel_rfl) (by go_simp) HS4.out ?_
      simp only [Act.put,zA,zB,zC]
      refine aK 14 ?_
      refine ops_val (d:=some 69) (v:=.slice A5 (L.length+1) c5) (w':=w5) rfl (by rfl) (by kernel_rfl) (exec_app (.tmp 59) (.tmp 68) 195 rfl run5 (by rfl) (by rfl)) HS5.out ?_
      simp only [Act.put,zA,zB,zC]
      have hS5:=HS5.out
      refine tj (i:=15) (some 70) (.pointer (some ⟨g,0,none⟩)) rfl hS5 ?_
      simp only [Act.put,zA,zB,zC]
      refine tj (i:=16) (some 71) (.pointer (some ⟨g,0,none⟩)) rfl hS5 ?_
      simp only [Act.put,zA,zB,zC]
      refine aK 17 ?_
      refine ops_skip (w':=w5.setCell ⟨g,0,none⟩ (.slice A5 (L.length+1) c5)) rfl (by kernel_rfl) (by go_simp) HS6.out rfl ?_
      refine wpAnyH_done (by kernel_rfl) ?_ _
      clear run5 e5 z5 hS5 hS3 hS
      go_wp2_with fail
      obtain ⟨gr5,blk5,os5,tp5,ou5,sz5,at5⟩:=HFI.out
      have hgl:=HL.out
      obtain ⟨hos,htp,hou,hz01,hbk⟩:=HCH.out
      rw [HS0E.out]
      refine bodyPost_ret (results_tmp rfl _ _ _) rfl ⟨_,_,?_,gr5,⟨os5.trans hos,tp5.trans htp,ou5.trans hou,?_,fun b hb hbg hbm hro=>(blk5 b (by omega) hbg hro).2.trans (hbk b hb hbm),?_⟩,_,rfl,fun x hx b hb=>?_⟩
      ·rw [←hgl]
       exact congrArg (fun z=>Ending.returned (.int .i64 z)) (IntWalk.wrap64_in _ (by omega))
      ·simp only [World.setCell]
       have:(w5.heap.setIfInBounds g ((w5.heap[g]?.getD default))).size=w5.heap.size:=by simp
       first|(simp;omega)|omega
      ·rcases at5 with h|⟨b,h,h2⟩
       ·exact .inl h
       ·exact .inr ⟨b,h,by omega⟩
      ·have hx':=List.mem_singleton.1 hx
       subst hx'
       exact Nat.le_trans hz01 (HQW.out b hb)
     ·refine ops_call (d:=some 66) rfl (by rfl) (by kernel_rfl) (by go_simp) (HCL.out.mono ?_)
      rintro e w3 ⟨vq,rfl,ownq,hb3d⟩
      rw [toI_len] at ownq
      obtain ⟨Aq,cq,rfl,-,-⟩:=own_form ownq
      have HQW:=kI (show ∀b,(Value.slice Aq P.length cq).ownBlock=some b→wr.heap.size≤b from fun b hb=>(ownq.lt b hb).1)
      have hb3:Below wr.heap.size wr w3:=(Below.refl _ _).drew.trans hb3d
      have hx3:=(hb3.block _ HWL.out.1).trans HBX.out
      have hg3:=cell_of_row w3 g 0 _ _ (0,0) ((hb3.block _ HWL.out.2.1).trans HC.out)
      obtain ⟨A5,c5,w5,run5,gr5,e5,z5,blk5,os5,tp5,ou5,sz5,at5⟩:=node_fin HC.out HR.out HN.out HMM.out HGE.out HWL.out.2.2.1 HWL.out.2.2.2 hb3 (Aq,P.length,cq) ownq rfl
      dsimp only [slv] at run5
      have hx4:=(Below.heap_alloc w3 (Obj.cells #[.int .i64 1,.int .i64 n,.int .i64 s0,.slice Aq P.length cq] 210) w.heap.size (gL hx3).1).trans hx3
      have hg4:(w3.alloc (Obj.cells #[.int .i64 1,.int .i64 n,.int .i64 s0,.slice Aq P.length cq] 210)).cell? ⟨g,0,none⟩=some (.slice A L.length c):=by
       have h3:=(hb3.block _ HWL.out.2.1).trans HC.out
       exact cell_of_row _ g 0 _ _ (0,0) ((Below.heap_alloc w3 _ g (gL h3).1).trans h3)
      have hx5:=(blk5 _ HWL.out.1 (Nat.ne_of_gt HGW.out.1) HRW.out).1.trans HBX.out
      have hx6:=(blk5 _ HWL.out.1 (Nat.ne_of_gt HGW.out.1) HRW.out).2.trans HBX.out
      have HS3:=kI (HSOF.out _ hx3)
      have HS4:=kI (HSOF.out _ hx4)
      have HS5:=kI (HSOF.out _ hx5)
      have HS6:=kI (HSOF.out _ hx6)
      have HFI:=kI (aI gr5 (aI blk5 (aI os5 (aI tp5 (aI ou5 (aI sz5 at5))))))
      have HG3:=kI hg3
      have HG4:=kI hg4
      have c6:=cell_of_row _ g 0 _ _ (0,0) gr5.cell
      clear ownq hb3d hb3 hx3 hg3 hx4 hg4 hx5 hx6 gr5 blk5 os5 tp5 ou5 sz5 at5
      refine ⟨_,rfl,HS3.out,?_⟩
      simp only [Act.put,zA,zB,zC]
      have hS3:=HS3.out
      refine tj (i:=12) (some 67) (.agg #[.int .i64 1,.int .i64 n,.int .i64 s0,.slice Aq P.length cq]) rfl hS3 ?_
      simp only [Act.put,zA,zB,zC]
      refine wpAnyH_all (rs:=[4,13]) (by kernel_rfl) (by simp) fun q hq=>?_
      rcases (by simpa using hq:q=4∨q=13) with rfl|rfl
      ·have g0x:=HG3.out
       refine ops_val (d:=some 59) (v:=.slice A L.length c) rfl (by rfl) (by kernel_rfl) (by go_simp) hS3 ?_
       clear g0x
       simp only [Act.put,zA,zB,zC]
       refine aK 13 ?_
       refine ops_val (d:=some 68) (v:=.slice (some ⟨w3.heap.size,0,none⟩) 1 1) (w':=w3.alloc (Obj.cells #[.int .i64 1,.int .i64 n,.int .i64 s0,.slice Aq P.length cq] 210)) rfl (by rfl) (by kernel_rfl) (by go_simp) HS4.out ?_
       simp only [Act.put,zA,zB,zC]
       refine aK 14 ?_
       refine ops_val (d:=some 69) (v:=.slice A5 (L.length+1) c5) (w':=w5) rfl (by rfl) (by kernel_rfl) (exec_app (.tmp 59) (.tmp 68) 195 rfl run5 (by rfl) (by rfl)) HS5.out ?_
       simp only [Act.put,zA,zB,zC]
       have hS5:=HS5.out
       refine tj (i:=15) (some 70) (.pointer (some ⟨g,0,none⟩)) rfl hS5 ?_
       simp only [Act.put,zA,zB,zC]
       refine tj (i:=16) (some 71) (.pointer (some ⟨g,0,none⟩)) rfl hS5 ?_
       simp only [Act.put,zA,zB,zC]
       refine aK 17 ?_
       refine ops_skip (w':=w5.setCell ⟨g,0,none⟩ (.slice A5 (L.length+1) c5)) rfl (by kernel_rfl) (by go_simp) HS6.out rfl ?_
       refine wpAnyH_done (by kernel_rfl) ?_ _
       clear run5 e5 z5 hS5 hS3 hS
       go_wp2_with fail
       obtain ⟨gr5,blk5,os5,tp5,ou5,sz5,at5⟩:=HFI.out
       have hgl:=HL.out
       obtain ⟨hos,htp,hou,hz01,hbk⟩:=HCH.out
       rw [HS0E.out]
       refine bodyPost_ret (results_tmp rfl _ _ _) rfl ⟨_,_,?_,gr5,⟨os5.trans hos,tp5.trans htp,ou5.trans hou,?_,fun b hb hbg hbm hro=>(blk5 b (by omega) hbg hro).2.trans (hbk b hb hbm),?_⟩,_,rfl,fun x hx b hb=>?_⟩
       ·rw [←hgl]
        exact congrArg (fun z=>Ending.returned (.int .i64 z)) (IntWalk.wrap64_in _ (by omega))
       ·simp only [World.setCell]
        have:(w5.heap.setIfInBounds g ((w5.heap[g]?.getD default))).size=w5.heap.size:=by simp
        first|(simp;omega)|omega
       ·rcases at5 with h|⟨b,h,h2⟩
        ·exact .inl h
        ·exact .inr ⟨b,h,by omega⟩
       ·have hx':=List.mem_singleton.1 hx
        subst hx'
        exact Nat.le_trans hz01 (HQW.out b hb)
      ·refine ops_val (d:=some 68) (v:=.slice (some ⟨w3.heap.size,0,none⟩) 1 1) (w':=w3.alloc (Obj.cells #[.int .i64 1,.int .i64 n,.int .i64 s0,.slice Aq P.length cq] 210)) rfl (by rfl) (by kernel_rfl) (by go_simp) HS4.out ?_
       simp only [Act.put,zA,zB,zC]
       refine aK 4 ?_
       have g0x:=HG4.out
       refine ops_val (d:=some 59) (v:=.slice A L.length c) rfl (by rfl) (by kernel_rfl) (by go_simp) HS4.out ?_
       clear g0x
       simp only [Act.put,zA,zB,zC]
       refine aK 14 ?_
       refine ops_val (d:=some 69) (v:=.slice A5 (L.length+1) c5) (w':=w5) rfl (by rfl) (by kernel_rfl) (exec_app (.tmp 59) (.tmp 68) 195 rfl run5 (by rfl) (by rfl)) HS5.out ?_
       simp only [Act.put,zA,zB,zC]
       have hS5:=HS5.out
       refine tj (i:=15) (some 70) (.pointer (some ⟨g,0,none⟩)) rfl hS5 ?_
       simp only [Act.put,zA,zB,zC]
       refine tj (i:=16) (some 71) (.pointer (some ⟨g,0,none⟩)) rfl hS5 ?_
       simp only [Act.put,zA,zB,zC]
       refine aK 17 ?_
       refine ops_skip (w':=w5.setCell ⟨g,0,none⟩ (.slice A5 (L.length+1) c5)) rfl (by kernel_rfl) (by go_simp) HS6.out rfl ?_
       refine wpAnyH_done (by kernel_rfl) ?_ _
       clear run5 e5 z5 hS5 hS3 hS
       go_wp2_with fail
       obtain ⟨gr5,blk5,os5,tp5,ou5,sz5,at5⟩:=HFI.out
       have hgl:=HL.out
       obtain ⟨hos,htp,hou,hz01,hbk⟩:=HCH.out
       rw [HS0E.out]
       refine bodyPost_ret (results_tmp rfl _ _ _) rfl ⟨_,_,?_,gr5,⟨os5.trans hos,tp5.trans htp,ou5.trans hou,?_,fun b hb hbg hbm hro=>(blk5 b (by omega) hbg hro).2.trans (hbk b hb hbm),?_⟩,_,rfl,fun x hx b hb=>?_⟩
       ·rw [←hgl]
        exact congrArg (fun z=>Ending.returned (.int .i64 z)) (IntWalk.wrap64_in _ (by omega))
       ·simp only [World.setCell]
        have:(w5.heap.setIfInBounds g ((w5.heap[g]?.getD default))).size=w5.heap.size:=by simp
        first|(simp;omega)|omega
       ·rcases at5 with h|⟨b,h,h2⟩
        ·exact .inl h
        ·exact .inr ⟨b,h,by omega⟩
       ·have hx':=List.mem_singleton.1 hx
        subst hx'
        exact Nat.le_trans hz01 (HQW.out b hb)
 ·have hgn:gnode G k n P=(G ++ [(k,n,1+gsum G P,P)],G.length):=by simp [gnode,hk]
  have fk:(k == 1)=false:=by simpa using hk
  rw [hgn]
  have HC:=kI hG1.cell
  have HR:=kI hG1.row
  have HN:=kI hG1.nodes
  have HGE:=kI hG1.ge
  have HPr:=kI (hP.below hb1)
  have HMG:=kI (show ∀s0:Nat,∃S,MapF (gvf (G ++ [(k,n,s0,P)])) S (G.length+1) mb w1 from fun s0=>⟨S,by rw [gvf_snoc_other G k n s0 P hk];exact hm.le (Nat.le_succ _)⟩)
  have HCH:=kI (show w1.os=w.os∧w1.tape=w.tape∧w1.output=w.output∧w.heap.size≤w1.heap.size∧∀b,b<w.heap.size→b≠mb→w1.heap[b]? = w.heap[b]? from ⟨hb1.os,hb1.tape,hb1.output,hb1.size,fun b hb _=>hb1.block b hb⟩)
  clear hG hG1 hb1 hB1 hm hP hPl hs1 HG1 HM HP HB1
  go_enter Tryz.func131,Tryz.ntmps131
  go_wp2_with fail
  go_loopw [9,40] (fun s9 s40 wr=>∃j:Nat,s40 = .int .i64 j∧j≤P.length∧s9 = .int .i64 ((1+gsum G (P.take j):Nat):Int)∧wr=w1) (fun _ s _=>P.length-(intOf s).toNat)
  case atStart=>exact ⟨0,rfl,Nat.zero_le _,by simp [gsum],rfl⟩
  case round=>
   obtain ⟨j,rfl,hj,rfl,rfl⟩:=hrel
   by_cases hjl:j<P.length
   ·have hpj:=HPL.out _ (List.getElem_mem hjl)
    have hgl:=HN.out.len
    obtain ⟨ab,cb,hv,-,-⟩:=own_shape HR.out (by omega)
    injection hv with hv _ _
    subst hv
    have hst:=gsum_take G P j hjl hpj
    have hle:=gsum_le G P (j+1)
    have hnd:=HN.out.at P[j] (by omega) hpj
    obtain ⟨-,-,q2,-⟩:=ndC_at L P[j] (by omega)
    have x2:wr.cell? ⟨ab,P[j]*4+2,none⟩=some (.int .i64 L[P[j]].2.2.1):=by rw [HR.out.cellAt _ (by omega)];exact q2
    obtain ⟨bp,po,pc,hv2,-,-,-,hc2⟩:=HPr.out.2.resolve_left (by omega)
    injection hv2 with hv2 _ _
    subst hv2
    have p0:=hc2 j (.int .i64 (P[j]:Int)) (by simp [nums,ints,toI,hjl])
    rw [hnd.2.2.1] at x2
    obtain ⟨z,hz⟩:∃z,G[P[j]].2.2.1=z:=⟨_,rfl⟩
    rw [hz] at x2 hst
    have hpL:P[j]<L.length:=by omega
    obtain ⟨p,hp⟩:∃p,P[j]=p:=⟨_,rfl⟩
    rw [hp] at x2 p0 hpL
    obtain ⟨s0,hs0⟩:∃s0,1+gsum G (P.take j)=s0:=⟨_,rfl⟩
    have hs1:1+gsum G (P.take (j+1))=s0+z:=by omega
    have hbd:s0+z≤1000001:=by omega
    rw [hs0]
    have HS1':=kI hs1
    have f1:IntKind.i64.wrap ((s0:Int)+(z:Int))=(s0:Int)+(z:Int):=IntWalk.i64_in _ (by omega)
    clear hnd q2 hc2 hst hle hz hp hs0 hs1 hpj hgl
    go_wp2_with fail
    go_roundw
    case rel=>exact ⟨j+1,by go_num,hjl,by rw [HS1'.out];push_cast;rfl,trivial⟩
    case measure=>simp [intOf];omega
   ·have hje:j=P.length:=by omega
    subst hje
    rw [List.take_length]
    obtain ⟨s0,hs0⟩:∃s0:Nat,1+gsum G P=s0:=⟨_,rfl⟩
    rw [hs0]
    have HS0E:=kI hs0
    clear hs0
    go_wp2_with fail
    have hgl:g<wr.heap.size:=(gL HC.out).1
    have hgw:g<w.heap.size:=hgW
    obtain ⟨S0,hS0⟩:∃S0:World→Prop,S0=fun W=>W.cell? ⟨w.heap.size,0,none⟩=some (.int .i64 k)∧W.cell? ⟨w.heap.size,1,none⟩=some (.int .i64 n):=⟨_,rfl⟩
    have hSof:∀W,W.heap[w.heap.size]? = some (.cells #[.int .i64 k,.int .i64 n,.slice u1 u2 u3] 25)→S0 W:=fun W h=>by
     rw [hS0];exact ⟨cell_of_row W _ 0 _ _ (0,0) h,cell_of_row W _ 1 _ _ (0,0) h⟩
    have EX:∀W,S0 W→W.cell? ⟨w.heap.size,0,none⟩=some (.int .i64 k)∧W.cell? ⟨w.heap.size,1,none⟩=some (.int .i64 n):=fun W h=>by rw [hS0] at h;exact h
    have EX:=kI EX
    have HSOF:=kI hSof
    have hS:S0 wr.drew:=hSof _ HBX.out
    have hcl:=clone_ints wr.drew _ (toI P) (by rw [toI_len];exact HPr.out.below (Below.refl _ _).drew) (by rw [toI_len];omega)
    have HCL:=kI hcl
    have HL:=kI HN.out.len
    have HWL:=kI (aI (show w.heap.size<wr.heap.size by have:=HS1.out;omega) (aI (show g<wr.heap.size from hgl) (aI (show B≤wr.heap.size by have:=HS1.out;omega) (show L.length≤10000000 by have:=HL.out;omega))))
    have HMM:=kI (HMG.out s0)
    have HGW:=kI (aI hgw hgl)
    clear hS0 hSof hcl hgw hgl
    refine wp_region_held (S:=S0) (by kernel_rfl) ?_
    change wpAnyH _ _ _ _ _ 18 (List.replicate 18 false).toArray _ wr.drew
    simp only [List.replicate_succ,List.replicate_zero]
    refine tj (i:=0) (some 55) (.pointer (some ⟨g,0,none⟩)) rfl hS ?_
    simp only [Act.put,zA,zB,zC]
    refine tj (i:=1) (some 56) (.pointer (some ⟨g,0,none⟩)) rfl hS ?_
    simp only [Act.put,zA,zB,zC]
    refine tj (i:=2) (some 57) (.pointer (some ⟨g,0,none⟩)) rfl hS ?_
    simp only [Act.put,zA,zB,zC]
    refine tj (i:=3) (some 58) (.pointer (some ⟨g,0,none⟩)) rfl hS ?_
    simp only [Act.put,zA,zB,zC]
    refine tj (i:=5) (some 60) (.pointer (some ⟨w.heap.size,0,none⟩)) rfl hS ?_
    simp only [Act.put,zA,zB,zC]
    refine tk (i:=6) (some 61) (.int .i64 k) rfl (fun w hw=>by obtain ⟨n0,n1⟩:=EX.out w hw;clear hw;go_simp) hS ?_
    simp only [Act.put,zA,zB,zC]
    refine tj (i:=7) (some 62) (.pointer (some ⟨w.heap.size,1,none⟩)) rfl hS ?_
    simp only [Act.put,zA,zB,zC]
    refine tk (i:=8) (some 63) (.int .i64 n) rfl (fun w hw=>by obtain ⟨n0,n1⟩:=EX.out w hw;clear hw;go_simp) hS ?_
    simp only [Act.put,zA,zB,zC]
    refine tj (i:=9) (some 64) (.int .i64 s0) rfl hS ?_
    simp only [Act.put,zA,zB,zC]
    refine tj (i:=10) (some 65) (.slice AP P.length cP) rfl hS ?_
    simp only [Act.put,zA,zB,zC]
    have g0d:wr.drew.cell? ⟨g,0,none⟩=some (.slice A L.length c):=g0
    clear g0 g1 c0 c1
    refine wpAnyH_all (rs:=[4,11]) (by kernel_rfl) (by simp) fun q hq=>?_
    rcases (by simpa using hq:q=4∨q=11) with rfl|rfl
    ·have g0x:=g0d
     refine ops_val (d:=some 59) (v:=.slice A L.length c) rfl (by rfl) (by kernel_rfl) (by go_simp) hS ?_
     clear g0x
     simp only [Act.put,zA,zB,zC]
     refine aK 11 ?_
     refine ops_call (d:=some 66) rfl (by rfl) (by kernel_rfl) (by go_simp) (HCL.out.mono ?_)
     rintro e w3 ⟨vq,rfl,ownq,hb3d⟩
     rw [toI_len] at ownq
     obtain ⟨Aq,cq,rfl,-,-⟩:=own_form ownq
     have HQW:=kI (show ∀b,(Value.slice Aq P.length cq).ownBlock=some b→wr.heap.size≤b from fun b hb=>(ownq.lt b hb).1)
     have hb3:Below wr.heap.size wr w3:=(Below.refl _ _).drew.trans hb3d
     have hx3:=(hb3.block _ HWL.out.1).trans HBX.out
     have hg3:=cell_of_row w3 g 0 _ _ (0,0) ((hb3.block _ HWL.out.2.1).trans HC.out)
     obtain ⟨A5,c5,w5,run5,gr5,e5,z5,blk5,os5,tp5,ou5,sz5,at5⟩:=node_fin HC.out HR.out HN.out HMM.out HGE.out HWL.out.2.2.1 HWL.out.2.2.2 hb3 (Aq,P.length,cq) ownq rfl
     dsimp only [slv] at run5
     have hx4:=(Below.heap_alloc w3 (Obj.cells #[.int .i64 k,.int .i64 n,.int .i64 s0,.slice Aq P.length cq] 210) w.heap.size (gL hx3).1).trans hx3
     have hg4:(w3.alloc (Obj.cells #[.int .i64 k,.int .i64 n,.int .i64 s0,.slice Aq P.length cq] 210)).cell? ⟨g,0,none⟩=some (.slice A L.length c):=by
      have h3:=(hb3.block _ HWL.out.2.1).trans HC.out
      exact cell_of_row _ g 0 _ _ (0,0) ((Below.heap_alloc w3 _ g (gL h3).1).trans h3)
     have hx5:=(blk5 _ HWL.out.1 (Nat.ne_of_gt HGW.out.1) HRW.out).1.trans HBX.out
     have hx6:=(blk5 _ HWL.out.1 (Nat.ne_of_gt HGW.out.1) HRW.out).2.trans HBX.out
     have HS3:=kI (HSOF.out _ hx3)
     have HS4:=kI (HSOF.out _ hx4)
     have HS5:=kI (HSOF.out _ hx5)
     have HS6:=kI (HSOF.out _ hx6)
     have HFI:=kI (aI gr5 (aI blk5 (aI os5 (aI tp5 (aI ou5 (aI sz5 at5))))))
     have HG3:=kI hg3
     have HG4:=kI hg4
     have c6:=cell_of_row _ g 0 _ _ (0,0) gr5.cell
     clear ownq hb3d hb3 hx3 hg3 hx4 hg4 hx5 hx6 gr5 blk5 os5 tp5 ou5 sz5 at5
     refine ⟨_,rfl,HS3.out,?_⟩
     simp only [Act.put,zA,zB,zC]
     have hS3:=HS3.out
     refine tj (i:=12) (some 67) (.agg #[.int .i64 k,.int .i64 n,.int .i64 s0,.slice Aq P.length cq]) rfl hS3 ?_
     simp only [Act.put,zA,zB,zC]
     refine aK 13 ?_
     refine ops_val (d:=some 68) (v:=.slice (some ⟨w3.heap.size,0,none⟩) 1 1) (w':=w3.alloc (Obj.cells #[.int .i64 k,.int .i64 n,.int .i64 s0,.slice Aq P.length cq] 210)) rfl (by rfl) (by kernel_rfl) (by go_simp) HS4.out ?_
     simp only [Act.put,zA,zB,zC]
     refine aK 14 ?_
     refine ops_val (d:=some 69) (v:=.slice A5 (L.length+1) c5) (w':=w5) rfl (by rfl) (by kernel_rfl) (exec_app (.tmp 59) (.tmp 68) 195 rfl run5 (by rfl) (by rfl)) HS5.out ?_
     simp only [Act.put,zA,zB,zC]
     have hS5:=HS5.out
     refine tj (i:=15) (some 70) (.pointer (some ⟨g,0,none⟩)) rfl hS5 ?_
     simp only [Act.put,zA,zB,zC]
     refine tj (i:=16) (some 71) (.pointer (some ⟨g,0,none⟩)) rfl hS5 ?_
     simp only [Act.put,zA,zB,zC]
     refine aK 17 ?_
     refine ops_skip (w':=w5.setCell ⟨g,0,none⟩ (.slice A5 (L.length+1) c5)) rfl (by kernel_rfl) (by go_simp) HS6.out rfl ?_
     refine wpAnyH_done (by kernel_rfl) ?_ _
     clear run5 e5 z5 hS5 hS3 hS
     go_wp2_with fail
     obtain ⟨gr5,blk5,os5,tp5,ou5,sz5,at5⟩:=HFI.out
     have hgl:=HL.out
     obtain ⟨hos,htp,hou,hz01,hbk⟩:=HCH.out
     rw [HS0E.out]
     refine bodyPost_ret (results_tmp rfl _ _ _) rfl ⟨_,_,?_,gr5,⟨os5.trans hos,tp5.trans htp,ou5.trans hou,?_,fun b hb hbg hbm hro=>(blk5 b (by omega) hbg hro).2.trans (hbk b hb hbm),?_⟩,_,rfl,fun x hx b hb=>?_⟩
     ·rw [←hgl]
      exact congrArg (fun z=>Ending.returned (.int .i64 z)) (IntWalk.wrap64_in _ (by omega))
     ·simp only [World.setCell]
      have:(w5.heap.setIfInBounds g ((w5.heap[g]?.getD default))).size=w5.heap.size:=by simp
      first|(simp;omega)|omega
     ·rcases at5 with h|⟨b,h,h2⟩
      ·exact .inl h
      ·exact .inr ⟨b,h,by omega⟩
     ·have hx':=List.mem_singleton.1 hx
      subst hx'
      exact Nat.le_trans hz01 (HQW.out b hb)
    ·refine ops_call (d:=some 66) rfl (by rfl) (by kernel_rfl) (by go_simp) (HCL.out.mono ?_)
     rintro e w3 ⟨vq,rfl,ownq,hb3d⟩
     rw [toI_len] at ownq
     obtain ⟨Aq,cq,rfl,-,-⟩:=own_form ownq
     have HQW:=kI (show ∀b,(Value.slice Aq P.length cq).ownBlock=some b→wr.heap.size≤b from fun b hb=>(ownq.lt b hb).1)
     have hb3:Below wr.heap.size wr w3:=(Below.refl _ _).drew.trans hb3d
     have hx3:=(hb3.block _ HWL.out.1).trans HBX.out
     have hg3:=cell_of_row w3 g 0 _ _ (0,0) ((hb3.block _ HWL.out.2.1).trans HC.out)
     obtain ⟨A5,c5,w5,run5,gr5,e5,z5,blk5,os5,tp5,ou5,sz5,at5⟩:=node_fin HC.out HR.out HN.out HMM.out HGE.out HWL.out.2.2.1 HWL.out.2.2.2 hb3 (Aq,P.length,cq) ownq rfl
     dsimp only [slv] at run5
     have hx4:=(Below.heap_alloc w3 (Obj.cells #[.int .i64 k,.int .i64 n,.int .i64 s0,.slice Aq P.length cq] 210) w.heap.size (gL hx3).1).trans hx3
     have hg4:(w3.alloc (Obj.cells #[.int .i64 k,.int .i64 n,.int .i64 s0,.slice Aq P.length cq] 210)).cell? ⟨g,0,none⟩=some (.slice A L.length c):=by
      have h3:=(hb3.block _ HWL.out.2.1).trans HC.out
      exact cell_of_row _ g 0 _ _ (0,0) ((Below.heap_alloc w3 _ g (gL h3).1).trans h3)
     have hx5:=(blk5 _ HWL.out.1 (Nat.ne_of_gt HGW.out.1) HRW.out).1.trans HBX.out
     have hx6:=(blk5 _ HWL.out.1 (Nat.ne_of_gt HGW.out.1) HRW.out).2.trans HBX.out
     have HS3:=kI (HSOF.out _ hx3)
     have HS4:=kI (HSOF.out _ hx4)
     have HS5:=kI (HSOF.out _ hx5)
     have HS6:=kI (HSOF.out _ hx6)
     have HFI:=kI (aI gr5 (aI blk5 (aI os5 (aI tp5 (aI ou5 (aI sz5 at5))))))
     have HG3:=kI hg3
     have HG4:=kI hg4
     have c6:=cell_of_row _ g 0 _ _ (0,0) gr5.cell
     clear ownq hb3d hb3 hx3 hg3 hx4 hg4 hx5 hx6 gr5 blk5 os5 tp5 ou5 sz5 at5
     refine ⟨_,rfl,HS3.out,?_⟩
     simp only [Act.put,zA,zB,zC]
     have hS3:=HS3.out
     refine tj (i:=12) (some 67) (.agg #[.int .i64 k,.int .i64 n,.int .i64 s0,.slice Aq P.length cq]) rfl hS3 ?_
     simp only [Act.put,zA,zB,zC]
     refine wpAnyH_all (rs:=[4,13]) (by kernel_rfl) (by simp) fun q hq=>?_
     rcases (by simpa using hq:q=4∨q=13) with rfl|rfl
     ·have g0x:=HG3.out
      refine ops_val (d:=some 59) (v:=.slice A L.length c) rfl (by rfl) (by kernel_rfl) (by go_simp) hS3 ?_
      clear g0x
      simp only [Act.put,zA,zB,zC]
      refine aK 13 ?_
      refine ops_val (d:=some 68) (v:=.slice (some ⟨w3.heap.size,0,none⟩) 1 1) (w':=w3.alloc (Obj.cells #[.int .i64 k,.int .i64 n,.int .i64 s0,.slice Aq P.length cq] 210)) rfl (by rfl) (by kernel_rfl) (by go_simp) HS4.out ?_
      simp only [Act.put,zA,zB,zC]
      refine aK 14 ?_
      refine ops_val (d:=some 69) (v:=.slice A5 (L.length+1) c5) (w':=w5) rfl (by rfl) (by kernel_rfl) (exec_app (.tmp 59) (.tmp 68) 195 rfl run5 (by rfl) (by rfl)) HS5.out ?_
      simp only [Act.put,zA,zB,zC]
      have hS5:=HS5.out
      refine tj (i:=15) (some 70) (.pointer (some ⟨g,0,none⟩)) rfl hS5 ?_
      simp only [Act.put,zA,zB,zC]
      refine tj (i:=16) (some 71) (.pointer (some ⟨g,0,none⟩)) rfl hS5 ?_
      simp only [Act.put,zA,zB,zC]
      refine aK 17 ?_
      refine ops_skip (w':=w5.setCell ⟨g,0,none⟩ (.slice A5 (L.length+1) c5)) rfl (by kernel_rfl) (by go_simp) HS6.out rfl ?_
      refine wpAnyH_done (by kernel_rfl) ?_ _
      clear run5 e5 z5 hS5 hS3 hS
      go_wp2_with fail
      obtain ⟨gr5,blk5,os5,tp5,ou5,sz5,at5⟩:=HFI.out
      have hgl:=HL.out
      obtain ⟨hos,htp,hou,hz01,hbk⟩:=HCH.out
      rw [HS0E.out]
      refine bodyPost_ret (results_tmp rfl _ _ _) rfl ⟨_,_,?_,gr5,⟨os5.trans hos,tp5.trans htp,ou5.trans hou,?_,fun b hb hbg hbm hro=>(blk5 b (by omega) hbg hro).2.trans (hbk b hb hbm),?_⟩,_,rfl,fun x hx b hb=>?_⟩
      ·rw [←hgl]
       exact congrArg (fun z=>Ending.returned (.int .i64 z)) (IntWalk.wrap64_in _ (by omega))
      ·simp only [World.setCell]
       have:(w5.heap.setIfInBounds g ((w5.heap[g]?.getD default))).size=w5.heap.size:=by simp
       first|(simp;omega)|omega
      ·rcases at5 with h|⟨b,h,h2⟩
       ·exact .inl h
       ·exact .inr ⟨b,h,by omega⟩
      ·have hx':=List.mem_singleton.1 hx
       subst hx'
       exact Nat.le_trans hz01 (HQW.out b hb)
     ·refine ops_val (d:=some 68) (v:=.slice (some ⟨w3.heap.size,0,none⟩) 1 1) (w':=w3.alloc (Obj.cells #[.int .i64 k,.int .i64 n,.int .i64 s0,.slice Aq P.length cq] 210)) rfl (by rfl) (by kernel_rfl) (by go_simp) HS4.out ?_
      simp only [Act.put,zA,zB,zC]
      refine aK 4 ?_
      have g0x:=HG4.out
      refine ops_val (d:=some 59) (v:=.slice A L.length c) rfl (by rfl) (by kernel_rfl) (by go_simp) HS4.out ?_
      clear g0x
      simp only [Act.put,zA,zB,zC]
      refine aK 14 ?_
      refine ops_val (d:=some 69) (v:=.slice A5 (L.length+1) c5) (w':=w5) rfl (by rfl) (by kernel_rfl) (exec_app (.tmp 59) (.tmp 68) 195 rfl run5 (by rfl) (by rfl)) HS5.out ?_
      simp only [Act.put,zA,zB,zC]
      have hS5:=HS5.out
      refine tj (i:=15) (some 70) (.pointer (some ⟨g,0,none⟩)) rfl hS5 ?_
      simp only [Act.put,zA,zB,zC]
      refine tj (i:=16) (some 71) (.pointer (some ⟨g,0,none⟩)) rfl hS5 ?_
      simp only [Act.put,zA,zB,zC]
      refine aK 17 ?_
      refine ops_skip (w':=w5.setCell ⟨g,0,none⟩ (.slice A5 (L.length+1) c5)) rfl (by kernel_rfl) (by go_simp) HS6.out rfl ?_
      refine wpAnyH_done (by kernel_rfl) ?_ _
      clear run5 e5 z5 hS5 hS3 hS
      go_wp2_with fail
      obtain ⟨gr5,blk5,os5,tp5,ou5,sz5,at5⟩:=HFI.out
      have hgl:=HL.out
      obtain ⟨hos,htp,hou,hz01,hbk⟩:=HCH.out
      rw [HS0E.out]
      refine bodyPost_ret (results_tmp rfl _ _ _) rfl ⟨_,_,?_,gr5,⟨os5.trans hos,tp5.trans htp,ou5.trans hou,?_,fun b hb hbg hbm hro=>(blk5 b (by omega) hbg hro).2.trans (hbk b hb hbm),?_⟩,_,rfl,fun x hx b hb=>?_⟩
      ·rw [←hgl]
       exact congrArg (fun z=>Ending.returned (.int .i64 z)) (IntWalk.wrap64_in _ (by omega))
      ·simp only [World.setCell]
       have:(w5.heap.setIfInBounds g ((w5.heap[g]?.getD default))).size=w5.heap.size:=by simp
       first|(simp;omega)|omega
      ·rcases at5 with h|⟨b,h,h2⟩
       ·exact .inl h
       ·exact .inr ⟨b,h,by omega⟩
      ·have hx':=List.mem_singleton.1 hx
       subst hx'
       exact Nat.le_trans hz01 (HQW.out b hb)
end
end Go.Proofs.YtmamdiggjghjkaaGreatDoor
