/- Texts of one proof, one behind the other. -/
import Derived.Test.YtmamdiggjghjkaaGreatDoorMgSolveOrder1
import Derived.Test.YtmamdiggjghjkaaGreatDoorMgSolveOrder10
import Derived.StillTailTactics
import Derived.Test.YtmamdiggjghjkaaGreatDoorMgSolveOrder4
import Derived.WalkKit
set_option linter.unusedVariables false
namespace Go.Proofs.YtmamdiggjghjkaaGreatDoor
section
open Go.RowKit Go.Shelf
attribute [local go_sem ↓] builtin_app
set_option maxRecDepth 100000
theorem nums_drop (P:List Nat) (m:Nat):nums (P.drop m)=(nums P).drop m:=by simp [nums,ints,toI,List.map_drop]
theorem nums_take (P:List Nat) (m:Nat):nums (P.take m)=(nums P).take m:=by simp [nums,ints,toI,List.map_take]
theorem own_drop {w:World}{base:Nat}{e:TypeId}{a n c:Nat}{xs:List Value}(h:w.ownsRow base e 1 (.slice (some ⟨a,0,none⟩) n c) n xs) (m:Nat) (hm:m≤n):Rd w 1 (.slice (some ⟨a,m,none⟩) (n-m) (c-m)) (n-m) (xs.drop m):=by
 have hlen:=h.1
 rcases h.2 with ⟨h0,_⟩|⟨g,cap,cur,h0,hb,hg,hnc,hcm,hcs,htake⟩
 ·cases h0
 ·injection h0 with h1 h2 h3
  injection h1 with h1
  injection h1 with h1
  subst h1;subst h3
  refine ⟨by rw [List.length_drop];omega,.inr ⟨a,m,c-m,rfl,by omega,by omega,(gL hg).1,fun j u hu=>?_⟩⟩
  rw [List.getElem?_drop] at hu
  rw [h.cellAt _ (by have:=(List.getElem?_eq_some_iff.1 hu).1;omega),hu]
structure AddS (w:World) (B g mb tb:Nat) (v0:Value) (L0:List Nd) (M:Nat) (W:World) (v mv:Value) (E:List Nd) (G:List Gn) (P:List Nat):Prop where
 graph:GrM B W g v mb (L0++E) G
 box:W.heap[tb]? = some (.cells #[mv] 41)
 row:W.ownsRow M 3 1 mv P.length (nums P)
 apart:NoP mv.ownBlock (L0++E)
 at_:∀b,v.ownBlock=some b→b<w.heap.size∨M≤b
 fresh:∀x∈E,∀b,(slv x.2.2.2).ownBlock=some b→w.heap.size≤b
 since:Sin w W g mb tb v0 v
theorem own_ne {w:World}{base:Nat}{e:TypeId}{size:Nat}{v:Value}{n:Nat}{xs:List Value}(h:w.ownsRow base e size v n xs) {b:Nat}{o:Obj}(ho:w.heap[b]? = some o) (hne:∀cs,o≠.cells cs e):v.ownBlock≠some b:=by
 intro hv
 rcases h.2 with ⟨h,_⟩|⟨g,cap,cur,h,_,hg,_⟩
 ·rw [h] at hv;cases hv
 ·rw [h] at hv
  have:g=b:=by simpa [Value.ownBlock] using hv
  subst this
  rw [ho] at hg
  injection hg with hg
  exact hne _ hg
set_option maxHeartbeats 1000000 in
theorem add_fin {w:World}{B g mb tb:Nat}{v0:Value}{L0:List Nd}{M:Nat}{Z:World}{v:Value}{E:List Nd}{G:List Gn}{P:List Nat}{Am:Option Addr}{cm:Nat}(h:AddS w B g mb tb v0 L0 M Z v (.slice Am P.length cm) E G P)
  (htb:tb<w.heap.size) (hBt:B≤tb) (hgw:g<w.heap.size) (hmb:mb<w.heap.size) (htg:tb≠g∧tb≠mb) (hM:w.heap.size≤M) (hMZ:M≤Z.heap.size) (m:Nat) (hm:m≤P.length) (hPl:P.length≤1000000) (i:Nat):
  ∃(A5:Option Addr) (c5:Nat) (w5:World),(app_ #[41,41] 41 #[.slice Am m cm,.slice (some ⟨Z.heap.size,0,none⟩) 1 1]).run Tryz.prog (Z.alloc (.cells #[.int .i64 (i:Nat)] 3)) = .ok (.slice A5 (m+1) c5) w5∧
   AddS w B g mb tb v0 L0 M (w5.setCell ⟨tb,0,none⟩ (.slice A5 (m+1) c5)) v (.slice A5 (m+1) c5) E G (P.take m ++ [i])∧w5.cell? ⟨tb,0,none⟩=some (.slice Am P.length cm)∧w5.frozen? ⟨tb,0,none⟩=false∧
   Bt3 B w.heap.size M Z (w5.setCell ⟨tb,0,none⟩ (.slice A5 (m+1) c5)):=by
 obtain ⟨Y,hY⟩:∃Y,Z.alloc (.cells #[.int .i64 (i:Nat)] 3)=Y:=⟨_,rfl⟩
 have hbY:Below Z.heap.size Z Y:=by rw [←hY];exact (Below.refl _ _).alloc (Nat.le_refl _) _
 have hsY:Y.heap.size=Z.heap.size+1:=by rw [←hY];simp
 have hlm:(toI (P.take m)).length=m:=by rw [toI_len,List.length_take];omega
 have hrow:=own_below h.row hbY
 have hcut:Y.ownsRow M 3 1 (.slice Am m cm) (toI (P.take m)).length (ints (toI (P.take m))):=by
  rw [hlm]
  refine own_cut (ys:=nums (P.drop m)) ?_ m hm (by show (nums (P.take m)).length=m*1;rw [nums_len,List.length_take];omega)
  have e:nums (P.take m)++nums (P.drop m)=nums P:=by rw [nums_take,nums_drop,List.take_append_drop]
  show Y.ownsRow M 3 1 (.slice Am P.length cm) P.length (nums (P.take m)++nums (P.drop m))
  rw [e];exact hrow
 have hrd:Rd Y 1 (.slice (some ⟨Z.heap.size,0,none⟩) 1 1) [(i:Int)].length (ints [(i:Int)]):=by
  rw [←hY]
  exact rd_new Z [.int .i64 i] 3 1 1 rfl (by unfold maxLen;omega)
 obtain ⟨v5,w5,run5,own5,b5,-,g5,at5⟩:=app_int Y M _ _ hcut _ _ hrd (by rw [hlm];simp only [List.length_cons,List.length_nil];omega) (by omega)
 have hl5:(toI (P.take m) ++ [(i:Int)]).length=m+1:=by rw [List.length_append,hlm];rfl
 rw [hl5] at own5
 obtain ⟨A5,c5,rfl,-,-⟩:=own_form own5
 have hnum:nums (P.take m ++ [i])=ints (toI (P.take m) ++ [(i:Int)]):=by simp [nums,toI]
 have hPm:(P.take m ++ [i]).length=m+1:=by rw [List.length_append,List.length_take];simp;omega
 have hgrow:∀b,b<Z.heap.size→Am.map (·.block)≠some b→w5.heap[b]? = Z.heap[b]?:=fun b hb hne=>(g5.block b (by omega) (fun e=>hne (by rw [e];cases Am<;>rfl))).trans (hbY.block b hb)
 have hamO:(Value.slice Am m cm).ownBlock=Am.map (·.block):=by cases Am<;>rfl
 have hamP:(Value.slice Am P.length cm).ownBlock=Am.map (·.block):=by cases Am<;>rfl
 have hne:∀ {b:Nat} {o:Obj},Z.heap[b]? = some o→(∀cs,o≠.cells cs 3)→Am.map (·.block)≠some b:=fun ho hn=>by rw [←hamP];exact own_ne h.row ho hn
 have hAM:∀b,Am.map (·.block)=some b→M≤b:=fun b hb=>(h.row.lt b (by rw [hamP];exact hb)).1
 have hset:∀b,b≠tb→(w5.setCell ⟨tb,0,none⟩ (.slice A5 (m+1) c5)).heap[b]? = w5.heap[b]?:=fun b hb=>Below.heap_setCell _ _ _ _ hb
 have hsz:(w5.setCell ⟨tb,0,none⟩ (.slice A5 (m+1) c5)).heap.size=w5.heap.size:=by simp [World.setCell]
 have hk:∀b,b<Z.heap.size→b≠tb→Am.map (·.block)≠some b→(w5.setCell ⟨tb,0,none⟩ (.slice A5 (m+1) c5)).heap[b]? = Z.heap[b]?:=fun b hb h1 h2=>(hset b h1).trans (hgrow b hb h2)
 have hZsz:w.heap.size≤Z.heap.size:=h.since.size
 have hbx5:w5.heap[tb]? = some (.cells #[.slice Am P.length cm] 41):=(hgrow tb (by omega) fun e=>by have:=hAM tb e;omega).trans h.box
 have hg5s:=g5.size
 refine ⟨A5,c5,w5,by rw [hY];exact run5,⟨?_,heap_setCell_same w5 tb 0 _ _ _ hbx5,?_,?_,h.at_,h.fresh,⟨g5.os.trans (hbY.os.trans h.since.os),g5.tape.trans (hbY.tape.trans h.since.tape),g5.output.trans (hbY.output.trans h.since.output),by rw [hsz];omega,fun b hb h1 h2 h3 h4=>(hk b (by omega) h3 fun e=>by have:=hAM b e;omega).trans (h.since.block b hb h1 h2 h3 h4),h.since.at_⟩⟩,cell_of_row w5 _ 0 _ _ (0,0) hbx5,frozen_cells hbx5 0,⟨g5.os.trans hbY.os,g5.tape.trans hbY.tape,g5.output.trans hbY.output,by rw [hsz];omega,fun b hb hl=>?_,fun b o hb ho hc=>?_⟩⟩
 ·refine h.graph.to2 (Am.map (·.block)) (by rw [←hamP];exact h.apart) (hk g (by omega) htg.1.symm (hne h.graph.cell fun cs e=>by injection e with _ e;revert e;decide)) (hk mb (by omega) htg.2.symm fun e=>by have:=hAM mb e;omega) (fun b hb=>hk b (h.graph.row.lt b hb).2 (fun e=>?_) fun e=>?_) (fun b cs _ hr hb=>?_)
  ·subst e
   exact own_ne h.graph.row h.box (fun cs e=>by injection e with _ e;revert e;decide) hb
  ·rcases h.graph.row.2 with ⟨h',_⟩|⟨b',cap,cur,hv,_,hh,_⟩
   ·rw [h'] at hb;cases hb
   ·rw [hv] at hb
    have:b'=b:=by simpa [Value.ownBlock] using hb
    subst this
    exact hne hh (fun cs e=>by injection e with _ e;revert e;decide) e
  ·exact (hk b (gL hb).1 (fun e=>by subst e;rw [h.box] at hb;injection hb with hb;injection hb with _ hb;revert hb;decide) hr).trans hb
 ·rw [hPm,hnum]
  refine ⟨own5.1,?_⟩
  rcases own5.2 with h'|⟨b,cap,cur,hv,hb,hh,hr⟩
  ·exact .inl h'
  ·exact .inr ⟨b,cap,cur,hv,hb,(hset b (fun e=>by subst e;rw [hbx5] at hh;injection hh with hh;injection hh with _ hh;revert hh;decide)).trans hh,hr⟩
 ·intro x hx b hb e
  obtain ⟨hbl,cs,hcs⟩:=h.graph.nodes.lt_own x hx b hb
  rcases at5 with h'|h'
  ·rw [h',hamO] at e
   exact h.apart x hx b hb (by rw [hamP];exact e)
  ·rw [h'] at e
   injection e with e
   omega
 ·refine hk b hl (fun e=>by omega) fun e=>by have:=hAM b e;omega
 ·have hl:=(gL ho).1
  exact (hk b hl (fun e=>by omega) (hne ho fun cs e=>by subst e;cases hc)).trans ho
theorem AddS.node {w:World}{B g mb tb:Nat}{v0:Value}{L0:List Nd}{M:Nat}{W w1 w2:World}{v v' mv:Value}{E E1:List Nd}{G G':List Gn}{P:List Nat}(h:AddS w B g mb tb v0 L0 M W v mv E G P)
  (htb:tb<w.heap.size) (hgw:g<w.heap.size) (hmb:mb<w.heap.size) (htg:tb≠g∧tb≠mb) (hM:w.heap.size≤M) (hMW:M≤W.heap.size) (hb1:Below W.heap.size W w1) (hG2:GrM B w2 g v' mb (L0++E++E1) G') (hc:Chg w1 w2 g mb v v')
  (hE1:∀x∈E1,∀b,(slv x.2.2.2).ownBlock=some b→w1.heap.size≤b):AddS w B g mb tb v0 L0 M w2 v' mv (E++E1) G' P∧Bt3 B w.heap.size M W w2:=by
 have hs1:=hb1.size
 have hs2:=hc.size
 have hk:∀b,b<W.heap.size→b≠g→b≠mb→v.ownBlock≠some b→w2.heap[b]? = W.heap[b]?:=fun b hb h1 h2 h3=>(hc.block b (by omega) h1 h2 h3).trans (hb1.block b hb)
 have hwW:=h.since.size
 have hvn:∀ {b:Nat} {o:Obj},W.heap[b]? = some o→(∀cs,o≠.cells cs 210)→v.ownBlock≠some b:=fun ho hn=>own_ne h.graph.row ho hn
 have hmo:∃es ck,W.heap[mb]? = some (Obj.map es ck):=by obtain ⟨_,_,_,⟨es,ck,h,_⟩,_⟩:=h.graph.vars;exact ⟨es,ck,h⟩
 have hmvl:∀b,mv.ownBlock=some b→b<W.heap.size∧b≠g∧b≠mb∧v.ownBlock≠some b:=fun b hb=>by
  obtain ⟨hh,cs,hcs⟩:b<W.heap.size∧∃cs,W.heap[b]? = some (Obj.cells cs 3):=by
   rcases h.row.2 with ⟨h',_⟩|⟨b',cap,cur,hv,_,hh,_⟩
   ·rw [h'] at hb;cases hb
   ·rw [hv] at hb
    have:b'=b:=by simpa [Value.ownBlock] using hb
    subst this
    exact ⟨(gL hh).1,_,hh⟩
  refine ⟨hh,fun e=>?_,fun e=>?_,hvn hcs fun cs e=>by injection e with _ e;revert e;decide⟩
  ·subst e;rw [h.graph.cell] at hcs;injection hcs with hcs;injection hcs with _ hcs;revert hcs;decide
  ·subst e;obtain ⟨_,_,h'⟩:=hmo;rw [h'] at hcs;cases hcs
 have hva:∀b,b<w.heap.size→v0.ownBlock≠some b→v.ownBlock≠some b:=fun b hb hn e=>by
  rcases h.since.at_ with h'|⟨b',h',h2⟩
  ·rw [h'] at e;exact hn e
  ·rw [h'] at e;injection e with e;omega
 have hv':v'.ownBlock=v.ownBlock∨∃b,v'.ownBlock=some b∧W.heap.size≤b:=hc.at_.imp id fun ⟨b,e,hb⟩=>⟨b,e,by omega⟩
 refine ⟨⟨by rw [←List.append_assoc];exact hG2,(hk tb (by omega) htg.1 htg.2 (hvn h.box fun cs e=>by injection e with _ e;revert e;decide)).trans h.box,⟨h.row.1,?_⟩,?_,fun b hb=>?_,fun x hx b hb=>?_,
  ⟨hc.os.trans (hb1.os.trans h.since.os),hc.tape.trans (hb1.tape.trans h.since.tape),hc.output.trans (hb1.output.trans h.since.output),by omega,fun b hb h1 h2 h3 h4=>(hk b (by omega) h1 h2 (hva b hb h4)).trans (h.since.block b hb h1 h2 h3 h4),?_⟩⟩,
  ⟨hc.os.trans hb1.os,hc.tape.trans hb1.tape,hc.output.trans hb1.output,by omega,fun b hb hl=>?_,fun b o hb ho hcl=>?_⟩⟩
 ·rcases h.row.2 with h'|⟨b,cap,cur,hv,hb,hh,hr⟩
  ·exact .inl h'
  ·obtain ⟨k0,k1,k2,k3⟩:=hmvl b (by rw [hv];rfl)
   exact .inr ⟨b,cap,cur,hv,hb,(hk b k0 k1 k2 k3).trans hh,hr⟩
 ·intro x hx b hb e
  rw [←List.append_assoc] at hx
  rcases List.mem_append.1 hx with hx|hx
  ·exact h.apart x hx b hb e
  ·have:=hE1 x hx b hb
   have:=(hmvl b e).1
   omega
 ·rcases hv' with h'|⟨b',h',h2⟩
  ·exact h.at_ b (by rw [←h'];exact hb)
  ·rw [h'] at hb;injection hb with hb;exact .inr (by omega)
 ·rcases List.mem_append.1 hx with hx|hx
  ·exact h.fresh x hx b hb
  ·have:=hE1 x hx b hb;omega
 ·rcases hv' with h'|⟨b',h',h2⟩
  ·rw [h'];exact h.since.at_
  ·exact .inr ⟨b',h',by omega⟩
 ·have hge:=h.graph.ge
  refine hk b hl (by omega) (by omega) fun e=>?_
  have h1:=(h.graph.row.lt b e).1
  have h2:=h.at_ b e
  omega
 ·have hl:=(gL ho).1
  exact (hk b hl (by omega) (by omega) (hvn ho fun cs e=>by subst e;cases hcl)).trans ho
set_option maxHeartbeats 4000000 in
theorem add1_any (w:World) (B g mb tb gb:Nat) (v0:Value) (L0:List Nd) (G0:List Gn) (hgb:w.heap[gb]? = some (.cells #[.pointer (some ⟨g,0,none⟩)] 143)) (hne:gb≠g∧gb≠mb∧gb≠tb∧v0.ownBlock≠some gb)
  (hmb:mb<w.heap.size) (hgw:g<w.heap.size) (htbB:B≤tb∧tb<w.heap.size) (htg:tb≠g∧tb≠mb)
  (M:Nat) (pre:List Tr) (x:Tr) (W:World) (hM:w.heap.size≤M) (hMW:M≤W.heap.size) (hI:AddI w B g mb tb v0 L0 G0 M pre W) (_hB:B≤w.heap.size)
  (N:Nat) (hv:VOk N (pre.foldl gstep (G0,[])) x) (hN:N≤1000000) (hn:(Lit.int .i64 x.2.1).wf=true) (hl1:(pre.foldl gstep (G0,[])).1.length≤1000000) (hl2:(pre.foldl gstep (G0,[])).2.length≤1000000):
  Calls Tryz.prog 130 #[trV x,.pointer (some ⟨tb,0,none⟩),.pointer (some ⟨gb,0,none⟩)] W fun e W'=>(∃v,e = .returned v)∧AddI w B g mb tb v0 L0 G0 M (pre ++ [x]) W'∧Bt3 B w.heap.size M W W':=by
 obtain ⟨v,mv,E,hG,htb,hmv,hno,hvb,hE,hS⟩:=hI
 have hgbW:W.heap[gb]? = some (.cells #[.pointer (some ⟨g,0,none⟩)] 143):=(hS.block gb (gL hgb).1 hne.1 hne.2.1 hne.2.2.1 hne.2.2.2).trans hgb
 have hstep:(pre ++ [x]).foldl gstep (G0,[])=gstep (pre.foldl gstep (G0,[])) x:=by rw [List.foldl_append];rfl
 unfold AddI
 rw [hstep]
 obtain ⟨⟨G,P⟩,hs⟩:∃s,pre.foldl gstep (G0,[])=s:=⟨_,rfl⟩
 rw [hs] at hG hmv hv hl1 hl2 ⊢
 dsimp only at hG hmv hl1 hl2 ⊢
 obtain ⟨k,n,x1,x2,x3⟩:=x
 obtain ⟨v1,v2,v3⟩:=hv
 dsimp only at v1 v2 v3 hn
 dsimp only [gstep]
 obtain ⟨m,hm⟩:∃m,P.length-x2=m:=⟨_,rfl⟩
 have hmle:m≤P.length:=by omega
 have hmx:(P.length:Int)-(x2:Int)=(m:Int):=by omega
 rw [hm] at v3 ⊢
 obtain ⟨Am,cm,rfl,hcm,_⟩:=own_form hmv
 dsimp only [trV,slv]
 obtain ⟨w1,hw1⟩:∃w1,W.alloc (.cells #[.int .i64 k,.int .i64 n,.slice x1 x2 x3] 25)=w1:=⟨_,rfl⟩
 have hb1:Below W.heap.size W w1:=by rw [←hw1];exact (Below.refl _ _).alloc (Nat.le_refl _) _
 have hs1:w1.heap.size=W.heap.size+1:=by rw [←hw1];simp
 have hB1:w1.heap[W.heap.size]? = some (.cells #[.int .i64 k,.int .i64 n,.slice x1 x2 x3] 25):=by rw [←hw1];exact heap_alloc_new _ _
 have c0:w1.cell? ⟨W.heap.size,0,none⟩=some (.int .i64 k):=cell_of_row w1 _ 0 _ _ (0,0) hB1
 have c1:w1.cell? ⟨W.heap.size,1,none⟩=some (.int .i64 n):=cell_of_row w1 _ 1 _ _ (0,0) hB1
 have c2:w1.cell? ⟨W.heap.size,2,none⟩=some (.slice x1 x2 x3):=cell_of_row w1 _ 2 _ _ (0,0) hB1
 have htb1:w1.heap[tb]? = some (.cells #[.slice Am P.length cm] 41):=(hb1.block _ (by omega)).trans htb
 have t0:w1.cell? ⟨tb,0,none⟩=some (.slice Am P.length cm):=cell_of_row w1 _ 0 _ _ (0,0) htb1
 have hgb1:w1.heap[gb]? = some (.cells #[.pointer (some ⟨g,0,none⟩)] 143):=(hb1.block _ (gL hgbW).1).trans hgbW
 have b0:w1.cell? ⟨gb,0,none⟩=some (.pointer (some ⟨g,0,none⟩)):=cell_of_row w1 _ 0 _ _ (0,0) hgb1
 have f1:IntKind.i64.wrap ((P.length:Int)-(x2:Int))=(m:Int):=by rw [hmx];exact IntWalk.i64_in _ (by omega)
 have HAS:=kI (show AddS w B g mb tb v0 L0 M W v (.slice Am P.length cm) E G P from ⟨hG,htb,hmv,hno,hvb,hE,hS⟩)
 have HA:=kI hG
 have HH:=kI hmv
 have HB1:=kI hb1
 have HBB:=kI (aI htbB (aI hgw (aI hmb (aI htg (aI hM hMW)))))
 clear hG hmv
 cases Am with
 | none=>
  obtain ⟨hP0,hcm0⟩:P.length=0∧cm=0:=by
   rcases HH.out.2 with ⟨h,h2⟩|⟨g',_,_,h,_⟩
   ·injection h with _ h3 h4;exact ⟨h2,h4⟩
   ·injection h with h;cases h
  obtain rfl:P=[]:=List.eq_nil_of_length_eq_zero hP0
  obtain rfl:x2=0:=by simp only [List.length_nil] at v1;omega
  obtain rfl:m=0:=by omega
  subst hcm0
  dsimp only [List.length_nil] at t0 f1 HAS HH ⊢
  go_enter Tryz.func130,Tryz.ntmps130
  go_wp2_with fail
  go_still_tail 5,(by kernel_rfl)
  change wpList _ _ _ _ _ w1.drew
  have hd:Below w1.heap.size w1 w1.drew:=(Below.refl _ _).drew
  have hG1:=(HA.out.below hb1).below hd
  have hcall:=node_graph w1.drew B g mb v (L0++E) G hG1 (by have:=hb1.size;simp only [World.drew];omega) k n (x1,0,x3) hn [] (.slice none 0 0) ⟨rfl,.inl ⟨rfl,_,_,rfl⟩⟩ (fun p hp=>by cases hp) (by rw [gsum_nil];omega) hl1 (by simp)
  dsimp only [tyVal,slv] at hcall
  have HC:=kI hcall
  clear hcall hG1 hd
  go_wp2_with fail
  with_reducible refine HC.out.mono ?_
  rintro e w2 ⟨v',L',rfl,hG2,hc2,E1,rfl,hE1⟩
  obtain ⟨k1,k2,k3,k4,k5,k6⟩:=HBB.out
  obtain ⟨hA2,hT2⟩:=HAS.out.node k1.2 k2 k3 k4 k5 k6 HB1.out.drew hG2 hc2 hE1
  obtain ⟨i,hi⟩:∃i,(gnode G k n []).2=i:=⟨_,rfl⟩
  rw [hi]
  obtain ⟨A5,c5,w5,run5,hA5,e5,z5,hT5⟩:=add_fin hA2 k1.2 k1.1 k2 k3 k4 k5 (Nat.le_trans k6 hT2.size) 0 hmle hl2 i
  have t2:w2.cell? ⟨tb,0,none⟩=some (.slice none 0 0):=cell_of_row w2 _ 0 _ _ (0,0) hA2.box
  have HF:=kI (aI hA5 (hT2.trans hT5))
  have HI:=kI hi
  clear hG2 hc2 hE1 hA2 hT2 hA5 hT5 hi
  go_wp2_with fail
  obtain ⟨hA5,hT5⟩:=HF.out
  obtain ⟨r1,r2,r3,r4,r5,r6,r7⟩:=hA5
  exact ⟨rfl,_,results_none rfl _ _ _,⟨_,rfl⟩,⟨_,_,_,r1,r2,(by rw [←HI.out] at r3;exact r3),r4,r5,r6,r7⟩,hT5⟩
 | some am=>
  obtain ⟨ab,rfl⟩:∃ab,am=⟨ab,0,none⟩:=by
   rcases HH.out.2 with ⟨h,_⟩|⟨g',_,_,h,_⟩
   ·cases h
   ·injection h with h _ _;injection h with h;exact ⟨g',h⟩
  go_enter Tryz.func130,Tryz.ntmps130
  go_wp2_with fail
  go_still_tail 5,(by kernel_rfl)
  change wpList _ _ _ _ _ w1.drew
  have hd:Below w1.heap.size w1 w1.drew:=(Below.refl _ _).drew
  have hG1:=(HA.out.below hb1).below hd
  have hR1:=(own_drop (own_below HH.out hb1) m hmle).below hd
  have hdl:(nums P).drop m=nums (P.drop m):=(nums_drop P m).symm
  have hpl:P.length-m=(P.drop m).length:=by rw [List.length_drop]
  rw [hdl,hpl] at hR1
  have hcall:=node_graph w1.drew B g mb v (L0++E) G hG1 (by have:=hb1.size;simp only [World.drew];omega) k n (x1,x2,x3) hn (P.drop m) _ hR1 (fun p hp=>v2 p (List.mem_of_mem_drop hp)) (by omega) hl1 (by rw [List.length_drop];omega)
  dsimp only [tyVal,slv] at hcall
  rw [←hpl] at hcall
  have HC:=kI hcall
  have hR2:m=cm→Rd w1.drew 1 (.slice (some ⟨ab,0,none⟩) (P.length-m) 0) (P.drop m).length (nums (P.drop m)):=fun e=>by
   have hm0:P.length-m=0:=by omega
   have hdn:P.drop m=[]:=List.drop_eq_nil_of_le (by omega)
   rw [hm0,hdn]
   exact ⟨rfl,.inl ⟨rfl,_,_,rfl⟩⟩
  have hc2:=fun e:m=cm=>node_graph w1.drew B g mb v (L0++E) G hG1 (by have:=hb1.size;simp only [World.drew];omega) k n (x1,x2,x3) hn (P.drop m) _ (hR2 e) (fun p hp=>v2 p (List.mem_of_mem_drop hp)) (by omega) hl1 (by rw [List.length_drop];omega)
  dsimp only [tyVal,slv] at hc2
  have HC2:=kI hc2
  clear hc2
  have hmz:(0:Int)≤(m:Int):=by omega
  have hmc:m≤cm:=by omega
  clear hcall hG1 hR1 hR2 hdl hpl hd
  go_wp2_with fail
  all_goals
   first
    | with_reducible refine HC.out.mono ?_
    | with_reducible refine (HC2.out (by first|rfl|omega)).mono ?_
  all_goals
   rintro e w2 ⟨v',L',rfl,hG2,hc2,E1,rfl,hE1⟩
   obtain ⟨k1,k2,k3,k4,k5,k6⟩:=HBB.out
   obtain ⟨hA2,hT2⟩:=HAS.out.node k1.2 k2 k3 k4 k5 k6 HB1.out.drew hG2 hc2 hE1
   obtain ⟨i,hi⟩:∃i,(gnode G k n (P.drop m)).2=i:=⟨_,rfl⟩
   rw [hi]
   obtain ⟨A5,c5,w5,run5,hA5,e5,z5,hT5⟩:=add_fin hA2 k1.2 k1.1 k2 k3 k4 k5 (Nat.le_trans k6 hT2.size) m hmle hl2 i
   first|(rw [show cm=m from (by omega)] at run5)|skip
   have t2:w2.cell? ⟨tb,0,none⟩=some (.slice (some ⟨ab,0,none⟩) P.length _):=cell_of_row w2 _ 0 _ _ (0,0) hA2.box
   have HF:=kI (aI hA5 (hT2.trans hT5))
   have HI:=kI hi
   clear hG2 hc2 hE1 hA2 hT2 hA5 hT5 hi
   go_wp2_with fail
  all_goals first|skip|(rw [run5];go_wp2_with fail)
  all_goals
   obtain ⟨hA5,hT5⟩:=HF.out
   rw [←HI.out] at hA5
   obtain ⟨r1,r2,r3,r4,r5,r6,r7⟩:=hA5
   exact ⟨rfl,_,results_none rfl _ _ _,⟨_,rfl⟩,⟨_,_,_,r1,r2,r3,r4,r5,r6,r7⟩,hT5⟩
end
section
open Go.RowKit Go.Shelf
set_option maxRecDepth 100000
theorem wf_pre {F:Fo}(h:F.wf):∀x∈F.pre,(Lit.int .i64 x.2.1).wf=true:=by
 induction F with
 | nil=>intro x hx;simp [Fo.pre] at hx
 | cons k n u ps r i1 i2=>
  intro x hx
  simp only [Fo.pre,List.mem_cons,List.mem_append] at hx
  rcases hx with rfl|hx|hx
  ·exact h.1
  ·exact i1 h.2.1 x hx
  ·exact i2 h.2.2 x hx
set_option maxHeartbeats 4000000 in
theorem add_graph (w:World) (B g mb:Nat) (v:Value) (L:List Nd) (G:List Gn) (hG:GrM B w g v mb L G) (hB:B≤w.heap.size) (hGI:GI G) (BT:Nat) (hBT:BT≤w.heap.size) (k n:Int) (u:Sl) (ps:Fo) (hps:TyV BT w ps (slv u)) (hwf:(Fo.cons k n u ps .nil).wf)
  (hs:G.length+(1+ps.size)≤500000) (hr:allAlone (Fo.cons k n u ps .nil).pre=true):
  Calls Tryz.prog 110 #[.pointer (some ⟨g,0,none⟩),tyVal k n (slv u)] w fun e w'=>∃v' E,e = .returned (.tuple #[.int .i64 ((gadd1 G k n ps).2:Nat),.int .i64 0])∧GrM B w' g v' mb (L++E) (gadd1 G k n ps).1∧Chg w w' g mb v v'∧∀x∈E,∀b,(slv x.2.2.2).ownBlock=some b→w.heap.size≤b:=by
 obtain ⟨u1,u2,u3⟩:=u
 obtain ⟨w1,hw1⟩:∃w1,(w.alloc (.cells #[.pointer (some ⟨g,0,none⟩)] 143)).alloc (.cells #[.int .i64 k,.int .i64 n,.slice u1 u2 u3] 25)=w1:=⟨_,rfl⟩
 have hb1:Below w.heap.size w w1:=by rw [←hw1];exact ((Below.refl _ _).alloc (Nat.le_refl _) _).alloc (by simp) _
 have hs1:w1.heap.size=w.heap.size+2:=by rw [←hw1];simp
 have hR:=right_any w1 BT k n (u1,u2,u3) ps (by omega) (hps.below (hb1.mono hBT)) (by omega)
 rw [hr] at hR
 have HR:=kI hR
 obtain ⟨F,hF⟩:∃F,Fo.cons k n (u1,u2,u3) ps .nil=F:=⟨_,rfl⟩
 have hlo:LenOk F:=by rw [←hF];exact ⟨TyV.len (u:=(u1,u2,u3)) hps,(TyV.list hps).lenOk,trivial⟩
 have hvo:Vok F:=vok_of (by rw [←hF];exact hr) hlo
 have hFs:F.size=1+ps.size:=by rw [←hF];simp [Fo.size]
 have hfin:(grO F).reverse.foldl gstep (G,[])=((gadd1 G k n ps).1,[(gadd1 G k n ps).2]):=by
  rw [gfold F G [] hlo,←hF,gadd_cons,gadd_nil];rfl
 dsimp only [tyVal,slv]
 have a0:w1.heap[w.heap.size]? = some (.cells #[.pointer (some ⟨g,0,none⟩)] 143):=by rw [←hw1];exact (Below.heap_alloc _ _ _ (by simp)).trans (heap_alloc_new _ _)
 have hB1:w1.heap[w.heap.size+1]? = some (.cells #[.int .i64 k,.int .i64 n,.slice u1 u2 u3] 25):=by rw [←hw1];have h:=heap_alloc_new (w.alloc (.cells #[.pointer (some ⟨g,0,none⟩)] 143)) (.cells #[.int .i64 k,.int .i64 n,.slice u1 u2 u3] 25);simp only [World.size_alloc] at h;exact h
 have b0:w1.cell? ⟨w.heap.size,0,none⟩=some (.pointer (some ⟨g,0,none⟩)):=cell_of_row w1 _ 0 _ _ (0,0) a0
 have c0:w1.cell? ⟨w.heap.size+1,0,none⟩=some (.int .i64 k):=cell_of_row w1 _ 0 _ _ (0,0) hB1
 have c1:w1.cell? ⟨w.heap.size+1,1,none⟩=some (.int .i64 n):=cell_of_row w1 _ 1 _ _ (0,0) hB1
 have c2:w1.cell? ⟨w.heap.size+1,2,none⟩=some (.slice u1 u2 u3):=cell_of_row w1 _ 2 _ _ (0,0) hB1
 have HB1:=kI hb1
 have HX1:=kI hB1
 have HA0:=kI a0
 have HG:=kI hG
 have HPS:=kI hps
 have HWF:=kI (show F.wf by rw [←hF];exact hwf)
 have HGI:=kI hGI
 have HF:=kI hF
 have HFI:=kI hfin
 have HLV:=kI (aI hlo hvo)
 have HSZ:=kI (aI hs (aI hFs (aI hB hBT)))
 clear hps hR hr hB1 a0 hb1 hG hwf hGI hF hfin hlo hvo hs hFs
 go_enter Tryz.func110,Tryz.ntmps110
 go_wp2_with fail
 refine HR.out.mono ?_
 rintro e w2 ⟨rfl,hb2⟩
 have y0:w2.cell? ⟨w.heap.size+1,0,none⟩=some (.int .i64 k):=(hb2.cell (p:=⟨w.heap.size+1,0,none⟩) (by simp only;omega)).trans c0
 have y1:w2.cell? ⟨w.heap.size+1,1,none⟩=some (.int .i64 n):=(hb2.cell (p:=⟨w.heap.size+1,1,none⟩) (by simp only;omega)).trans c1
 have y2:w2.cell? ⟨w.heap.size+1,2,none⟩=some (.slice u1 u2 u3):=(hb2.cell (p:=⟨w.heap.size+1,2,none⟩) (by simp only;omega)).trans c2
 have x0:w2.cell? ⟨w.heap.size,0,none⟩=some (.pointer (some ⟨g,0,none⟩)):=(hb2.cell (p:=⟨w.heap.size,0,none⟩) (by simp only;omega)).trans b0
 have hz2:=hb2.size
 obtain ⟨w3,hw3⟩:∃w3,w2.alloc (.cells #[.slice none 0 0] 41)=w3:=⟨_,rfl⟩
 have hb3:Below w2.heap.size w2 w3:=by rw [←hw3];exact (Below.refl _ _).alloc (Nat.le_refl _) _
 have hs3:w3.heap.size=w2.heap.size+1:=by rw [←hw3];simp
 have hT3:w3.heap[w2.heap.size]? = some (.cells #[.slice none 0 0] 41):=by rw [←hw3];exact heap_alloc_new _ _
 have q0:w3.cell? ⟨w.heap.size+1,0,none⟩=some (.int .i64 k):=(hb3.cell (p:=⟨w.heap.size+1,0,none⟩) (by simp only;omega)).trans y0
 have q1:w3.cell? ⟨w.heap.size+1,1,none⟩=some (.int .i64 n):=(hb3.cell (p:=⟨w.heap.size+1,1,none⟩) (by simp only;omega)).trans y1
 have q2:w3.cell? ⟨w.heap.size+1,2,none⟩=some (.slice u1 u2 u3):=(hb3.cell (p:=⟨w.heap.size+1,2,none⟩) (by simp only;omega)).trans y2
 have hG:=HG.out
 have hb0:Below w.heap.size w w3:=HB1.out.trans ((hb2.trans (hb3.mono hz2)).mono (by omega))
 have hG3:GrM B w3 g v mb L G:=hG.below hb0
 have hgl:=hG.lt
 have hvo:∀b,v.ownBlock=some b→b<w.heap.size:=fun b hb=>(hG.row.lt b hb).2
 obtain ⟨hs,hFs,-,-⟩:=HSZ.out
 have hg3:w3.heap[w.heap.size]? = some (.cells #[.pointer (some ⟨g,0,none⟩)] 143):=(hb3.block _ (by omega)).trans ((hb2.block _ (by omega)).trans HA0.out)
 have hFu:=HF.out
 have hadd:∀(M:Nat) (pre:List Tr) (x:Tr) (W:World),w3.heap.size≤M→M≤W.heap.size→AddI w3 B g mb w2.heap.size v L G M pre W→Below B w3 W→(∃r,pre++x :: r=(grO F).reverse)→
   Calls Tryz.prog 130 (#[trV x] ++ #[.pointer (some ⟨w2.heap.size,0,none⟩),.pointer (some ⟨w.heap.size,0,none⟩)]) W fun e W'=>(∃v,e = .returned v)∧AddI w3 B g mb w2.heap.size v L G M (pre ++ [x]) W'∧Bt3 B w3.heap.size M W W':=by
  rintro M pre x W hM hMW hI hBW ⟨r,hr⟩
  have hlen:pre.length≤F.size:=by
   have h:=congrArg List.length hr
   rw [List.length_append,List.length_reverse,grO_size,List.length_cons] at h
   omega
  have hfl:=fold_len pre (G,[])
  refine add1_any w3 B g mb w2.heap.size w.heap.size v L G hg3 ⟨by omega,by omega,by omega,fun e=>by have:=hvo _ e;omega⟩ (by omega) (by omega) ⟨by omega,by omega⟩ ⟨by omega,by omega⟩ M pre x W hM hMW hI (by omega) F.size
   (visit_ok F G [] pre x r HGI.out HLV.out.2 HLV.out.1 (fun p hp=>by cases hp) hr) (by omega) (wf_pre HWF.out x (grO_pre F x ?_)) ?_ ?_
  ·have hx:x∈(grO F).reverse:=by rw [←hr];simp
   exact List.mem_reverse.1 hx
  ·have:=hfl.1;dsimp only at this;omega
  ·have:=hfl.2;dsimp only [List.length_nil] at this;omega
 have hcall:=each_graph w3 B (by omega) 130 #[.pointer (some ⟨w2.heap.size,0,none⟩),.pointer (some ⟨w.heap.size,0,none⟩)] (enters_of Tryz.func130 (by kernel_rfl) rfl)
  BT (by omega) k n (u1,u2,u3) ps (HPS.out.below (hb0.mono hBT)) (by omega) (AddI w3 B g mb w2.heap.size v L G)
  (fun M pre W W' hM h hi=>AddI.its (by omega) hM h hi)
  (fun W hW=>⟨v,.slice none 0 0,[],by rw [List.append_nil];exact hG3.below hW,(hW.block _ (by omega)).trans hT3,World.ownsRow_nil _ _ _ _,(fun x hx b hb e=>by cases e),(fun b hb=>.inl (by have:=hvo b hb;omega)),(fun x hx=>by cases hx),⟨hW.os,hW.tape,hW.output,hW.size,fun b hb _ _ _ _=>hW.block b hb,.inl rfl⟩⟩)
  (by rw [hFu];exact hadd)
 rw [hFu] at hcall
 dsimp only [tyVal,slv] at hcall
 have HC:=kI hcall
 have HB0:=kI hb0
 have HT3:=kI hT3
 clear b0 c0 c1 c2 hb2 hb3 hT3 y0 y1 y2 x0 hcall hadd hG hG3 hg3 hs hFs hFu
 go_wp2_with fail
 with_reducible refine HC.out.mono ?_
 rintro e w4 ⟨⟨ve,rfl⟩,⟨M,hM1,hM2,hI⟩,hb4⟩
 unfold AddI at hI
 rw [HFI.out] at hI
 obtain ⟨v',mv,E,hG4,htb4,hmv,hno,hvb,hE,hS⟩:=hI
 obtain ⟨i,hi⟩:∃i:Nat,(gadd1 G k n ps).2=i:=⟨_,rfl⟩
 rw [hi] at hmv
 have HI:=kI hi
 obtain ⟨a,c,rfl,-,-⟩:=own_shape hmv (by simp)
 have m0:w4.cell? ⟨a,0,none⟩=some (.int .i64 (i:Nat)):=by rw [hmv.cellAt 0 (by simp)];rfl
 have t0:w4.cell? ⟨w2.heap.size,0,none⟩=some (.slice (some ⟨a,0,none⟩) 1 c):=cell_of_row w4 _ 0 _ _ (0,0) htb4
 have hchg:Chg w w4 g mb v v':=⟨hS.os.trans HB0.out.os,hS.tape.trans HB0.out.tape,hS.output.trans HB0.out.output,by have:=hS.size;omega,fun b hb h1 h2 h3=>(hS.block b (by omega) h1 h2 (by omega) h3).trans (HB0.out.block b hb),hS.at_.imp id fun ⟨b,e,hb⟩=>⟨b,e,by omega⟩⟩
 have HR4:=kI (aI hG4 (aI hchg (fun x hx b hb=>Nat.le_trans (show w.heap.size≤w3.heap.size by omega) (hE x hx b hb):∀x∈E,∀b,(slv x.2.2.2).ownBlock=some b→w.heap.size≤b)))
 clear hG4 htb4 hmv hno hvb hE hS hchg hb4 hi
 go_wp2_with fail
 obtain ⟨r1,r2,r3⟩:=HR4.out
 exact bodyPost_ret (results_tmp2 rfl _ _ _) rfl ⟨v',E,by rw [HI.out];rfl,r1,r2,r3⟩
end
end Go.Proofs.YtmamdiggjghjkaaGreatDoor
namespace Go.Proofs.YtmamdiggjghjkaaGreatDoor.Un
def upd (f:Nat→Nat) (i v:Nat):Nat→Nat:=fun k=>if k=i then v else f k
theorem upd_same (f:Nat→Nat) (i v:Nat):upd f i v i=v:=by simp [upd]
theorem upd_other (f:Nat→Nat) {i k:Nat}(v:Nat) (h:k≠i):upd f i v k=f k:=by simp [upd,h]
def cls (n:Nat) (col:Nat→Nat) (i:Nat):Nat:=(List.range n).countP fun k=>col k == col i
def cnt (n:Nat) (col:Nat→Nat):Nat:=(List.range n).countP fun i=>(List.range i).all fun j=>!(col j == col i)
def Ker (n:Nat) (c d:Nat→Nat):Prop:=∀i j,i<n→j<n→(c i=c j↔d i=d j)
theorem Ker.cls {n:Nat}{c d:Nat→Nat}(h:Ker n c d) {i:Nat}(hi:i<n):cls n c i=cls n d i:=by
 unfold Un.cls
 apply List.countP_congr
 intro k hk
 simp only [beq_iff_eq]
 exact h k i (List.mem_range.1 hk) hi
theorem Ker.cnt {n:Nat}{c d:Nat→Nat}(h:Ker n c d):cnt n c=cnt n d:=by
 unfold Un.cnt
 apply List.countP_congr
 intro k hk
 have hk:=List.mem_range.1 hk
 simp only [List.all_eq_true,List.mem_range,Bool.not_eq_true',beq_eq_false_iff_ne,ne_eq]
 constructor
 ·intro g j hj;exact fun e=>g j hj ((h j k (by omega) hk).2 e)
 ·intro g j hj;exact fun e=>g j hj ((h j k (by omega) hk).1 e)
structure UFr (n:Nat) (par sz col rk:Nat→Nat):Prop where
 lt:∀i,i<n→par i<n
 colp:∀i,i<n→col (par i)=col i
 root:∀i j,i<n→j<n→par i=i→par j=j→col i=col j→i=j
 up:∀i,i<n→par i≠i→rk i<rk (par i)
 big:∀i,i<n→par i=i→2 ^ rk i≤sz i
 small:∀i,i<n→2 ^ rk i≤n
 size:∀i,i<n→par i=i→sz i=cls n col i
theorem cls_le (n:Nat) (col:Nat→Nat) (i:Nat):cls n col i≤n:=by
 have:=List.countP_le_length (p:=fun k=>col k == col i) (l:=List.range n)
 simpa [cls] using this
theorem UFr.ker {n:Nat}{par sz col rk d:Nat→Nat}(h:UFr n par sz col rk) (k:Ker n col d):UFr n par sz d rk where
 lt:=h.lt
 colp i hi:=(k _ _ (h.lt i hi) hi).1 (h.colp i hi)
 root i j hi hj a b e:=h.root i j hi hj a b ((k i j hi hj).2 e)
 up:=h.up
 big:=h.big
 small:=h.small
 size i hi a:=(h.size i hi a).trans (k.cls hi)
theorem UFr.halve {n:Nat}{par sz col rk:Nat→Nat}(h:UFr n par sz col rk) {i:Nat}(hi:i<n) (ht:par (par i)≠par i):
  UFr n (upd par i (par (par i))) sz col rk∧(∀j,j<n→(upd par i (par (par i)) j=j↔par j=j))∧rk i<rk (par (par i)):=by
 have hpi:par i≠i:=fun e=>ht (by rw [e,e])
 have h1:=h.up i hi hpi
 have h2:=h.up (par i) (h.lt i hi) ht
 have hne:par (par i)≠i:=fun e=>by rw [e] at h2;omega
 have hroots:∀j,j<n→(upd par i (par (par i)) j=j↔par j=j):=by
  intro j hj
  by_cases e:j=i
  ·subst e;rw [upd_same];exact ⟨fun x=>absurd x hne,fun x=>absurd x hpi⟩
  ·rw [upd_other _ _ e]
 refine ⟨⟨fun j hj=>?_,fun j hj=>?_,fun a b ha hb hpa hpb=>h.root a b ha hb ((hroots a ha).1 hpa) ((hroots b hb).1 hpb),fun j hj hpj=>?_,fun j hj hpj=>h.big j hj ((hroots j hj).1 hpj),h.small,fun j hj hpj=>h.size j hj ((hroots j hj).1 hpj)⟩,hroots,by omega⟩
 ·by_cases e:j=i
  ·subst e;rw [upd_same];exact h.lt _ (h.lt _ hj)
  ·rw [upd_other _ _ e];exact h.lt j hj
 ·by_cases e:j=i
  ·subst e;rw [upd_same,h.colp _ (h.lt _ hj),h.colp _ hj]
  ·rw [upd_other _ _ e];exact h.colp j hj
 ·by_cases e:j=i
  ·subst e;rw [upd_same];omega
  ·rw [upd_other _ _ e] at hpj ⊢;exact h.up j hj hpj
def paint (col:Nat→Nat) (a b:Nat):Nat→Nat:=fun k=>if col k=col b then col a else col k
theorem paint_eq (col:Nat→Nat) (a b x y:Nat):paint col a b x=paint col a b y↔(col x=col y∨(col x=col a∨col x=col b)∧(col y=col a∨col y=col b)):=by
 unfold paint
 by_cases hx:col x=col b<;>by_cases hy:col y=col b
 ·rw [if_pos hx,if_pos hy];exact ⟨fun _=>.inr ⟨.inr hx,.inr hy⟩,fun _=>rfl⟩
 ·rw [if_pos hx,if_neg hy]
  constructor
  ·intro e;exact .inr ⟨.inr hx,.inl e.symm⟩
  ·rintro (e|⟨_,e|e⟩)
   ·exact absurd (e.symm.trans hx) hy
   ·exact e.symm
   ·exact absurd e hy
 ·rw [if_neg hx,if_pos hy]
  constructor
  ·intro e;exact .inr ⟨.inl e,.inr hy⟩
  ·rintro (e|⟨e|e,_⟩)
   ·exact absurd (e.trans hy) hx
   ·exact e
   ·exact absurd e hx
 ·rw [if_neg hx,if_neg hy]
  constructor
  ·intro e;exact .inl e
  ·rintro (e|⟨e|e,f|f⟩)
   ·exact e
   ·rw [e,f]
   ·exact absurd f hy
   ·exact absurd e hx
   ·exact absurd e hx
theorem paint_ker {n:Nat}{col:Nat→Nat}{a b c d:Nat}(h:(col c=col a∧col d=col b)∨(col c=col b∧col d=col a)):Ker n (paint col a b) (paint col c d):=by
 intro i j _ _
 rw [paint_eq,paint_eq]
 rcases h with ⟨h1,h2⟩|⟨h1,h2⟩<;>rw [h1,h2]
 constructor<;>(rintro (h|⟨h,h'⟩);exact .inl h;exact .inr ⟨h.symm,h'.symm⟩)
theorem countP_two {α}(p q r:α→Bool):∀(l:List α),(∀x∈l,r x=(p x || q x)∧¬ (p x=true∧q x=true))→l.countP r=l.countP p+l.countP q
 | [],_=>rfl
 | x :: l,h=>by
  have ih:=countP_two p q r l fun y hy=>h y (List.mem_cons_of_mem _ hy)
  obtain ⟨h1,h2⟩:=h x List.mem_cons_self
  rw [List.countP_cons,List.countP_cons,List.countP_cons,ih,h1]
  cases hp:p x<;>cases hq:q x<;>simp [hp,hq] at h2 ⊢<;>omega
theorem cls_paint {n:Nat}{col:Nat→Nat}{r o:Nat}(hne:col r≠col o):cls n (paint col r o) r=cls n col r+cls n col o:=by
 apply countP_two
 intro k _
 have e:(paint col r o k=paint col r o r)↔(col k=col r∨col k=col o):=by
  rw [paint_eq]
  constructor
  ·rintro (h|⟨h,_⟩)
   ·exact .inl h
   ·exact h
  ·intro h;exact .inr ⟨h,.inl rfl⟩
 constructor
 ·rw [Bool.eq_iff_iff];simp only [beq_iff_eq,Bool.or_eq_true];exact e
 ·simp only [beq_iff_eq,not_and];intro h1 h2;exact hne (h1.symm.trans h2)
theorem cls_paint_other {n:Nat}{col:Nat→Nat}{r o x:Nat}(h1:col x≠col r) (h2:col x≠col o):cls n (paint col r o) x=cls n col x:=by
 unfold cls
 apply List.countP_congr
 intro k _
 simp only [beq_iff_eq,paint_eq]
 constructor
 ·rintro (h|⟨_,h|h⟩)
  ·exact h
  ·exact absurd h h1
  ·exact absurd h h2
 ·exact .inl
theorem UFr.join {n:Nat}{par sz col rk:Nat→Nat}(h:UFr n par sz col rk) {r o:Nat}(hr:r<n) (ho:o<n) (pr:par r=r) (po:par o=o) (hne:r≠o) (hs:sz o≤sz r):
  UFr n (upd par o r) (upd sz r (sz r+sz o)) (paint col r o) (upd rk r (max (rk r) (rk o+1))):=by
 have hcne:col r≠col o:=fun e=>hne (h.root r o hr ho pr po e)
 have hrt:∀j,j<n→(upd par o r j=j↔(par j=j∧j≠o)):=by
  intro j hj
  by_cases e:j=o
  ·subst e;rw [upd_same];simp [hne]
  ·rw [upd_other _ _ e];simp [e]
 have hbig:2 ^ max (rk r) (rk o+1)≤sz r+sz o:=by
  have b1:=h.big r hr pr
  have b2:=h.big o ho po
  rcases Nat.le_total (rk r) (rk o+1) with e|e
  ·rw [Nat.max_eq_right e,Nat.pow_succ];omega
  ·rw [Nat.max_eq_left e];omega
 have hsize:sz r+sz o=cls n (paint col r o) r:=by rw [cls_paint hcne,h.size r hr pr,h.size o ho po]
 refine ⟨fun j hj=>?_,fun j hj=>?_,fun a b ha hb hpa hpb e=>?_,fun j hj hpj=>?_,fun j hj hpj=>?_,fun j hj=>?_,fun j hj hpj=>?_⟩
 ·by_cases e:j=o
  ·subst e;rw [upd_same];exact hr
  ·rw [upd_other _ _ e];exact h.lt j hj
 ·by_cases e:j=o
  ·subst e;rw [upd_same,paint_eq];exact .inr ⟨.inl rfl,.inr rfl⟩
  ·rw [upd_other _ _ e,paint_eq];exact .inl (h.colp j hj)
 ·obtain ⟨pa,ao⟩:=(hrt a ha).1 hpa
  obtain ⟨pb,bo⟩:=(hrt b hb).1 hpb
  rcases (paint_eq _ _ _ _ _).1 e with e|⟨e1,e2⟩
  ·exact h.root a b ha hb pa pb e
  ·have f1:a=r:=by
    rcases e1 with e1|e1
    ·exact h.root a r ha hr pa pr e1
    ·exact absurd (h.root a o ha ho pa po e1) ao
   have f2:b=r:=by
    rcases e2 with e2|e2
    ·exact h.root b r hb hr pb pr e2
    ·exact absurd (h.root b o hb ho pb po e2) bo
   rw [f1,f2]
 ·by_cases e:j=o
  ·subst e
   rw [upd_same,upd_same,upd_other _ _ (Ne.symm hne)]
   omega
  ·rw [upd_other _ _ e] at hpj ⊢
   have hu:=h.up j hj hpj
   have hjr:j≠r:=fun e2=>hpj (by rw [e2];exact pr)
   rw [upd_other _ _ hjr]
   by_cases e3:par j=r
   ·rw [e3,upd_same];rw [e3] at hu;omega
   ·rw [upd_other _ _ e3];exact hu
 ·obtain ⟨pj,jo⟩:=(hrt j hj).1 hpj
  by_cases e:j=r
  ·subst e;rw [upd_same,upd_same];exact hbig
  ·rw [upd_other _ _ e,upd_other _ _ e];exact h.big j hj pj
 ·by_cases e:j=r
  ·subst e
   rw [upd_same]
   refine Nat.le_trans hbig ?_
   rw [hsize];exact cls_le _ _ _
  ·rw [upd_other _ _ e];exact h.small j hj
 ·obtain ⟨pj,jo⟩:=(hrt j hj).1 hpj
  by_cases e:j=r
  ·subst e;rw [upd_same];exact hsize
  ·rw [upd_other _ _ e,cls_paint_other (fun x=>e (h.root j r hj hr pj pr x)) (fun x=>jo (h.root j o hj ho pj po x))]
   exact h.size j hj pj
theorem UFr.alone (n:Nat):UFr n (fun k=>k) (fun _=>1) (fun k=>k) (fun _=>0) where
 lt i hi:=hi
 colp i _:=rfl
 root i j _ _ _ _ e:=e
 up i _ h:=absurd rfl h
 big i _ _:=Nat.le_refl _
 small i hi:=by simp;omega
 size i hi _:=by
  unfold cls
  have:(List.range n).countP (fun k=>k == i)=(List.range n).count i:=rfl
  rw [this,List.Nodup.count List.nodup_range,if_pos (List.mem_range.2 hi)]
end Go.Proofs.YtmamdiggjghjkaaGreatDoor.Un
namespace Go.Proofs.YtmamdiggjghjkaaGreatDoor.Un
structure Joined (n:Nat) (E:List (Nat×Nat)) (col:Nat→Nat):Prop where
 holds:∀e∈E,col e.1=col e.2
 only:∀R:Nat→Prop,(∀e∈E,R e.1↔R e.2)→∀x y,x<n→y<n→col x=col y→(R x↔R y)
theorem first_of (n:Nat) (col:Nat→Nat) (x:Nat) (hx:x<n):∃i,i<n∧col i=col x∧∀j,j<i→col j≠col i:=by
 induction x using Nat.strongRecOn with
 | ind x ih=>
  by_cases h:∃j,j<x∧col j=col x
  ·obtain ⟨j,hj,e⟩:=h
   obtain ⟨i,hi,ei,hf⟩:=ih j hj (by omega)
   exact ⟨i,hi,ei.trans e,hf⟩
  ·exact ⟨x,hx,rfl,fun j hj e=>h ⟨j,hj,e⟩⟩
def fst_ (col:Nat→Nat) (i:Nat):Bool:=(List.range i).all fun j=>!(col j == col i)
theorem fst_iff (col:Nat→Nat) (i:Nat):fst_ col i=true↔∀j,j<i→col j≠col i:=by
 unfold fst_
 simp only [List.all_eq_true,List.mem_range,Bool.not_eq_true',beq_eq_false_iff_ne,ne_eq]
theorem cnt_eq (n:Nat) (col:Nat→Nat):cnt n col=(List.range n).countP (fst_ col):=rfl
theorem countP_one {n m:Nat}(hm:m<n):(List.range n).countP (fun k=>k == m)=1:=by
 have:(List.range n).countP (fun k=>k == m)=(List.range n).count m:=rfl
 rw [this,List.Nodup.count List.nodup_range,if_pos (List.mem_range.2 hm)]
theorem cnt_paint {n:Nat}{col:Nat→Nat}{a b:Nat}(ha:a<n) (hb:b<n) (hne:col a≠col b):cnt n col=cnt n (paint col a b)+1:=by
 obtain ⟨i,hi,ei,fi⟩:=first_of n col a ha
 obtain ⟨j,hj,ej,fj⟩:=first_of n col b hb
 have hij:i≠j:=fun e=>hne (by rw [←ei,←ej,e])
  -- the greater one of the two first ones is a first one no more
 have key:∀k,k<n→(fst_ col k=(fst_ (paint col a b) k || k == max i j)∧¬ (fst_ (paint col a b) k=true∧(k == max i j)=true)):=by
  intro k hk
  have hmaxno:¬ (fst_ (paint col a b) (max i j)=true):=by
   intro h
   have h:=(fst_iff _ _).1 h (min i j) (by omega)
   apply h
   rw [paint_eq]
   refine .inr ?_
   rcases Nat.le_total i j with e|e
   ·rw [Nat.min_eq_left e,Nat.max_eq_right e];exact ⟨.inl ei,.inr ej⟩
   ·rw [Nat.min_eq_right e,Nat.max_eq_left e];exact ⟨.inr ej,.inl ei⟩
  refine ⟨?_,fun ⟨h1,h2⟩=>hmaxno (by rw [beq_iff_eq] at h2;rwa [h2] at h1)⟩
  rw [Bool.eq_iff_iff,Bool.or_eq_true,beq_iff_eq,fst_iff,fst_iff]
  constructor
  ·intro h
   by_cases hm:k=max i j
   ·exact .inr hm
   ·left
    intro l hl e
    rcases (paint_eq _ _ _ _ _).1 e with e|⟨e1,e2⟩
    ·exact h l hl e
    · -- k is the first one of a or of b
     have hki:k=i∨k=j:=by
      rcases e2 with e2|e2
      ·left
       rcases Nat.lt_trichotomy k i with x|x|x
       ·exact absurd (e2.trans ei.symm) (fi k x)
       ·exact x
       ·exact absurd (ei.trans e2.symm) (h i x)
      ·right
       rcases Nat.lt_trichotomy k j with x|x|x
       ·exact absurd (e2.trans ej.symm) (fj k x)
       ·exact x
       ·exact absurd (ej.trans e2.symm) (h j x)
     have hlm:l<i∧l<j:=by omega
     rcases e1 with e1|e1
     ·exact fi l hlm.1 (e1.trans ei.symm)
     ·exact fj l hlm.2 (e1.trans ej.symm)
  ·rintro (h|h)
   ·intro l hl e
    exact h l hl ((paint_eq _ _ _ _ _).2 (.inl e))
   ·rcases Nat.le_total i j with e|e
    ·rw [Nat.max_eq_right e] at h;rw [h];exact fj
    ·rw [Nat.max_eq_left e] at h;rw [h];exact fi
 rw [cnt_eq,cnt_eq]
 have:=countP_two (fst_ (paint col a b)) (fun k=>k == max i j) (fst_ col) (List.range n) fun k hk=>key k (List.mem_range.1 hk)
 rw [this,countP_one (by omega)]
inductive Pth (nx:Nat→Nat):Nat→List Nat→Nat→Prop
 | nil (a:Nat):Pth nx a [] a
 | cons {a b:Nat} {L:List Nat} (h:Pth nx (nx a) L b):Pth nx a (a :: L) b
theorem Pth.app {nx:Nat→Nat}{a b c:Nat}{L M:List Nat}(h:Pth nx a L b) (g:Pth nx b M c):Pth nx a (L++M) c:=by
 induction h with
 | nil a=>exact g
 | cons h ih=>exact .cons (ih g)
theorem Pth.cut {nx:Nat→Nat}{L1:List Nat}:∀ {a b c:Nat}{L2:List Nat},Pth nx a (L1++b :: L2) c→Pth nx a L1 b∧Pth nx b (b :: L2) c:=by
 induction L1 with
 | nil=>
  intro a b c L2 h
  cases h with
  | cons h=>exact ⟨.nil _,.cons h⟩
 | cons x L1 ih=>
  intro a b c L2 h
  cases h with
  | cons h=>obtain ⟨h1,h2⟩:=ih h;exact ⟨.cons h1,h2⟩
theorem Pth.same {nx ny:Nat→Nat}{a b:Nat}{L:List Nat}(h:Pth nx a L b):(∀k∈L,ny k=nx k)→Pth ny a L b:=by
 induction h with
 | nil a=>intro _;exact .nil _
 | @cons a b L h ih=>
  intro hk
  refine .cons ?_
  rw [hk a List.mem_cons_self]
  exact ih fun k hm=>hk k (List.mem_cons_of_mem _ hm)
def Ring (n:Nat) (nx col:Nat→Nat) (i:Nat) (L:List Nat):Prop:=Pth nx i L i∧L≠[]∧L.Nodup∧∀j,j∈L↔(j<n∧col j=col i)
def Rings (n:Nat) (nx col:Nat→Nat):Prop:=∀i,i<n→∃L,Ring n nx col i L
theorem Ring.next {n:Nat}{nx col:Nat→Nat}{i:Nat}{L:List Nat}(h:Ring n nx col i L):∃M,L=i :: M∧Pth nx (nx i) M i:=by
 obtain ⟨h,hne,_⟩:=h
 cases h with
 | nil=>exact absurd rfl hne
 | cons h=>exact ⟨_,rfl,h⟩
theorem Rings.ker {n:Nat}{nx c d:Nat→Nat}(h:Rings n nx c) (k:Ker n c d):Rings n nx d:=by
 intro i hi
 obtain ⟨L,h1,h2,h3,h4⟩:=h i hi
 refine ⟨L,h1,h2,h3,fun j=>?_⟩
 rw [h4 j]
 constructor
 ·rintro ⟨hj,e⟩;exact ⟨hj,(k j i hj hi).1 e⟩
 ·rintro ⟨hj,e⟩;exact ⟨hj,(k j i hj hi).2 e⟩
theorem Rings.alone (n:Nat):Rings n (fun k=>k) fun k=>k:=by
 intro i hi
 refine ⟨[i],.cons (.nil _),by simp,by simp,fun j=>?_⟩
 simp only [List.mem_singleton]
 constructor
 ·rintro rfl;exact ⟨hi,rfl⟩
 ·exact fun h=>h.2
def swp (nx:Nat→Nat) (a b:Nat):Nat→Nat:=upd (upd nx a (nx b)) b (nx a)
theorem swp_comm (nx:Nat→Nat) {a b:Nat}(h:a≠b):swp nx a b=swp nx b a:=by
 funext k
 unfold swp upd
 by_cases h1:k=b<;>by_cases h2:k=a<;>simp_all
theorem ring_join {n:Nat}{nx col:Nat→Nat}(h:Rings n nx col) {a b i:Nat}(hi:i<n) (ha:a<n) (hb:b<n) (hne:col a≠col b) (hia:col i=col a):∃L,Ring n (swp nx a b) (paint col a b) i L:=by
 obtain ⟨L,hL,hLne,hLd,hLm⟩:=h i hi
 obtain ⟨M,hM⟩:=h b hb
 have hMm:=hM.2.2.2
 have hMd:=hM.2.2.1
 obtain ⟨M2,rfl,hp⟩:=hM.next
 have haL:a∈L:=(hLm a).2 ⟨ha,hia.symm⟩
 obtain ⟨L1,L2,rfl⟩:=List.append_of_mem haL
 obtain ⟨h1,h2⟩:=hL.cut
 have h3:Pth nx (nx a) L2 i:=by cases h2 with|cons h=>exact h
 have hab:a≠b:=fun e=>hne (by rw [e])
 have hdis:∀k,k∈L1++a :: L2→k ∉ b :: M2:=fun k hk hk2=>hne (by
  have e1:=((hLm k).1 hk).2
  have e2:=((hMm k).1 hk2).2
  rw [←hia,←e1,e2])
 have hLd':=List.nodup_append.1 hLd
 have haL1:a ∉ L1:=fun hx=>hLd'.2.2 a hx a List.mem_cons_self rfl
 have haL2:a ∉ L2:=(List.nodup_cons.1 hLd'.2.1).1
 have hbM2:b ∉ M2:=(List.nodup_cons.1 hMd).1
 have sw:∀k,k≠a→k≠b→swp nx a b k=nx k:=fun k x y=>by unfold swp;rw [upd_other _ _ y,upd_other _ _ x]
 have swa:swp nx a b a=nx b:=by unfold swp;rw [upd_other _ _ hab,upd_same]
 have swb:swp nx a b b=nx a:=by unfold swp;rw [upd_same]
 have g1:Pth (swp nx a b) i L1 a:=h1.same fun k hk=>sw k (fun e=>haL1 (e ▸ hk)) fun e=>hdis k (by simp [hk]) (by rw [e];exact List.mem_cons_self)
 have g3:Pth (swp nx a b) (nx a) L2 i:=h3.same fun k hk=>sw k (fun e=>haL2 (e ▸ hk)) fun e=>hdis k (by simp [hk]) (by rw [e];exact List.mem_cons_self)
 have g2:Pth (swp nx a b) (nx b) M2 b:=hp.same fun k hk=>sw k (fun e=>hdis a (by simp) (by rw [e] at hk;exact List.mem_cons_of_mem _ hk)) fun e=>hbM2 (e ▸ hk)
 have ga:Pth (swp nx a b) a [a] (nx b):=by
  refine .cons ?_
  rw [swa];exact .nil _
 have gb:Pth (swp nx a b) b [b] (nx a):=by
  refine .cons ?_
  rw [swb];exact .nil _
 refine ⟨L1++([a]++(M2++([b]++L2))),g1.app (ga.app (g2.app (gb.app g3))),by simp,?_,fun j=>?_⟩
 ·have hperm:(L1++([a]++(M2++([b]++L2)))).Perm ((L1++a :: L2)++(b :: M2)):=by
   refine (List.Perm.append_left L1 ?_).trans (by rw [List.append_assoc])
   show (a :: (M2++(b :: L2))).Perm (a :: (L2++(b :: M2)))
   refine List.Perm.cons _ ?_
   refine List.perm_append_comm.trans ?_
   show (b :: (L2++M2)).Perm _
   exact List.perm_middle.symm
  refine (List.Perm.nodup_iff hperm).2 ?_
  rw [List.nodup_append]
  exact ⟨hLd,hMd,fun x hx y hy e=>hdis x hx (e ▸ hy)⟩
 ·have e:(j∈L1++([a]++(M2++([b]++L2))))↔(j∈L1++a :: L2∨j∈b :: M2):=by
   simp only [List.mem_append,List.mem_cons,List.not_mem_nil,or_false]
   constructor
   ·rintro (h|h|h|h|h)
    ·exact .inl (.inl h)
    ·exact .inl (.inr (.inl h))
    ·exact .inr (.inr h)
    ·exact .inr (.inl h)
    ·exact .inl (.inr (.inr h))
   ·rintro ((h|h|h)|h|h)
    ·exact .inl h
    ·exact .inr (.inl h)
    ·exact .inr (.inr (.inr (.inr h)))
    ·exact .inr (.inr (.inr (.inl h)))
    ·exact .inr (.inr (.inl h))
  rw [e,hLm,hMm,paint_eq,hia]
  constructor
  ·rintro (⟨h,e⟩|⟨h,e⟩)
   ·exact ⟨h,.inl e⟩
   ·exact ⟨h,.inr ⟨.inr e,.inl rfl⟩⟩
  ·rintro ⟨h,e|⟨e|e,_⟩⟩
   ·exact .inl ⟨h,e⟩
   ·exact .inl ⟨h,e⟩
   ·exact .inr ⟨h,e⟩
theorem Rings.join {n:Nat}{nx col:Nat→Nat}(h:Rings n nx col) {a b:Nat}(ha:a<n) (hb:b<n) (hne:col a≠col b):Rings n (swp nx a b) (paint col a b):=by
 intro i hi
 by_cases h1:col i=col a
 ·exact ring_join h hi ha hb hne h1
 ·by_cases h2:col i=col b
  ·obtain ⟨L,hL1,hL2,hL3,hL4⟩:=ring_join h hi hb ha (Ne.symm hne) h2
   rw [swp_comm nx (fun e=>hne (by rw [e]))]
   refine ⟨L,hL1,hL2,hL3,fun j=>(hL4 j).trans ?_⟩
   rw [paint_eq,paint_eq]
   constructor<;>(rintro ⟨hj,e|⟨e,f⟩⟩;exact ⟨hj,.inl e⟩;exact ⟨hj,.inr ⟨e.symm,f.symm⟩⟩)
  ·obtain ⟨L,hL1,hL2,hL3,hL4⟩:=h i hi
   refine ⟨L,hL1.same fun k hk=>?_,hL2,hL3,fun j=>?_⟩
   ·have e:=((hL4 k).1 hk).2
    unfold swp
    rw [upd_other _ _ (fun x=>h2 (by rw [←e,x])),upd_other _ _ (fun x=>h1 (by rw [←e,x]))]
   ·rw [hL4 j,paint_eq]
    constructor
    ·rintro ⟨hj,e⟩;exact ⟨hj,.inl e⟩
    ·rintro ⟨hj,e|⟨_,e|e⟩⟩
     ·exact ⟨hj,e⟩
     ·exact absurd e h1
     ·exact absurd e h2
end Go.Proofs.YtmamdiggjghjkaaGreatDoor.Un
