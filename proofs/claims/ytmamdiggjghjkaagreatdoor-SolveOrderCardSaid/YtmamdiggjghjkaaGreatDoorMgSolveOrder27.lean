/- Texts of one proof, one behind the other. -/
import Derived.Test.YtmamdiggjghjkaaGreatDoorMgSolveOrder1
import Derived.Test.YtmamdiggjghjkaaGreatDoorMgSolveOrder26b
import Derived.Test.YtmamdiggjghjkaaGreatDoorMgSolveOrder24
import Derived.Deep.LoopGhost
import Derived.Deep.QuietTactic
import Derived.BigQuiet
set_option linter.unusedVariables false
namespace Go.Proofs.YtmamdiggjghjkaaGreatDoor
section
open Go.RowKit
open Un (rowI rowI_get Else own_else wp_world)
attribute [local go_sem] Oper.semAt_some
attribute [local go_sem ↓] builtin_app
set_option maxRecDepth 100000
structure An3 (D:Nat→Prop) (B:Nat) (w:World) (vm vs:Value) (M:List Rm) (G:List Gn) (cc:Nat→Nat):Prop where
 row:RdD D w 4 vm M.length (M.flatMap rmC)
 nodes:∀x∈M,RdD D w 1 (slv x.2) x.1.2.2.2.2.length (nums x.1.2.2.2.2)
 col:w.ownsRow B 3 1 vs M.length (rowI M.length cc)
 lens:∀x∈M,x.2.2.1=x.1.2.2.2.2.length
 gm:gM M=G
section CyWs
variable {D:Nat→Prop}{B:Nat}{w w':World}{vm vs:Value}{M:List Rm}{G:List Gn}{cc:Nat→Nat}{i:Nat}{col ro:Nat→Nat}{kn:Kn}{E:List (Nat×Nat)}
theorem An3.to (h:An3 D B w vm vs M G cc) {S:Nat→Prop}(he:Else S w w') (hD:∀k,S k→¬ D k) (hB:∀k,S k→vs.ownBlock≠some k):An3 D B w' vm vs M G cc:=
 ⟨h.row.to he.size fun b hd hlt=>he.block b hlt fun hs=>hD b hs hd,fun x hx=>(h.nodes x hx).to he.size fun b hd hlt=>he.block b hlt fun hs=>hD b hs hd,own_else h.col he (fun k hk hs=>hB k hs hk),h.lens,h.gm⟩
theorem An3.below (h:An3 D B w vm vs M G cc) (hb:Below w.heap.size w w'):An3 D B w' vm vs M G cc:=h.to (S:=fun _=>False) (Else.of_below hb) (fun _ e=>e.elim) fun _ e=>e.elim
theorem An3.len (h:An3 D B w vm vs M G cc):M.length=G.length:=by rw [←h.gm];simp [gM]
theorem RdD.form {Dp:Nat→Prop}{W:World}{v:Value}{s n:Nat}{xs:List Value}(h:RdD Dp W s v n xs):∃A c,v = .slice A n c:=h.1.form
theorem next_any (h:An3 D B w vm vs M G cc) (hl:G.length≤100000) (hi:i<G.length):
  Calls Tryz.prog 70 #[.agg #[vm,vs],.int .i64 (i:Nat)] w fun x w'=>(∃v P,x = .returned v∧RdD D w' 1 v P.length (nums P)∧NextIs G cc i P)∧Below w.heap.size w w':=by
 have hlen:=h.len
 obtain ⟨Am,cm,rfl⟩:=h.row.form
 obtain ⟨As,cs,rfl,_,_⟩:=Un.own_form h.col
 obtain ⟨w0,hw0⟩:∃w0,w.alloc (.cells #[.slice Am M.length cm,.slice As M.length cs] 67)=w0:=⟨_,rfl⟩
 have hb0:Below w.heap.size w w0:=by rw [←hw0];exact (Below.refl _ _).alloc (Nat.le_refl _) _
 have hx0:w0.heap[w.heap.size]? = some (.cells #[.slice Am M.length cm,.slice As M.length cs] 67):=by rw [←hw0];exact heap_alloc_new _ _
 have h0:=h.below hb0
 have HWH:=kI (whole_any w0 M _ _ cc B h0.row.1 h0.col (by omega) i (by omega))
 have x0:w0.cell? ⟨w.heap.size,0,none⟩=some (.slice Am M.length cm):=cell_of_row w0 _ 0 _ _ (0,0) hx0
 have x1:w0.cell? ⟨w.heap.size,1,none⟩=some (.slice As M.length cs):=cell_of_row w0 _ 1 _ _ (0,0) hx0
 obtain ⟨N,hN⟩:∃N,M.length=N:=⟨_,rfl⟩
 have H:=kI (aI h0 (aI hb0 (aI hx0 (aI hlen (aI hN (aI hl hi))))))
 have HW0:=kI hw0
 rw [hN] at x0 x1 HWH ⊢
 clear h hb0 hx0 h0 hlen hN hw0 hl hi
 go_enter Tryz.func70,Tryz.ntmps70
 go_upto_region 1 with fail
 rw [show (w.alloc (.cells #[.slice Am N cm,.slice As N cs] 67))=w0 from by have:=HW0.out;rw [H.out.2.2.2.2.1] at this;exact this]
 go_wp2_with fail
 refine HWH.out.mono ?_
 clear HWH
 rintro x w2 ⟨r,rfl,hr,hb2⟩
 have hx2:=(hb2.block _ (gL H.out.2.2.1).1).trans H.out.2.2.1
 have y0:w2.cell? ⟨w.heap.size,0,none⟩=some (.slice Am N cm):=by rw [←H.out.2.2.2.2.1];exact cell_of_row w2 _ 0 _ _ (0,0) hx2
 have hbt:Below w.heap.size w w2:=H.out.2.1.trans (hb2.mono H.out.2.1.size)
 have H2:=kI (aI hr (aI hbt (H.out.1.below hb2)))
 clear hr hb2 hx2 hbt x0 x1
 rcases H2.out.1 with ⟨k,p,rfl,hp,hck,p1⟩|⟨rfl,hno⟩
 ·have hkG:k<G.length:=by rw [←H.out.1.gm];exact lt_of_get hp
  have hkM:k<M.length:=by have:=H.out.2.2.2.1;omega
  have hkN:k<N:=by have:=H.out.2.2.2.2.1;omega
  have hk5:k≤100000:=by have:=H.out.2.2.2.2.2.1;omega
  have hnode:=H2.out.2.2.nodes _ (List.getElem_mem hkM)
  have hlens:=H.out.1.lens _ (List.getElem_mem hkM)
  obtain ⟨b1,o1,cap1,hv1,_,_,hlt1,hc1⟩:=H2.out.2.2.row.1.2.resolve_left (by rintro ⟨h,_⟩;omega)
  injection hv1 with hA1 hA2 hcc1
  subst hA1
  clear hA2 hcc1
  obtain ⟨-,-,-,p3⟩:=rmC_at M k hkM
  have hpe:p=rG M[k].1:=by
   have:(gM M)[k]? = some (rG M[k].1):=by simp [gM,hkM]
   rw [hp] at this
   exact Option.some.inj this
  obtain ⟨⟨R1,R2,R3⟩,hR⟩:∃R,M[k].2=R:=⟨_,rfl⟩
  rw [hR] at p3 hnode
  have z3:w2.cell? ⟨b1,o1+k*4+3,none⟩=some (.slice R1 R2 R3):=hc1 _ _ p3
  have HN:=kI (aI hp (aI hck (aI p1 (aI hpe hnode))))
  clear hp hck p1 hpe hnode hlens hc1 p3 hlt1 hR hkG
  go_wp2_with fail
  refine bodyPost_ret (results_tmp rfl _ _ _) rfl ⟨⟨_,p.2.2.2,rfl,?_,.inl ⟨k,p,by rw [←H.out.1.gm];exact HN.out.1,HN.out.2.1,HN.out.2.2.1,rfl⟩⟩,H2.out.2.1⟩
  have:=HN.out.2.2.2.2
  rw [HN.out.2.2.2.1]
  exact this
 ·have HNO:=kI hno
  clear hno
  go_wp2_with fail
  exact bodyPost_ret (results_tmp rfl _ _ _) rfl ⟨⟨_,[],rfl,⟨⟨rfl,.inl ⟨rfl,none,0,rfl⟩⟩,fun h=>absurd h (Nat.lt_irrefl _)⟩,.inr ⟨fun k p hp hc=>HNO.out k p (by rw [H.out.1.gm];exact hp) hc,rfl⟩⟩,H2.out.2.1⟩
variable {C N:List Nat}{n:Nat}
structure CmI (G:List Gn) (cc:Nat→Nat) (i:Nat) (C N:List Nat) (n:Nat):Prop where
 come:∀u∈N,u<G.length∧Cp G cc (cc i) (cc u)
 nd:C.Nodup
 from_:∀d∈C,∃(t u:Nat),t<n∧N[t]? = some u∧cc u=d
 done:∀t u,t<n→N[t]? = some u→cc u∈C
 one:∀d,Cs G cc (cc i) d→∃u∈N,cc u=d
 more:∀c∈C,∀d,Cs G cc c d→∃u∈N,cc u=d
 le:n≤N.length
 few:N.length≤8*(1+C.length)
theorem CmI.clen (h:CmI G cc i C N n):C.length≤G.length:=by
 have:=nodup_sub (L:=(List.range G.length).map cc) h.nd fun d hd=>by
  obtain ⟨t,u,_,hu,rfl⟩:=h.from_ d hd
  exact List.mem_map_of_mem (List.mem_range.2 (h.come u (List.mem_of_getElem? hu)).1)
 simpa using this
theorem CmI.end_ (h:CmI G cc i C N n) (hn:n=N.length) (d:Nat):d∈C↔Cp G cc (cc i) d:=by
 have key:∀u∈N,cc u∈C:=fun u hu=>by
  obtain ⟨t,ht,rfl⟩:=List.getElem_of_mem hu
  exact h.done t _ (by omega) (List.getElem?_eq_getElem ht)
 constructor
 ·intro hd
  obtain ⟨t,u,_,hu,rfl⟩:=h.from_ d hd
  exact (h.come u (List.mem_of_getElem? hu)).2
 ·intro hp
  obtain ⟨c,hc⟩:∃c,cc i=c:=⟨_,rfl⟩
  rw [hc] at hp
  have hone:=h.one
  rw [hc] at hone
  clear hc
  induction hp with
  | one s=>
   obtain ⟨u,hu,rfl⟩:=hone _ s
   exact key u hu
  | more _ s ih=>
   obtain ⟨u,hu,rfl⟩:=h.more _ ih _ s
   exact key u hu
theorem CmI.start (hB:Both G col ro kn E cc) (hg:Gp G) (hi:i<G.length) {P:List Nat}(hP:NextIs G cc i P):CmI G cc i [] P 0:=by
 refine ⟨fun u hu=>?_,by simp,(fun d hd=>by cases hd),(fun t u ht=>by omega),fun d hd=>(hP.all hB hi d).1 hd,(fun c hc=>by cases hc),Nat.zero_le _,?_⟩
 ·have h1:=(hP.all hB hi (cc u)).2 ⟨u,hu,rfl⟩
  refine ⟨?_,.one h1⟩
  rcases hP with ⟨k,p,h1,h2,h3,rfl⟩|⟨_,rfl⟩
  ·exact hB.rc.parts k p h1 u hu
  ·cases hu
 ·rcases hP with ⟨k,p,h1,h2,h3,rfl⟩|⟨_,rfl⟩
  ·exact (hg p (List.mem_of_getElem? h1)).1
  ·simp
theorem CmI.skip (h:CmI G cc i C N n) (hn:n<N.length) {u:Nat}(hu:N[n]? = some u) (hc:cc u∈C):CmI G cc i C N (n+1):=
 ⟨h.come,h.nd,fun d hd=>by obtain ⟨t,v,a,b⟩:=h.from_ d hd;exact ⟨t,v,by omega,b⟩,fun t v ht hv=>by
  rcases Nat.lt_or_ge t n with h1|h1
  ·exact h.done t v h1 hv
  ·obtain rfl:t=n:=by omega
   rw [hu] at hv
   cases hv
   exact hc,h.one,h.more,hn,h.few⟩
theorem CmI.take (hB:Both G col ro kn E cc) (hg:Gp G) (h:CmI G cc i C N n) (hn:n<N.length) {u:Nat}(hu:N[n]? = some u) (hc:cc u ∉ C) {P:List Nat}(hP:NextIs G cc u P):CmI G cc i (C ++ [cc u]) (N++P) (n+1):=by
 have hul:=h.come u (List.mem_of_getElem? hu)
 refine ⟨fun v hv=>?_,?_,fun d hd=>?_,fun t v ht hv=>?_,fun d hd=>?_,fun c hcm d hd=>?_,?_,?_⟩
 ·rcases List.mem_append.1 hv with hv|hv
  ·exact h.come v hv
  ·refine ⟨?_,.more hul.2 ((hP.all hB hul.1 (cc v)).2 ⟨v,hv,rfl⟩)⟩
   rcases hP with ⟨k,p,h1,h2,h3,rfl⟩|⟨_,rfl⟩
   ·exact hB.rc.parts k p h1 v hv
   ·cases hv
 ·rw [List.nodup_append]
  exact ⟨h.nd,by simp,fun a ha b hb e=>hc (by simp at hb;rw [←hb,←e];exact ha)⟩
 ·rcases List.mem_append.1 hd with hd|hd
  ·obtain ⟨t,v,a,b,e⟩:=h.from_ d hd
   exact ⟨t,v,by omega,by rw [List.getElem?_append_left (lt_of_get b)];exact b,e⟩
  ·obtain rfl:d=cc u:=by simpa using hd
   exact ⟨n,u,by omega,by rw [List.getElem?_append_left hn];exact hu,rfl⟩
 ·rw [List.getElem?_append_left (by omega)] at hv
  rcases Nat.lt_or_ge t n with h1|h1
  ·exact List.mem_append_left _ (h.done t v h1 hv)
  ·obtain rfl:t=n:=by omega
   rw [hu] at hv
   cases hv
   simp
 ·obtain ⟨v,hv,e⟩:=h.one d hd
  exact ⟨v,List.mem_append_left _ hv,e⟩
 ·rcases List.mem_append.1 hcm with hcm|hcm
  ·obtain ⟨v,hv,e⟩:=h.more c hcm d hd
   exact ⟨v,List.mem_append_left _ hv,e⟩
  ·obtain rfl:c=cc u:=by simpa using hcm
   obtain ⟨v,hv,e⟩:=(hP.all hB hul.1 d).1 hd
   exact ⟨v,List.mem_append_right _ hv,e⟩
 ·rw [List.length_append];omega
 ·have hp8:P.length≤8:=by
   rcases hP with ⟨k,p,h1,h2,h3,rfl⟩|⟨_,rfl⟩
   ·exact (hg p (List.mem_of_getElem? h1)).1
   ·simp
  have:=h.few
  rw [List.length_append,List.length_append,List.length_singleton]
  omega
def CmPost (G:List Gn) (cc:Nat→Nat) (i:Nat) (w:World) (x:Ending) (w':World):Prop:=∃v C,x = .returned v∧w'.ownsRow w.heap.size 3 1 v C.length (nums C)∧(∀d,d∈C↔Cp G cc (cc i) d)∧C.length≤G.length∧Below w.heap.size w w'
theorem nums_get {L:List Nat}{j x:Nat}(h:L[j]? = some x):(nums L)[j]? = some (.int .i64 (x:Nat)):=by simp [nums,ints,toI,h]
theorem RdD.get1 {Dp:Nat→Prop}{W:World}{A:Option Addr}{m c:Nat}{L:List Nat}(h:RdD Dp W 1 (.slice A m c) L.length (nums L)) {j x:Nat}(hx:L[j]? = some x):∃b off,A=some ⟨b,off,none⟩∧L.length≤c∧b<W.heap.size∧Dp b∧W.cell? ⟨b,off+j,none⟩=some (.int .i64 (x:Nat)):=by
 have hj:=lt_of_get hx
 obtain ⟨b,off,cap,hv,hnc,_,hlt,hc⟩:=h.1.2.resolve_left (by rintro ⟨h,_⟩;omega)
 have hd:=h.2 (by omega) b off cap hv
 injection hv with e1 e2 e3
 exact ⟨b,off,e1,by omega,hlt,hd,hc j _ (nums_get hx)⟩
set_option maxHeartbeats 16000000 in
theorem comes_any (hB:Both G col ro kn E cc) (hg:Gp G) (h:An3 D B w vm vs M G cc) (hl:G.length≤10000) (hi:i<G.length):
  Calls Tryz.prog 100 #[.agg #[vm,vs],.int .i64 (i:Nat)] w (CmPost G cc i w):=by
 have hlen:=h.len
 have hvb:∀k,vs.ownBlock=some k→k<w.heap.size:=fun k hk=>(h.col.lt k hk).2
 obtain ⟨Am,cm,rfl⟩:=h.row.form
 obtain ⟨As,cs,rfl,_,_⟩:=Un.own_form h.col
 obtain ⟨Q,hQ⟩:∃Q,M.length=Q:=⟨_,rfl⟩
 rw [hQ] at h hlen hvb ⊢
 obtain ⟨w0,hw0⟩:∃w0,w.alloc (.cells #[.slice Am Q cm,.slice As Q cs] 67)=w0:=⟨_,rfl⟩
 have hb0:Below w.heap.size w w0:=by rw [←hw0];exact (Below.refl _ _).alloc (Nat.le_refl _) _
 have hx0:w0.heap[w.heap.size]? = some (.cells #[.slice Am Q cm,.slice As Q cs] 67):=by rw [←hw0];exact heap_alloc_new _ _
 have hAn:An3 (fun b=>b<w0.heap.size) B w0 (.slice Am Q cm) (.slice As Q cs) M G cc:=by
  have h0:=h.below hb0
  exact ⟨h0.row.imp fun b hb _=>hb,fun x hx=>(h0.nodes x hx).imp fun b hb _=>hb,h0.col,h0.lens,h0.gm⟩
 have HNX:=kI (next_any hAn (by omega) hi)
 have HAN:Hid (∀W,Below w0.heap.size w0 W→An3 (fun b=>b<w0.heap.size) B W (.slice Am Q cm) (.slice As Q cs) M G cc):=kI fun W hW=>hAn.to (S:=fun k=>w0.heap.size≤k) ⟨hW.os,hW.tape,hW.output,hW.size,fun k _ hk=>hW.block k (by omega)⟩ (fun k hk hd=>by omega) (fun k hk e=>by have h1:=hvb k e;have h2:=hb0.size;omega)
 have x0:w0.cell? ⟨w.heap.size,0,none⟩=some (.slice Am Q cm):=cell_of_row w0 _ 0 _ _ (0,0) hx0
 have x1:w0.cell? ⟨w.heap.size,1,none⟩=some (.slice As Q cs):=cell_of_row w0 _ 1 _ _ (0,0) hx0
 have H:=kI (aI (h.below hb0) (aI hb0 (aI hx0 (aI hlen (aI hl (aI hi (aI hB (aI hg hQ))))))))
 have HW0:=kI hw0
 clear h hb0 hx0 hlen hw0 hl hi hB hg hQ hAn hvb
 go_enter Tryz.func100,Tryz.ntmps100
 go_upto_region 2 with fail
 rw [HW0.out]
 go_wp2_with fail
 refine HNX.out.mono ?_
 clear HNX
 rintro x w1 ⟨⟨v1,P1,rfl,hr1,hn1⟩,hb1⟩
 obtain ⟨A1,c1,rfl⟩:=hr1.form
 have hst:=CmI.start H.out.2.2.2.2.2.2.1 H.out.2.2.2.2.2.2.2.1 H.out.2.2.2.2.2.1 hn1
 have H1:=kI (aI hr1 (aI hst hb1))
 clear hr1 hn1 hst hb1 x0 x1
 go_wp2_with fail
 go_loopg [5,6,7,8,9] (8*(1+G.length)+1) (fun nn s5 s6 s7 _ _ wr=>∃(C N:List Nat) (n:Nat),s7 = .int .i64 (n:Nat)∧wr.ownsRow w0.heap.size 3 1 s5 C.length (nums C)∧RdD (fun b=>s5.ownBlock≠some b) wr 1 s6 N.length (nums N)∧CmI G cc i C N n∧8*(1+G.length)+1≤n+nn∧Below w0.heap.size w0 wr)
 case atStart=>exact ⟨[],P1,0,rfl,World.ownsRow_nil _ _ _ _,H1.out.1.imp (fun b _ _ h=>by cases h),H1.out.2.1,by omega,H1.out.2.2⟩
 case round=>
  obtain ⟨C,N,n,rfl,hc,hn,hI,hnn,hb⟩:=hrel
  obtain ⟨Ac,cc_,rfl,_,_⟩:=Un.own_form hc
  obtain ⟨An,cn,rfl⟩:=hn.form
  have hCl:=hI.clen
  have hfew:=hI.few
  have hnle:=hI.le
  have hG:=H.out.2.2.2.2.1
  have HI:=kI (aI hc (aI hn (aI hI (aI hnn (aI hb (aI hCl hfew))))))
  obtain ⟨qc,hqc⟩:∃q,C.length=q:=⟨_,rfl⟩
  obtain ⟨qn,hqn⟩:∃q,N.length=q:=⟨_,rfl⟩
  rw [hqc] at hCl hfew ⊢
  rw [hqn] at hfew hnle ⊢
  have hqcb:qc≤10000:=by omega
  have hqnb:qn≤100000:=by omega
  have hnb:n≤100000:=by omega
  have HQ:=kI (aI hqc hqn)
  clear hc hn hI hnn hb hCl hfew hqc hqn hG
  by_cases hlt:n<qn
  ·have f1:decide ((n:Int)<(qn:Int))=true:=decide_eq_true (by omega)
   have f2:decide (n<qn)=true:=decide_eq_true hlt
   obtain ⟨u,hu⟩:∃u,N[n]? = some u:=⟨_,List.getElem?_eq_getElem (by rw [HQ.out.2];exact hlt)⟩
   have HU:=kI (aI hu hlt)
   have hcol:=H.out.1.col
   rw [H.out.2.2.2.2.2.2.2.2] at hcol
   obtain ⟨bs,cs_,hsh,_,hbsl⟩:=Un.own_shape hcol (by have:=H.out.2.2.2.1;have:=H.out.2.2.2.2.2.1;omega)
   injection hsh with hA1 hA2 hcc1
   subst hA1
   clear hA2 hcc1
   obtain ⟨gA,rfl⟩:∃g:Nat,g=gk:=⟨_,rfl⟩
   obtain ⟨wo,rfl⟩:∃wo:World,wo=wr:=⟨_,rfl⟩
   have hul:=HI.out.2.2.1.come u (List.mem_of_getElem? hu)
   obtain ⟨bn,offn,hAn,hncn,hbn,hbnD,cn0⟩:=HI.out.2.1.get1 hu
   rw [HQ.out.2] at hncn
   subst hAn
   have hcs:w0.cell? ⟨bs,u,none⟩=some (.int .i64 (cc u:Nat)):=(hcol.cellAt u (by have:=hul.1;have:=H.out.2.2.2.1;omega)).trans (rowI_get (by have:=hul.1;have:=H.out.2.2.2.1;omega))
   have hx0l:=(gL H.out.2.2.1).1
   have huQ:u<Q:=by have:=hul.1;have:=H.out.2.2.2.1;omega
   obtain ⟨OB,hOB⟩:∃o,(Value.slice Ac qc cc_).ownBlock=o:=⟨_,rfl⟩
   have hOBl:∀k,OB=some k→w0.heap.size≤k:=fun k hk=>by
    have:=HI.out.1.lt k (by rw [HQ.out.1,hOB];exact hk)
    exact this.1
   have hbnO:OB≠some bn:=by
    have:=hbnD
    rw [HQ.out.1,hOB] at this
    exact this
   have FX:Hid (∀W,Else (fun k=>OB=some k) wo W→W.cell? ⟨bn,offn+n,none⟩=some (.int .i64 (u:Nat))∧W.cell? ⟨bs,u,none⟩=some (.int .i64 (cc u:Nat))∧W.cell? ⟨w.heap.size,1,none⟩=some (.slice (some ⟨bs,0,none⟩) Q cs)∧W.cell? ⟨w.heap.size,0,none⟩=some (.slice Am Q cm)):=kI fun W hW=>by
    have hb:∀k,k<w0.heap.size→W.heap[k]? = w0.heap[k]?:=fun k hk=>(hW.block k (Nat.lt_of_lt_of_le hk HI.out.2.2.2.2.1.size) fun e=>by have:=hOBl k e;omega).trans (HI.out.2.2.2.2.1.block k hk)
    have hx:=(hb _ hx0l).trans H.out.2.2.1
    have e1:=cell_of_row W _ 1 _ _ (0,0) hx
    have e0:=cell_of_row W _ 0 _ _ (0,0) hx
    exact ⟨(World.cell?_of_block (hW.block bn hbn fun e=>hbnO e)).trans cn0,(World.cell?_of_block (hb bs (hcol.lt bs rfl).2)).trans hcs,e1,e0⟩
   have HV:=kI (aI hul (aI huQ (aI hOB (aI hOBl hbnO))))
   clear hul cn0 hcs hx0l hbsl hu hcol hOB hOBl hbnO hbnD
   go_wp2_with fail
   go_loopg [8,9] qc (fun nn s8 s9 wi=>∃(k:Nat) (b:Bool),s9 = .int .i64 (k:Nat)∧k≤qc∧qc≤k+nn∧s8 = .bool b∧(b=true↔cc u∈C.take k)∧Below wo.heap.size wo wi)
   case atStart=>exact ⟨0,false,rfl,Nat.zero_le _,by omega,rfl,by simp,Below.refl _ _⟩
   case round=>
    obtain ⟨k,b,rfl,hk,hkn,rfl,hbk,hbw⟩:=hrel
    have HKB:=kI (aI hbk (aI hbw hkn))
    clear hbk hbw hkn
    obtain ⟨y0,y1,y2,_⟩:=FX.out wr (Else.of_below HKB.out.2.1)
    by_cases hkl:k<qc
    ·have g1:decide ((k:Int)<(qc:Int))=true:=decide_eq_true (by omega)
     have g2:decide (k<qc)=true:=decide_eq_true hkl
     obtain ⟨d,hd⟩:∃d,C[k]? = some d:=⟨_,List.getElem?_eq_getElem (by rw [HQ.out.1];exact hkl)⟩
     obtain ⟨bo,co_,hsh2,_,hbo⟩:=Un.own_shape HI.out.1 (by rw [HQ.out.1];omega)
     injection hsh2 with hA1 hA2 hcc1
     subst hA1
     clear hA2 hcc1
     have y3:wr.cell? ⟨bo,k,none⟩=some (.int .i64 (d:Nat)):=(HKB.out.2.1.cell (p:=⟨bo,k,none⟩) hbo).trans ((HI.out.1.cellAt k (by have:=HQ.out.1;omega)).trans (nums_get hd))
     have hstep:∀b',(b'=true↔(b=true∨d=cc u))→(b'=true↔cc u∈C.take (k+1)):=fun b' h=>by
      rw [h,HKB.out.1,List.take_add_one,hd]
      simp [eq_comm]
     have HST:=kI (aI hstep hkl)
     clear hstep hd hbo
     cases b with
     | true=>
      go_wp2_with fail
      go_quiet (fail)
      go_wp2_with fail
      go_roundg (qc-(k+1))
      case rel=>exact ⟨k+1,true,by go_num,HST.out.2,by omega,rfl,HST.out.1 true (by simp),HKB.out.2.1.trans ⟨rfl,rfl,rfl,Nat.le_refl _,fun _ _=>rfl⟩⟩
      case measure=>have h1:=HKB.out.2.2;have h2:=HST.out.2;omega
     | false=>
      by_cases hdc:d=cc u
      ·have g3:((d:Int) == (cc u:Int))=true:=by rw [hdc];simp
       have g4:(d == cc u)=true:=by rw [hdc];simp
       have HDC:=kI hdc
       clear hdc
       go_wp2_with fail
       go_quiet (fail)
       go_wp2_with fail
       go_roundg (qc-(k+1))
       case rel=>exact ⟨k+1,true,by go_num,HST.out.2,by omega,rfl,HST.out.1 true (by simp [HDC.out]),HKB.out.2.1.trans ⟨rfl,rfl,rfl,Nat.le_refl _,fun _ _=>rfl⟩⟩
       case measure=>have h1:=HKB.out.2.2;have h2:=HST.out.2;omega
      ·have g3:((d:Int) == (cc u:Int))=false:=by simp;omega
       have g4:(d == cc u)=false:=by simpa using hdc
       have HDC:=kI hdc
       clear hdc
       go_wp2_with fail
       go_quiet (fail)
       go_wp2_with fail
       go_roundg (qc-(k+1))
       case rel=>exact ⟨k+1,false,by go_num,HST.out.2,by omega,rfl,HST.out.1 false (by simp [HDC.out]),HKB.out.2.1.trans ⟨rfl,rfl,rfl,Nat.le_refl _,fun _ _=>rfl⟩⟩
       case measure=>have h1:=HKB.out.2.2;have h2:=HST.out.2;omega
    ·have g1:decide ((k:Int)<(qc:Int))=false:=decide_eq_false (by omega)
     have g2:decide (k<qc)=false:=decide_eq_false hkl
     have hbk:b=true↔cc u∈C:=by
      have h1:=HKB.out.1
      rw [List.take_of_length_le (by have:=HQ.out.1;omega)] at h1
      exact h1
     have hwr:=HKB.out.2.1
     have HBK:=kI hbk
     clear hbk hkl hk
     cases b with
     | true=>
      go_wp2_with fail
      go_roundg (8*(1+G.length)+1-(n+1))
      case rel=>
       refine ⟨C,N,n+1,by go_num,?_,?_,HI.out.2.2.1.skip (by rw [HQ.out.2];exact HU.out.2) HU.out.1 (HBK.out.1 (by trivial)),by omega,HI.out.2.2.2.2.1.trans (hwr.mono HI.out.2.2.2.2.1.size)⟩
       ·rw [←HQ.out.1];exact own_below HI.out.1 hwr
       ·rw [←HQ.out.1,←HQ.out.2];exact HI.out.2.1.to hwr.size fun b _ hlt=>hwr.block b hlt
      case measure=>have h1:=HI.out.2.2.2.1;have h2:=HI.out.2.2.2.2.2.2;have h3:=HI.out.2.2.2.2.2.1;have h4:=HU.out.2;have h5:=HQ.out.2;omega
     | false=>
      have hnc:cc u ∉ C:=fun h=>by have:=HBK.out.2 h;cases this
      have HNC:=kI hnc
      clear hnc
      go_wp2_with fail
      obtain ⟨v5,w5,hrun5,ho5,hg5,hat5⟩:=app_part wr.drew w0.heap.size (.slice Ac C.length cc_) C (own_below HI.out.1 (hwr.trans ((Below.refl _ wr).drew.mono hwr.size))) (by have:=HQ.out.1;omega) (Nat.le_trans HI.out.2.2.2.2.1.size hwr.size) (cc u)
      rw [HQ.out.1] at hrun5 hg5 hat5
      obtain ⟨A5,c5,rfl,_,_⟩:=Un.own_form ho5
      have hq5:(C ++ [cc u]).length=qc+1:=by rw [List.length_append,HQ.out.1];rfl
      rw [hq5] at hrun5 ho5 hat5
      have hOB:=HV.out.2.2.1
      have hE5:Else (fun k=>OB=some k) wr w5:=((Un.Else.drew (Else.refl _ _)).trans (Else.alloc _ _ _)).trans (Else.grown hg5 fun k hk=>by rw [←hOB];exact hk)
      have hEo:Else (fun k=>OB=some k) wo wr:=Else.of_below hwr
      have hS:Else (fun k=>OB=some k) wo wr.drew:=hEo.trans (Un.Else.drew (Else.refl _ _))
      have hSa:Else (fun k=>OB=some k) wo (wr.drew.alloc (.cells #[.int .i64 (cc u:Nat)] 3)):=hS.trans (Else.alloc _ _ _)
      have hS5:Else (fun k=>OB=some k) wo w5:=hEo.trans hE5
      have hnq:=HU.out.2
      have huQ:=HV.out.2.1
      refine wp_region_held (S:=(fun W=>Else (fun k=>OB=some k) wo W)) (by kernel_rfl) ?_
      change wpAnyH _ _ _ _ _ 12 (List.replicate 12 false).toArray _ wr.drew
      simp only [List.replicate_succ,List.replicate_zero]
      refine tj (i:=0) (some 43) (.slice Ac qc cc_) rfl hS ?_
      simp only [Act.put,zA,zB,zC]
      refine tj (i:=1) (some 44) (.pointer (some ⟨w.heap.size,1,none⟩)) rfl hS ?_
      simp only [Act.put,zA,zB,zC]
      refine tk (i:=2) (some 45) (.slice (some ⟨bs,0,none⟩) Q cs) rfl (fun W hw=>by obtain ⟨n0_,n1_,n2_,n3_⟩:=FX.out W hw;clear hw;go_simp) hS ?_
      simp only [Act.put,zA,zB,zC]
      refine tj (i:=3) (some 46) (.slice (some ⟨bn,offn,none⟩) qn cn) rfl hS ?_
      simp only [Act.put,zA,zB,zC]
      refine tj (i:=4) (some 47) (.int .i64 (n:Nat)) rfl hS ?_
      simp only [Act.put,zA,zB,zC]
      refine tj (i:=5) (some 48) (.pointer (some ⟨bn,offn+n,none⟩)) rfl hS ?_
      simp only [Act.put,zA,zB,zC]
      refine tk (i:=6) (some 49) (.int .i64 (u:Nat)) rfl (fun W hw=>by obtain ⟨n0_,n1_,n2_,n3_⟩:=FX.out W hw;clear hw;go_simp) hS ?_
      simp only [Act.put,zA,zB,zC]
      refine tj (i:=7) (some 50) (.pointer (some ⟨bs,u,none⟩)) rfl hS ?_
      simp only [Act.put,zA,zB,zC]
      refine tk (i:=8) (some 51) (.int .i64 (cc u:Nat)) rfl (fun W hw=>by obtain ⟨n0_,n1_,n2_,n3_⟩:=FX.out W hw;clear hw;go_simp) hS ?_
      simp only [Act.put,zA,zB,zC]
      refine aK 9 ?_
      refine ops_val (d:=some 52) (v:=.slice (some ⟨wr.drew.heap.size,0,none⟩) 1 1) (w':=wr.drew.alloc (.cells #[.int .i64 (cc u:Nat)] 3)) rfl (by rfl) (by kernel_rfl) (by clear hS hSa hS5 hE5 hEo;go_simp) hSa ?_
      simp only [Act.put,zA,zB,zC]
      refine aK 10 ?_
      refine ops_val (d:=some 53) (v:=.slice A5 (qc+1) c5) (w':=w5) rfl (by rfl) (by kernel_rfl) (exec_app (.tmp 43) (.tmp 52) 41 rfl hrun5 (by rfl) (by rfl)) hS5 ?_
      simp only [Act.put,zA,zB,zC]
      refine tj (i:=11) (some 5) (.slice A5 (qc+1) c5) rfl hS5 ?_
      simp only [Act.put,zA,zB,zC]
      refine wpAnyH_done (by kernel_rfl) ?_ _
      have hbl5:Below w0.heap.size w0 w5:=HI.out.2.2.2.2.1.trans (hS5.below (fun k hk=>HV.out.2.2.2.1 k hk) HI.out.2.2.2.2.1.size)
      have hN5:RdD (fun b=>(Value.slice A5 (qc+1) c5).ownBlock≠some b) w5 1 (.slice (some ⟨bn,offn,none⟩) N.length cn) N.length (nums N):=by
       have h1:=HI.out.2.1
       rw [HQ.out.1,hOB] at h1
       refine (h1.imp (D':=fun b=>OB≠some b∧b<wo.heap.size) fun b hb hd=>⟨hd,hb⟩).to hS5.size (fun b hd hlt=>hS5.block b hlt fun e=>hd.1 e) |>.imp fun b _ hd e=>?_
       rcases hat5 with h2|h2
       ·rw [h2,hOB] at e
        exact hd.1 e
       ·rw [h2] at e
        injection e with e
        have h3:=hwr.size
        have h4:wr.drew.heap.size=wr.heap.size:=rfl
        have h5:=hd.2
        omega
      have hbn5:bn<w5.heap.size:=Nat.lt_of_lt_of_le hbn hS5.size
      have hy:=FX.out w5 hS5
      have H5:=kI (aI ho5 (aI hbl5 (aI hN5 (aI hq5 (aI hbn5 hy)))))
      clear hrun5 ho5 hg5 hat5 hE5 hEo hS hSa hS5 hbl5 hN5 hOB hq5 hnq huQ hbn5 hy y0 y1 y2 f1 f2
      go_wp2_with fail
      have hb5:=H5.out.2.1
      have hAn5:=HAN.out w5 hb5
      obtain ⟨wa,hwa⟩:∃wa,w5.drew.alloc (.cells #[] 3)=wa:=⟨_,rfl⟩
      have hba:Below w5.heap.size w5 wa:=by rw [←hwa];exact (Below.refl _ _).drew.alloc (Nat.le_refl _) _
      have howa:wa.ownsRow w5.heap.size 3 1 (.slice (some ⟨w5.drew.heap.size,0,none⟩) 0 0) ([]:List Int).length (ints []):=by rw [←hwa];exact own_none_yet w5.drew w5.heap.size (Nat.le_refl _) _ _
      have hNa:Rd wa 1 (.slice (some ⟨bn,offn,none⟩) N.length cn) (toI N).length (ints (toI N)):=by rw [toI_len];exact H5.out.2.2.1.1.below hba
      obtain ⟨vb,wb,hrunb,hob,hbb,-,hgb,hatb⟩:=app_int wa w5.heap.size _ [] howa _ (toI N) hNa (by rw [toI_len];have:=HQ.out.2;simp;omega) hba.size
      rw [List.nil_append,toI_len] at hob
      obtain ⟨Ab,cb_,rfl,_,_⟩:=Un.own_form hob
      have hbb5:Below w5.heap.size w5 wb:=hba.trans hbb
      have HNX:=kI (next_any (HAN.out wb (hb5.trans (hbb5.mono hb5.size))) (by have:=H.out.2.2.2.2.1;omega) HV.out.1.1)
      rw [HQ.out.2] at hrunb hob
      have EX:Hid (∀W,Below w5.heap.size w5 W→W.cell? ⟨bn,offn+n,none⟩=some (.int .i64 (u:Nat))∧W.cell? ⟨w.heap.size,0,none⟩=some (.slice Am Q cm)∧W.cell? ⟨w.heap.size,1,none⟩=some (.slice (some ⟨bs,0,none⟩) Q cs)):=kI fun W hW=>by
       obtain ⟨e0,e1,e2,e3⟩:=H5.out.2.2.2.2.2
       have hl:w.heap.size<w5.heap.size:=Nat.lt_of_lt_of_le (gL H.out.2.2.1).1 hb5.size
       exact ⟨(hW.cell (p:=⟨bn,offn+n,none⟩) H5.out.2.2.2.2.1).trans e0,(hW.cell (p:=⟨w.heap.size,0,none⟩) hl).trans e3,(hW.cell (p:=⟨w.heap.size,1,none⟩) hl).trans e2⟩
      have hS:Below w5.heap.size w5 w5.drew:=(Below.refl _ _).drew
      have hnq:=HU.out.2
      refine wp_region_held (S:=(fun W=>Below w5.heap.size w5 W)) (by kernel_rfl) ?_
      change wpAnyH _ _ _ _ _ 11 (List.replicate 11 false).toArray _ w5.drew
      simp only [List.replicate_succ,List.replicate_zero]
      refine tj (i:=1) (some 55) (.slice (some ⟨bn,offn,none⟩) qn cn) rfl hS ?_
      simp only [Act.put,zA,zB,zC]
      refine tk (i:=3) (some 57) (.agg #[.slice Am Q cm,.slice (some ⟨bs,0,none⟩) Q cs]) rfl (fun W hw=>by obtain ⟨n0_,n1_,n2_⟩:=EX.out W hw;clear hw;go_simp) hS ?_
      simp only [Act.put,zA,zB,zC]
      refine tj (i:=4) (some 58) (.slice (some ⟨bn,offn,none⟩) qn cn) rfl hS ?_
      simp only [Act.put,zA,zB,zC]
      refine tj (i:=5) (some 59) (.int .i64 (n:Nat)) rfl hS ?_
      simp only [Act.put,zA,zB,zC]
      refine tj (i:=6) (some 60) (.pointer (some ⟨bn,offn+n,none⟩)) rfl hS ?_
      simp only [Act.put,zA,zB,zC]
      refine tk (i:=7) (some 61) (.int .i64 (u:Nat)) rfl (fun W hw=>by obtain ⟨n0_,n1_,n2_⟩:=EX.out W hw;clear hw;go_simp) hS ?_
      simp only [Act.put,zA,zB,zC]
      refine aK 0 ?_
      refine ops_val (d:=some 54) (v:=.slice (some ⟨w5.drew.heap.size,0,none⟩) 0 0) (w':=wa) rfl (by rfl) (by kernel_rfl) (by rw [←hwa];clear hS hba hbb hbb5 howa hNa hob EX;go_simp) hba ?_
      simp only [Act.put,zA,zB,zC]
      refine aK 2 ?_
      refine ops_val (d:=some 56) (v:=.slice Ab qn cb_) (w':=wb) rfl (by rfl) (by kernel_rfl) (exec_app (.tmp 54) (.tmp 55) 41 rfl hrunb (by rfl) (by rfl)) hbb5 ?_
      simp only [Act.put,zA,zB,zC]
      refine aK 8 ?_
      refine ops_call (d:=some 62) rfl (by rfl) (by kernel_rfl) (by go_simp) (HNX.out.mono ?_)
      rintro y wc ⟨⟨vP,P,rfl,hrP,hnP⟩,hbc⟩
      have hbc5:Below w5.heap.size w5 wc:=hbb5.trans (hbc.mono hbb5.size)
      clear HNX
      refine ⟨_,rfl,hbc5,?_⟩
      simp only [Act.put,zA,zB,zC]
      have hobc:=own_below hob hbc
      obtain ⟨AP,cP,rfl⟩:=hrP.form
      have hobc':wc.ownsRow w5.heap.size 3 1 (.slice Ab qn cb_) (toI N).length (ints (toI N)):=by rw [toI_len,HQ.out.2];exact hobc
      have hrP':Rd wc 1 (.slice AP P.length cP) (toI P).length (ints (toI P)):=by rw [toI_len];exact hrP.1
      have hp8:P.length≤100000:=by
       have:=(H.out.2.2.2.2.2.2.2.1)
       rcases hnP with ⟨k,p,h1,_,_,rfl⟩|⟨_,rfl⟩
       ·have:=(this p (List.mem_of_getElem? h1)).1;omega
       ·simp
      obtain ⟨vd,wd,hrund,hod,hbd,-,hgd,hatd⟩:=app_int wc w5.heap.size _ (toI N) hobc' _ (toI P) hrP' (by rw [toI_len,toI_len];have:=HQ.out.2;omega) hbc5.size
      have hod':wd.ownsRow w5.heap.size 3 1 vd (N++P).length (nums (N++P)):=by
       have e:toI N++toI P=toI (N++P):=by simp [toI]
       rw [e,toI_len] at hod
       exact hod
      obtain ⟨Ad,cd,rfl,_,_⟩:=Un.own_form hod'
      have hbd5:Below w5.heap.size w5 wd:=hbc5.trans hbd
      refine aK 9 ?_
      refine ops_val (d:=some 63) (v:=.slice Ad (N++P).length cd) (w':=wd) rfl (by rfl) (by kernel_rfl) (exec_app (.tmp 56) (.tmp 62) 41 rfl hrund (by rfl) (by rfl)) hbd5 ?_
      simp only [Act.put,zA,zB,zC]
      refine tj (i:=10) (some 6) (.slice Ad (N++P).length cd) rfl hbd5 ?_
      simp only [Act.put,zA,zB,zC]
      refine wpAnyH_done (by kernel_rfl) ?_ _
      have H9:=kI (aI hod' (aI hbd5 hnP))
      clear hS hba hbb hbb5 hbc hbc5 howa hNa hob hobc hobc' hrP hrP' hod hod' hbd hbd5 hgd hatd hgb hatb hrunb hrund EX hnP hwa hnq hb5 hAn5 hp8
      obtain ⟨qd,hqd⟩:∃q,(N++P).length=q:=⟨_,rfl⟩
      rw [hqd]
      have HQD:=kI hqd
      clear hqd
      go_wp2_with fail
      go_roundg (8*(1+G.length)+1-(n+1))
      case rel=>
       have hA5:=H5.out.1
       refine ⟨C ++ [cc u],N++P,n+1,by go_num,?_,?_,HI.out.2.2.1.take H.out.2.2.2.2.2.2.1 H.out.2.2.2.2.2.2.2.1 (by rw [HQ.out.2];exact HU.out.2) HU.out.1 HNC.out H9.out.2.2,by omega,H5.out.2.1.trans (H9.out.2.1.mono H5.out.2.1.size)⟩
       ·rw [H5.out.2.2.2.1];exact own_below hA5 H9.out.2.1
       ·rw [←HQD.out]
        refine RdD.of_own H9.out.1 fun b hb e=>?_
        have h1:=(hA5.lt b e).2
        omega
      case measure=>have h1:=HI.out.2.2.2.1;have h2:=HI.out.2.2.2.2.2.2;have h3:=HI.out.2.2.2.2.2.1;have h4:=HU.out.2;have h5:=HQ.out.2;omega
  ·have f1:decide ((n:Int)<(qn:Int))=false:=decide_eq_false (by omega)
   have f2:decide (n<qn)=false:=decide_eq_false hlt
   have hne:n=N.length:=by have:=HQ.out.2;omega
   have HNE:=kI hne
   clear hne
   go_wp2_with fail
   refine bodyPost_ret (results_tmp rfl _ _ _) rfl ⟨_,C,rfl,?_,HI.out.2.2.1.end_ HNE.out,HI.out.2.2.2.2.2.1,H.out.2.1.trans (HI.out.2.2.2.2.1.mono H.out.2.1.size)⟩
   rw [←HQ.out.1]
   exact own_mono HI.out.1 H.out.2.1.size
end CyWs
end
section
open Go.RowKit
open Un (rowI rowI_get Else own_else wp_world)
attribute [local go_sem] Oper.semAt_some
set_option maxRecDepth 100000
section CyRs
variable {D:Nat→Prop}{B:Nat}{vm vs:Value}{M:List Rm}{G:List Gn}{cc:Nat→Nat}{col ro:Nat→Nat}{kn:Kn}{E:List (Nat×Nat)}{R1 R2:Nat→Prop}{v1 v2:Nat→Int}
theorem NextIs.few (hg:Gp G) {i:Nat}{P:List Nat}(h:NextIs G cc i P):P.length≤8:=by
 rcases h with ⟨k,p,h1,_,_,rfl⟩|⟨_,rfl⟩
 ·exact (hg p (List.mem_of_getElem? h1)).1
 ·simp
end CyRs
end
section
abbrev Tp:=Int×Int×Fo
def tpRow:List Tp→Fo
 | []=>.nil
 | x :: l=>.cons x.1 x.2.1 (none,0,0) x.2.2 (tpRow l)
def Hd (G:List Gn) (cc:Nat→Nat) (c:Nat) (x:Nat×Gn):Prop:=G[x.1]? = some x.2∧cc x.1=c∧x.2.1≠1
noncomputable def meanA (G:List Gn) (cc:Nat→Nat) (lv:Nat→Int) {c:Nat} (h:AccC G cc c):Tp:=
 Acc.rec (motive:=fun _ _=>Tp) (fun c _ ih=>
  @dite Tp (∃x,Hd G cc c x) (Classical.propDecidable _)
   (fun hk=>((Classical.choose hk).2.1,0,tpRow ((Classical.choose hk).2.2.2.2.attach.map fun u=>ih (cc u.1) ⟨(Classical.choose hk).1,(Classical.choose hk).2,u.1,(Classical.choose_spec hk).1,(Classical.choose_spec hk).2.1,(Classical.choose_spec hk).2.2,u.2,rfl⟩)))
   (fun _=>(1,lv c,.nil))) h
noncomputable def meanC (G:List Gn) (cc:Nat→Nat) (lv:Nat→Int) (c:Nat):Tp:=@dite Tp (AccC G cc c) (Classical.propDecidable _) (fun h=>meanA G cc lv h) (fun _=>(1,0,.nil))
section SoAs
variable {G:List Gn}{cc col ro:Nat→Nat}{kn:Kn}{E:List (Nat×Nat)}{lv:Nat→Int}{c i j:Nat}
theorem meanC_acc (h:AccC G cc c):meanC G cc lv c=meanA G cc lv h:=by
 exact @dif_pos _ (Classical.propDecidable _) h _ _ _
theorem mean_head (h:AccC G cc c) (hk:∃x,Hd G cc c x):∃x,Hd G cc c x∧meanC G cc lv c=(x.2.1,0,tpRow (x.2.2.2.2.map fun u=>meanC G cc lv (cc u))):=by
 refine ⟨Classical.choose hk,Classical.choose_spec hk,?_⟩
 rw [meanC_acc h]
 cases h with
 | intro _ hacc=>
  refine (@dif_pos _ (Classical.propDecidable _) hk _ _ _).trans ?_
  congr 3
  rw [←List.attach_map_val (l:=(Classical.choose hk).2.2.2.2)]
  refine List.map_congr_left fun u _=>?_
  exact (meanC_acc (hacc (cc u.1) ⟨(Classical.choose hk).1,(Classical.choose hk).2,u.1,(Classical.choose_spec hk).1,(Classical.choose_spec hk).2.1,(Classical.choose_spec hk).2.2,u.2,rfl⟩)).symm
theorem mean_var (h:AccC G cc c) (hk:¬ ∃x,Hd G cc c x):meanC G cc lv c=(1,lv c,.nil):=by
 rw [meanC_acc h]
 cases h with
 | intro _ hacc=>
  exact @dif_neg _ (Classical.propDecidable _) hk _ _ _
theorem mean_node (hB:Both G col ro kn E cc) (h:AccC G cc c) {k:Nat}{p:Gn}(hp:G[k]? = some p) (hc:cc k=c) (p1:p.1≠1):meanC G cc lv c=(p.1,0,tpRow (p.2.2.2.map fun u=>meanC G cc lv (cc u))):=by
 obtain ⟨⟨z,q⟩,⟨hq,hz,q1⟩,he⟩:=mean_head (lv:=lv) h ⟨(k,p),hp,hc,p1⟩
 have hcl:=(hB.cl (lt_of_get hq) (lt_of_get hp)).2 (hz.trans hc.symm)
 have hf:Fit q p:=Classical.byContradiction fun hf=>hB.nc ⟨z,k,q,p,hcl,hq,hp,q1,p1,hf⟩
 rw [he]
 have hk:q.1=p.1:=hf.1
 have hl:q.2.2.2.length=p.2.2.2.length:=hf.2
 show (q.1,(0:Int),tpRow (q.2.2.2.map _))=_
 rw [hk]
 congr 3
 refine List.ext_getElem (by simpa using hl) fun t h1 h2=>?_
 simp only [List.getElem_map]
 congr 1
 rw [List.length_map] at h1 h2
 exact hB.hc z k q p hq hp (hz.trans hc.symm) q1 hf.1 hf.2 t _ _ (List.getElem?_eq_getElem h1) (List.getElem?_eq_getElem h2)
end SoAs
end
section
def sb (s:Int→Tp):Fo→Fo
 | .nil=>.nil
 | .cons k n _ ps r=>.cons (if k=1 then s n else (k,n,sb s ps)).1 (if k=1 then s n else (k,n,sb s ps)).2.1 (none,0,0) (if k=1 then s n else (k,n,sb s ps)).2.2 (sb s r)
def Nf (G:List Gn):Fo→List Nat→Prop
 | .nil,P=>P=[]
 | .cons k n _ ps r,P=>∃u P',P=u :: P'∧(if k=1 then gvar G n=some u else ∃p,G[u]? = some p∧p.1=k∧Nf G ps p.2.2.2)∧Nf G r P'
def nz:Fo→Prop
 | .nil=>True
 | .cons k n _ ps r=>(k≠1→n=0)∧nz ps∧nz r
section SoBs
variable {G X:List Gn}{cc col ro:Nat→Nat}{kn:Kn}{E:List (Nat×Nat)}{lv:Nat→Int}
theorem gvar_app2 {v:Int}{i:Nat}:gvar G v=some i→gvar (G++X) v=some i:=by
 induction G generalizing i with
 | nil=>intro h;cases h
 | cons x G ih=>
  intro h
  simp only [gvar,List.cons_append] at h ⊢
  split at h
  ·rw [if_pos (by assumption)];exact h
  ·rw [if_neg (by assumption)]
   obtain ⟨k,hk,rfl⟩:=Option.map_eq_some_iff.1 h
   rw [ih hk]
   rfl
theorem Nf.app (F:Fo):∀P,Nf G F P→Nf (G++X) F P:=by
 induction F with
 | nil=>intro P h;exact h
 | cons k n u ps r i1 i2=>
  rintro P ⟨a,P',rfl,h1,h2⟩
  refine ⟨a,P',rfl,?_,i2 _ h2⟩
  by_cases hk:k=1
  ·rw [if_pos hk] at h1 ⊢
   exact gvar_app2 h1
  ·rw [if_neg hk] at h1 ⊢
   obtain ⟨p,h3,h4,h5⟩:=h1
   exact ⟨p,by rw [List.getElem?_append_left (lt_of_get h3)];exact h3,h4,i1 _ h5⟩
theorem gnode_nf {k n:Int}{P:List Nat}{ps:Fo}(h:Nf G ps P):∃Y,(gnode G k n P).1=G++Y∧(if k=1 then gvar (gnode G k n P).1 n=some (gnode G k n P).2 else ∃p,(gnode G k n P).1[(gnode G k n P).2]? = some p∧p.1=k∧Nf (gnode G k n P).1 ps p.2.2.2):=by
 unfold gnode
 by_cases hk:k=1
 ·rw [if_pos hk]
  cases hg:gvar G n with
  | some i=>exact ⟨[],by simp,by rw [if_pos hk];exact hg⟩
  | none=>
   refine ⟨_,rfl,?_⟩
   rw [if_pos hk,gvar_snoc,hg]
   simp [hk]
 ·rw [if_neg hk]
  refine ⟨_,rfl,?_⟩
  rw [if_neg hk]
  exact ⟨(k,n,1+gsum G P,P),by simp,rfl,Nf.app ps P h⟩
theorem gadd_nf (F:Fo):∀G:List Gn,∃Y,(gadd G F).1=G++Y∧Nf (gadd G F).1 F (gadd G F).2:=by
 induction F with
 | nil=>intro G;exact ⟨[],by rw [gadd_nil];simp,by rw [gadd_nil];rfl⟩
 | cons k n u ps r i1 i2=>
  intro G
  obtain ⟨Y1,e1,h1⟩:=i1 G
  obtain ⟨Y2,e2,h2⟩:=gnode_nf (k:=k) (n:=n) h1
  rw [←gadd1_eq] at e2 h2
  obtain ⟨Y3,e3,h3⟩:=i2 (gadd1 G k n ps).1
  rw [gadd_cons]
  refine ⟨Y1++Y2++Y3,by show (gadd (gadd1 G k n ps).1 r).1=_;rw [e3,e2,e1];simp,?_⟩
  refine ⟨_,_,rfl,?_,h3⟩
  show if k=1 then gvar (gadd (gadd1 G k n ps).1 r).1 n=some _ else ∃p:Gn,(gadd (gadd1 G k n ps).1 r).1[_]? = some p∧p.1=k∧Nf (gadd (gadd1 G k n ps).1 r).1 ps p.2.2.2
  rw [e3]
  by_cases hk:k=1
  ·rw [if_pos hk] at h2 ⊢
   exact gvar_app2 h2
  ·rw [if_neg hk] at h2 ⊢
   obtain ⟨p,h4,h5,h6⟩:=h2
   exact ⟨p,by rw [List.getElem?_append_left (lt_of_get h4)];exact h4,h5,h6.app _ _⟩
noncomputable def meanV (G:List Gn) (cc:Nat→Nat) (lv:Nat→Int) (n:Int):Tp:=match gvar G n with
 | some i=>meanC G cc lv (cc i)
 | none=>(1,n,.nil)
theorem sb_nf (hB:Both G col ro kn E cc) (ha:∀i,i<G.length→AccC G cc (cc i)) (F:Fo):∀P,Nf G F P→nz F→sb (meanV G cc lv) F=tpRow (P.map fun u=>meanC G cc lv (cc u)):=by
 induction F with
 | nil=>rintro P rfl _;rfl
 | cons k n v ps r i1 i2=>
  rintro P ⟨u,P',rfl,h1,h2⟩ ⟨z1,z2,z3⟩
  have hx:(if k=1 then meanV G cc lv n else (k,n,sb (meanV G cc lv) ps))=meanC G cc lv (cc u):=by
   by_cases hk:k=1
   ·rw [if_pos hk] at h1 ⊢
    unfold meanV
    rw [h1]
   ·rw [if_neg hk] at h1 ⊢
    obtain ⟨p,h3,h4,h5⟩:=h1
    rw [mean_node hB (ha u (lt_of_get h3)) h3 rfl (by rw [h4];exact hk),i1 _ h5 z2,h4,z1 hk]
  show Fo.cons _ _ _ _ _=_
  rw [hx,i2 _ h2 z3]
  rfl
end SoBs
end
section
def tOne (t:Ty1):Fo:=.cons t.1 t.2.1 t.2.2.1 t.2.2.2 .nil
section SoCs
variable {G X:List Gn}{cc col ro:Nat→Nat}{kn:Kn}{E:List (Nat×Nat)}{lv:Nat→Int}
theorem gadd1_nf (G:List Gn) (t:Ty1):∃Y,(gadd1 G t.1 t.2.1 t.2.2.2).1=G++Y∧Nf (gadd1 G t.1 t.2.1 t.2.2.2).1 (tOne t) [(gadd1 G t.1 t.2.1 t.2.2.2).2]:=by
 obtain ⟨Y,h1,h2⟩:=gadd_nf (tOne t) G
 unfold tOne at h1 h2
 rw [gadd_cons,gadd_nil] at h1 h2
 exact ⟨Y,h1,h2⟩
theorem fold_nodes (L:List Eqn):∀s:Sys,∃Y Z,(L.foldl stp s).1=s.1++Y∧(L.foldl stp s).2=s.2++Z∧∀x∈L,∃a b,(a,b)∈(L.foldl stp s).2∧Nf (L.foldl stp s).1 (tOne x.1) [a]∧Nf (L.foldl stp s).1 (tOne x.2.1) [b]:=by
 induction L with
 | nil=>intro s;exact ⟨[],[],by simp,by simp,fun x hx=>by cases hx⟩
 | cons x L ih=>
  intro s
  obtain ⟨Y,Z,h1,h2,h3⟩:=ih (stp s x)
  obtain ⟨Y1,e1,n1⟩:=gadd1_nf s.1 x.1
  obtain ⟨Y2,e2,n2⟩:=gadd1_nf (gadd1 s.1 x.1.1 x.1.2.1 x.1.2.2.2).1 x.2.1
  have hs1:(stp s x).1=(gadd1 (gadd1 s.1 x.1.1 x.1.2.1 x.1.2.2.2).1 x.2.1.1 x.2.1.2.1 x.2.1.2.2.2).1:=rfl
  have hs2:(stp s x).2=s.2 ++ [((gadd1 s.1 x.1.1 x.1.2.1 x.1.2.2.2).2,(gadd1 (gadd1 s.1 x.1.1 x.1.2.1 x.1.2.2.2).1 x.2.1.1 x.2.1.2.1 x.2.1.2.2.2).2)]:=rfl
  rw [List.foldl_cons]
  refine ⟨Y1++Y2++Y,[((gadd1 s.1 x.1.1 x.1.2.1 x.1.2.2.2).2,(gadd1 (gadd1 s.1 x.1.1 x.1.2.1 x.1.2.2.2).1 x.2.1.1 x.2.1.2.1 x.2.1.2.2.2).2)]++Z,?_,?_,?_⟩
  ·rw [h1,hs1,e2,e1];simp
  ·rw [h2,hs2];simp
  ·intro y hy
   rcases List.mem_cons.1 hy with rfl|hy
   ·refine ⟨(gadd1 s.1 y.1.1 y.1.2.1 y.1.2.2.2).2,(gadd1 (gadd1 s.1 y.1.1 y.1.2.1 y.1.2.2.2).1 y.2.1.1 y.2.1.2.1 y.2.1.2.2.2).2,?_,?_,?_⟩
    ·rw [h2,hs2];simp
    ·rw [h1,hs1,e2]
     exact ((n1.app _ _).app _ _)
    ·rw [h1,hs1]
     exact n2.app _ _
   ·exact h3 y hy
theorem cls_nodes (L:List Eqn):∀x∈L,∃a b,(a,b)∈(cls L).2∧Nf (cls L).1 (tOne x.1) [a]∧Nf (cls L).1 (tOne x.2.1) [b]:=by
 obtain ⟨_,_,_,_,h⟩:=fold_nodes L ([],[])
 exact h
theorem mean_solves (L:List Eqn) (hB:Both (cls L).1 col ro kn (cls L).2 cc) (ha:∀i,i<(cls L).1.length→AccC (cls L).1 cc (cc i)) (hz:∀x∈L,nz (tOne x.1)∧nz (tOne x.2.1)):∀x∈L,sb (meanV (cls L).1 cc lv) (tOne x.1)=sb (meanV (cls L).1 cc lv) (tOne x.2.1):=by
 intro x hx
 obtain ⟨a,b,hE,h1,h2⟩:=cls_nodes L x hx
 rw [sb_nf hB ha _ _ h1 (hz x hx).1,sb_nf hB ha _ _ h2 (hz x hx).2]
 have hab:=(hB.he a b hE).2.2
 simp only [List.map_cons,List.map_nil,hab]
def valN (s:Int→Tp) (G:List Gn):Nat→Nat→Tp
 | 0,_=>(1,0,.nil)
 | f+1,i=>match G[i]? with
  | none=>(1,0,.nil)
  | some p=>if p.1=1 then s p.2.1 else (p.1,0,tpRow (p.2.2.2.map (valN s G f)))
theorem valN_more (s:Int→Tp) (hl:GL G):∀i f f',i<f→i<f'→valN s G f i=valN s G f' i:=by
 intro i
 induction i using Nat.strongRecOn with
 | ind i ih=>
  intro f f' h1 h2
  obtain ⟨f,rfl⟩:∃g,f=g+1:=⟨f-1,by omega⟩
  obtain ⟨f',rfl⟩:∃g,f'=g+1:=⟨f'-1,by omega⟩
  unfold valN
  cases hp:G[i]? with
  | none=>rfl
  | some p=>
   dsimp only
   split
   ·rfl
   ·congr 3
    refine List.map_congr_left fun u hu=>?_
    have hlt:=hl i p hp u hu
    exact ih u hlt _ _ (by omega) (by omega)
def valG (s:Int→Tp) (G:List Gn) (i:Nat):Tp:=valN s G (i+1) i
theorem valG_var (s:Int→Tp) {i:Nat}{p:Gn}(hp:G[i]? = some p) (p1:p.1=1):valG s G i=s p.2.1:=by
 unfold valG valN
 rw [hp]
 dsimp only
 rw [if_pos p1]
theorem valG_node (s:Int→Tp) (hl:GL G) {i:Nat}{p:Gn}(hp:G[i]? = some p) (p1:p.1≠1):valG s G i=(p.1,0,tpRow (p.2.2.2.map (valG s G))):=by
 unfold valG
 rw [valN,hp]
 dsimp only
 rw [if_neg p1]
 congr 3
 refine List.map_congr_left fun u hu=>?_
 have hlt:=hl i p hp u hu
 exact valN_more s hl u _ _ (by omega) (by omega)
theorem sb_val (s:Int→Tp) (hl:GL G) (hg:∀(v:Int) (i:Nat),gvar G v=some i→∃p,G[i]? = some p∧p.1=1∧p.2.1=v) (F:Fo):∀P,Nf G F P→nz F→sb s F=tpRow (P.map (valG s G)):=by
 induction F with
 | nil=>rintro P rfl _;rfl
 | cons k n v ps r i1 i2=>
  rintro P ⟨u,P',rfl,h1,h2⟩ ⟨z1,z2,z3⟩
  have hx:(if k=1 then s n else (k,n,sb s ps))=valG s G u:=by
   by_cases hk:k=1
   ·rw [if_pos hk] at h1 ⊢
    obtain ⟨p,hp,p1,hpn⟩:=hg n u h1
    rw [valG_var s hp p1,hpn]
   ·rw [if_neg hk] at h1 ⊢
    obtain ⟨p,h3,h4,h5⟩:=h1
    rw [valG_node s hl h3 (by rw [h4];exact hk),i1 _ h5 z2,h4,z1 hk]
  show Fo.cons _ _ _ _ _=_
  rw [hx,i2 _ h2 z3]
  rfl
end SoCs
end
section
def sbT (s:Int→Tp) (x:Tp):Tp:=if x.1=1 then s x.2.1 else (x.1,x.2.1,sb s x.2.2)
def tsz (x:Tp):Nat:=1+x.2.2.size
section SoDs
variable {G X:List Gn}{cc col ro:Nat→Nat}{kn:Kn}{E:List (Nat×Nat)}{lv:Nat→Int}
theorem sb_row (s:Int→Tp) (l:List Tp):sb s (tpRow l)=tpRow (l.map (sbT s)):=by
 induction l with
 | nil=>rfl
 | cons x l ih=>
  show Fo.cons _ _ _ _ _=_
  rw [ih]
  rfl
theorem tpRow_inj:∀l m:List Tp,tpRow l=tpRow m→l=m:=by
 intro l
 induction l with
 | nil=>
  intro m h
  cases m with
  | nil=>rfl
  | cons y m=>cases h
 | cons x l ih=>
  intro m h
  cases m with
  | nil=>cases h
  | cons y m=>
   simp only [tpRow,Fo.cons.injEq] at h
   obtain ⟨h1,h2,_,h3,h4⟩:=h
   rw [ih m h4,show x=y from Prod.ext h1 (Prod.ext h2 h3)]
theorem tpRow_size (l:List Tp):(∀x∈l,tsz x≤(tpRow l).size):=by
 induction l with
 | nil=>intro x hx;cases hx
 | cons y l ih=>
  intro x hx
  simp only [tpRow,Fo.size]
  rcases List.mem_cons.1 hx with rfl|hx
  ·unfold tsz;omega
  ·have:=ih x hx;omega
theorem fold_pairs (L:List Eqn):∀s:Sys,∀a b,(a,b)∈(L.foldl stp s).2→(a,b)∈s.2∨∃x∈L,Nf (L.foldl stp s).1 (tOne x.1) [a]∧Nf (L.foldl stp s).1 (tOne x.2.1) [b]:=by
 induction L with
 | nil=>intro s a b h;exact .inl h
 | cons x L ih=>
  intro s a b h
  rw [List.foldl_cons] at h ⊢
  obtain ⟨Y,_,hY,_,_⟩:=fold_nodes L (stp s x)
  rcases ih (stp s x) a b h with h|⟨y,hy,h⟩
  ·have hs2:(stp s x).2=s.2 ++ [((gadd1 s.1 x.1.1 x.1.2.1 x.1.2.2.2).2,(gadd1 (gadd1 s.1 x.1.1 x.1.2.1 x.1.2.2.2).1 x.2.1.1 x.2.1.2.1 x.2.1.2.2.2).2)]:=rfl
   rw [hs2] at h
   rcases List.mem_append.1 h with h|h
   ·exact .inl h
   ·refine .inr ⟨x,List.mem_cons_self,?_⟩
    obtain ⟨h1,h2⟩:=Prod.mk.inj (List.mem_singleton.1 h)
    obtain ⟨Y1,e1,n1⟩:=gadd1_nf s.1 x.1
    obtain ⟨Y2,e2,n2⟩:=gadd1_nf (gadd1 s.1 x.1.1 x.1.2.1 x.1.2.2.2).1 x.2.1
    have hs1:(stp s x).1=(gadd1 (gadd1 s.1 x.1.1 x.1.2.1 x.1.2.2.2).1 x.2.1.1 x.2.1.2.1 x.2.1.2.2.2).1:=rfl
    rw [hY,hs1,h1,h2]
    refine ⟨?_,n2.app _ _⟩
    rw [e2]
    exact (n1.app _ _).app _ _
  ·exact .inr ⟨y,List.mem_cons_of_mem _ hy,h⟩
theorem var_node {v:Int}{i:Nat}(h:gvar G v=some i):∃p,G[i]? = some p∧p.1=1∧p.2.1=v:=by
 induction G generalizing i with
 | nil=>cases h
 | cons x G ih=>
  simp only [gvar] at h
  split at h
  ·cases h
   rename_i hx
   exact ⟨x,by simp,hx.1,hx.2⟩
  ·obtain ⟨k,hk,rfl⟩:=Option.map_eq_some_iff.1 h
   obtain ⟨p,h1,h2⟩:=ih hk
   exact ⟨p,by simpa using h1,h2⟩
section
variable {L:List Eqn}{s:Int→Tp}
def Slv (L:List Eqn) (s:Int→Tp):Prop:=∀x∈L,sb s (tOne x.1)=sb s (tOne x.2.1)
theorem slv_pairs (hl:GL (cls L).1) (hz:∀x∈L,nz (tOne x.1)∧nz (tOne x.2.1)) (hs:Slv L s):∀a b,(a,b)∈(cls L).2→valG s (cls L).1 a=valG s (cls L).1 b:=by
 intro a b h
 rcases fold_pairs L ([],[]) a b h with h|⟨x,hx,h1,h2⟩
 ·cases h
 ·have e1:=sb_val s hl (fun v i h=>var_node h) _ _ h1 (hz x hx).1
  have e2:=sb_val s hl (fun v i h=>var_node h) _ _ h2 (hz x hx).2
  have e3:=tpRow_inj _ _ (e1.symm.trans ((hs x hx).trans e2))
  simpa using e3
theorem val_inj (hl:GL G):∀(x y:Nat) (p q:Gn),G[x]? = some p→G[y]? = some q→p.1≠1→q.1≠1→valG s G x=valG s G y→Fit p q∧∀(j a b:Nat),p.2.2.2[j]? = some a→q.2.2.2[j]? = some b→valG s G a=valG s G b:=by
 intro x y p q hp hq p1 q1 h
 rw [valG_node s hl hp p1,valG_node s hl hq q1] at h
 obtain ⟨h1,h2⟩:=Prod.mk.inj h
 have h3:=tpRow_inj _ _ (Prod.mk.inj h2).2
 have h4:=congrArg List.length h3
 simp only [List.length_map] at h4
 refine ⟨⟨h1,h4⟩,fun j a b ha hb=>?_⟩
 have h5:=congrArg (fun l=>l[j]?) h3
 simp only [List.getElem?_map,ha,hb,Option.map_some] at h5
 exact Option.some.inj h5
theorem slv_class (hl:GL (cls L).1) (hz:∀x∈L,nz (tOne x.1)∧nz (tOne x.2.1)) (hs:Slv L s) {a b:Nat}(h:Cl (cls L).1 (cls L).2 a b):valG s (cls L).1 a=valG s (cls L).1 b:=h.model _ (slv_pairs hl hz hs) (val_inj hl)
theorem slv_noclash (hl:GL (cls L).1) (hz:∀x∈L,nz (tOne x.1)∧nz (tOne x.2.1)) (hs:Slv L s):¬ Clash (cls L).1 (cls L).2:=Clash.model _ (slv_pairs hl hz hs) (val_inj hl)
theorem slv_acc (hl:GL (cls L).1) (hz:∀x∈L,nz (tOne x.1)∧nz (tOne x.2.1)) (hs:Slv L s):∀n i,tsz (valG s (cls L).1 i)≤n→Acc (Nx (cls L).1 (cls L).2) i:=by
 intro n
 induction n with
 | zero=>intro i h;unfold tsz at h;omega
 | succ n ih=>
  intro i h
  refine ⟨_,fun j hj=>ih j ?_⟩
  obtain ⟨z,p,h1,h2,h3,h4⟩:=hj
  have e:=slv_class hl hz hs h1
  rw [e,valG_node s hl h2 h3] at h
  have h5:=tpRow_size (p.2.2.2.map (valG s (cls L).1)) _ (List.mem_map_of_mem h4)
  unfold tsz at h h5 ⊢
  dsimp only at h
  omega
theorem slv_fin (hl:GL (cls L).1) (hz:∀x∈L,nz (tOne x.1)∧nz (tOne x.2.1)) (hs:Slv L s):FinC (cls L).1 (cls L).2:=fun _ i _=>slv_acc hl hz hs _ i (Nat.le_refl _)
theorem slv_mean (hB:Both (cls L).1 col ro kn (cls L).2 cc) (hp:∀p∈(cls L).1,∀u∈p.2.2.2,u<(cls L).1.length) (hl:GL (cls L).1) (hz:∀x∈L,nz (tOne x.1)∧nz (tOne x.2.1)) (hs:Slv L s) (hlv:∀i,i<(cls L).1.length→(¬ ∃x,Hd (cls L).1 cc (cc i) x)→∃z,z<(cls L).1.length∧cc z=cc i∧∃p,(cls L).1[z]? = some p∧p.1=1∧p.2.1=lv (cc i)):∀c,AccC (cls L).1 cc c→∀i,cc i=c→i<(cls L).1.length→sbT s (meanC (cls L).1 cc lv c)=valG s (cls L).1 i:=by
 intro c hc
 induction hc with
 | intro c hacc ih=>
  intro i hic hi
  have ha:AccC (cls L).1 cc c:=Acc.intro c hacc
  by_cases hk:∃x,Hd (cls L).1 cc c x
  ·obtain ⟨⟨k,p⟩,h1,h2,h3⟩:=hk
   have h1:(cls L).1[k]? = some p:=h1
   have h2:cc k=c:=h2
   have h3:p.1≠1:=h3
   rw [mean_node hB ha h1 h2 h3,slv_class hl hz hs ((hB.cl hi (lt_of_get h1)).2 (hic.trans h2.symm)),valG_node s hl h1 h3]
   unfold sbT
   rw [if_neg h3,sb_row,List.map_map]
   congr 3
   refine List.map_congr_left fun u hu=>?_
   exact ih (cc u) ⟨k,p,u,h1,h2,h3,hu,rfl⟩ u rfl (hp p (List.mem_of_getElem? h1) u hu)
  ·rw [mean_var ha hk]
   obtain ⟨z,hzl,hzc,p,hp1,hp2,hp3⟩:=hlv i hi (by rw [hic];exact hk)
   rw [slv_class hl hz hs ((hB.cl hi hzl).2 hzc.symm),valG_var s hp1 hp2,hp3,hic]
   unfold sbT
   rw [if_pos rfl]
theorem slv_then (hB:Both (cls L).1 col ro kn (cls L).2 cc) (hp:∀p∈(cls L).1,∀u∈p.2.2.2,u<(cls L).1.length) (hl:GL (cls L).1) (hz:∀x∈L,nz (tOne x.1)∧nz (tOne x.2.1)) (hs:Slv L s) (hlv:∀i,i<(cls L).1.length→(¬ ∃x,Hd (cls L).1 cc (cc i) x)→∃z,z<(cls L).1.length∧cc z=cc i∧∃p,(cls L).1[z]? = some p∧p.1=1∧p.2.1=lv (cc i)) (ha:∀i,i<(cls L).1.length→AccC (cls L).1 cc (cc i)) (v:Int):sbT s (meanV (cls L).1 cc lv v)=s v:=by
 unfold meanV
 cases hg:gvar (cls L).1 v with
 | none=>
  show sbT s (1,v,.nil)=s v
  unfold sbT
  rw [if_pos rfl]
 | some i=>
  obtain ⟨p,h1,h2,h3⟩:=var_node hg
  show sbT s (meanC (cls L).1 cc lv (cc i))=s v
  rw [slv_mean hB hp hl hz hs hlv _ (ha i (gvar_lt hg)) i rfl (gvar_lt hg),valG_var s h1 h2,h3]
end
end SoDs
end
end Go.Proofs.YtmamdiggjghjkaaGreatDoor
