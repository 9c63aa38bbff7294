/- Texts of one proof, one behind the other. -/
import Derived.Test.YtmamdiggjghjkaaGreatDoorMgSolveOrder1
import Derived.Test.YtmamdiggjghjkaaGreatDoorMgSolveOrder4
import Derived.Test.YtmamdiggjghjkaaGreatDoorMgSolveOrder3
import Derived.Lib.OthersKept
import Derived.Test.YtmamdiggjghjkaaGreatDoorMgSolveOrder2
set_option linter.unusedVariables false
namespace Go.Proofs.YtmamdiggjghjkaaGreatDoor
section
open Go.RowKit Go.Shelf
attribute [local go_sem] Oper.semAt_some
def KpQ (ks:List Nat) (W W':World):Prop:=∀k∈ks,∀o,W.heap[k]? = some o→o.isCells=true→W'.heap[k]? = some o
theorem KpQ.t {ks:List Nat}{X Y Z:World}(h:KpQ ks X Y) (k:KpQ ks Y Z):KpQ ks X Z:=fun i hi o ho hc=>k i hi o (h i hi o ho hc) hc
theorem KpQ.b {ks:List Nat}{w:World}(W:World) (l:Nat) (o o':Obj) (_:w.heap.size≤l) (h:W.heap[l]? = some o) (h1:o.isCells=false) (_:o.isWalk=false):KpQ ks W (W.putObj l o'):=by
 intro k _ o2 ho hc
 have hne:k≠l:=by
  rintro rfl
  rw [h] at ho
  injection ho with ho
  subst ho
  rw [h1] at hc;cases hc
 exact ((grownBy_putObj' W l o').block k (gL ho).1 (fun e=>hne (by cases e;rfl))).trans ho
def RdO (gp:Nat) (W:World) (v:Value) (L:List Pc):Prop:=(L=[]∧v = .slice none 0 0)∨∃cap cur,v = .slice (some ⟨gp,0,none⟩) L.length cap∧W.heap[gp]? = some (Obj.cells cur 118)∧cur.toList.take (L.length*4)=L.flatMap pcC
theorem RdO.of_own {W:World}{base:Nat}{v:Value}{L:List Pc}(g0:Nat) (h:W.ownsRow base 118 4 v L.length (L.flatMap pcC)):∃gp,RdO gp W v L∧(gp=g0∨base≤gp∧gp<W.heap.size):=by
 rcases h.2 with ⟨h0,h1⟩|⟨g,cap,cur,h0,h1,h2,h3,h4,h5,h6⟩
 ·exact ⟨g0,.inl ⟨List.eq_nil_of_length_eq_zero h1,h0⟩,.inl rfl⟩
 ·exact ⟨g,.inr ⟨cap,cur,h0,h2,h6⟩,.inr ⟨h1,(gL h2).1⟩⟩
theorem RdO.keep {gp:Nat}{W W':World}{v:Value}{L:List Pc}(h:RdO gp W v L) (hk:∀o,W.heap[gp]? = some o→o.isCells=true→W'.heap[gp]? = some o):RdO gp W' v L:=by
 rcases h with h|⟨cap,cur,h1,h2,h3⟩
 ·exact .inl h
 ·exact .inr ⟨cap,cur,h1,hk _ h2 rfl,h3⟩
theorem flat_pc (L:List Pc) (i j:Nat) (hi:i<L.length) (u:Value) (hu:(pcC L[i])[j]? = some u):(L.flatMap pcC)[i*4+j]? = some u:=by
 induction L generalizing i with
 | nil=>simp at hi
 | cons x l ih=>
  cases i with
  | zero=>
   simp only [List.getElem_cons_zero] at hu
   rw [List.flatMap_cons,List.getElem?_append_left (by have:=(List.getElem?_eq_some_iff.1 hu).1;omega)]
   simpa using hu
  | succ i=>
   simp only [List.getElem_cons_succ] at hu
   have:=ih i (by simpa using hi) hu
   rw [List.flatMap_cons,List.getElem?_append_right (by simp [pcC];omega)]
   rw [show (pcC x).length=4 from rfl,show (i+1)*4+j-4=i*4+j by omega]
   exact this
theorem RdO.cell {gp:Nat}{W:World}{A:Option Addr}{n c:Nat}{L:List Pc}(h:RdO gp W (.slice A n c) L) (i:Nat) (hi:i<L.length):n=L.length∧A=some ⟨gp,0,none⟩∧W.cell? ⟨gp,i*4,none⟩=some (strB L[i].s)∧W.cell? ⟨gp,i*4+1,none⟩=some (.int .i64 L[i].k)∧W.cell? ⟨gp,i*4+2,none⟩=some (.int .i64 L[i].n)∧W.cell? ⟨gp,i*4+3,none⟩=some (slv L[i].u):=by
 rcases h with ⟨h,_⟩|⟨cap,cur,h1,h2,h3⟩
 ·subst h;simp at hi
 ·injection h1 with e1 e2 e3
  have key:∀j u,(pcC L[i])[j]? = some u→W.cell? ⟨gp,i*4+j,none⟩=some u:=by
   intro j u hu
   have hj:j<4:=(List.getElem?_eq_some_iff.1 hu).1
   have hf:=flat_pc L i j hi u hu
   rw [←h3,List.getElem?_take,if_pos (by omega)] at hf
   rw [cell_of_row W gp (i*4+j) cur _ (0,0) h2]
   simpa using hf
  exact ⟨e2,e1,key 0 _ rfl,key 1 _ rfl,key 2 _ rfl,key 3 _ rfl⟩
set_option maxRecDepth 100000 in
set_option maxHeartbeats 2000000 in
theorem back1P (n:Nat) (hn:1≤n) (l Bs gp:Nat) (A:Option Addr) (c:Nat) (L:List Pc) (hL:L.length≤10000000) (J Jx:List (Int×Pc)→World→Prop)
  (hY:∀pre x W,J pre W→pre.length<L.length→YieldAt Fence.wide (n-1) Tryz.prog l #[.int .i64 x.1,pcV x.2] W fun e W'=>
   (e = .returned (.bool true)∧J (pre ++ [x]) W'∧KpQ [gp,Bs] W W')∨(e = .returned (.bool false)∧Jx (pre ++ [x]) W'))
  (W:World) (hBs:Boxed W Bs 119 (.slice A L.length c)) (hR:RdO gp W (.slice A L.length c) L) (h0:J [] W):
  CallsIn Fence.wide n Tryz.prog 104 #[.func (.yield l) #[] #[],.pointer (some ⟨Bs,0,none⟩)] W fun e W'=>(∃v,e = .returned v)∧
   ((∃ys:List (Int×Pc),ys.map (·.2)=L.reverse∧J ys W')∨(∃pre,Jx pre W')):=by
 refine callsIn_of_wp Tryz.func104 rfl trivial ?_ rfl
 simp only [Tryz.ntmps104,List.size_toArray,List.length_cons,List.length_nil,Nat.reduceAdd,Nat.reduceSub,Array.replicate_succ,Array.replicate_zero,List.push_toArray,List.append_toArray,List.nil_append,List.cons_append]
 have e00:W.cell? ⟨Bs,0,none⟩=some (.slice A L.length c):=hBs.cell
 have HBS:=kI hBs
 have HR0:=kI hR
 clear hBs hR
 gi_wp2
 gi_loopw [3] (fun i wr=>∃(k:Nat) (z:Int) (pre:List (Int×Pc)),k≤L.length∧i = .int .i64 z∧z+1=k∧pre.map (·.2)=(L.drop k).reverse∧J pre wr∧RdO gp wr (.slice A L.length c) L∧Boxed wr Bs 119 (.slice A L.length c))
  (fun i _=>(intOf i+1).toNat)
 case atStart=>exact ⟨L.length,_,[],Nat.le_refl _,rfl,by omega,by simp,h0,HR0.out,HBS.out⟩
 case round=>
  obtain ⟨k,z,pre,hk,rfl,hz,hpre,hJs,hRd,hbx⟩:=hrel
  have e0:wr.cell? ⟨Bs,0,none⟩=some (.slice A L.length c):=hbx.cell
  have HBX:=kI hbx
  have HRD:=kI hRd
  clear hbx hRd
  by_cases hk0:1≤k
  ·obtain ⟨_,rfl,c0,c1,c2,c3⟩:=HRD.out.cell (k-1) (by omega)
   have hdrop:L.drop (k-1)=L[k-1] :: L.drop k:=by
    have:=List.drop_eq_getElem_cons (l:=L) (i:=k-1) (by omega)
    rwa [show k-1+1=k by omega] at this
   have hpl:pre.length<L.length:=by
    have:(pre.map (·.2)).length=pre.length:=by simp
    rw [hpre] at this
    simp at this
    omega
   obtain ⟨x,hx⟩:∃x,L[k-1]=x:=⟨_,rfl⟩
   rw [hx] at c0 c1 c2 c3 hdrop
   obtain ⟨s,k',n',⟨x1,x2,x3⟩,ps'⟩:=x
   dsimp only [slv,strB] at c0 c1 c2 c3
   obtain ⟨fn,tmps,assign,body,hy,hR2⟩:=hY pre (z,⟨s,k',n',(x1,x2,x3),ps'⟩) wr hJs hpl
   dsimp only [pcV,slv,strB] at hy
   have f1:(0:Int)≤z:=by omega
   have f2:z<(L.length:Int):=by omega
   have f3:z.toNat=k-1:=by omega
   have f4:decide ((0:Int)≤z)=true:=decide_eq_true f1
   have HZ:=kI hz
   have HP:=kI hpre
   have HD:=kI hdrop
   clear hz hpre hdrop hx hpl
   gi_wp2
   refine hR2.mono ?_
   rintro e W3 (⟨rfl,hJ3,hk3⟩|⟨rfl,hJx3⟩)
   ·have hq1:RdO gp W3 (.slice (some ⟨gp,0,none⟩) L.length c) L:=HRD.out.keep (hk3 gp (by simp))
    have hq2:Boxed W3 Bs 119 (.slice (some ⟨gp,0,none⟩) L.length c):=hk3 Bs (by simp) _ HBX.out rfl
    have HQ1:=kI hq1
    have HQ2:=kI hq2
    clear hq1 hq2
    gi_wp2
    go_roundw
    case rel=>exact ⟨k-1,z-1,pre ++ [(z,⟨s,k',n',(x1,x2,x3),ps'⟩)],by omega,by go_num,by have:=HZ.out;omega,by simp [HP.out,HD.out],hJ3,HQ1.out,HQ2.out⟩
    case measure=>simp [intOf];omega
   ·gi_wp2
    refine bodyPost_ret (results_none rfl _ _ _) rfl ?_
    exact ⟨⟨_,rfl⟩,.inr ⟨_,hJx3⟩⟩
  ·obtain rfl:k=0:=by omega
   have f1:¬ (0:Int)≤z:=by omega
   have f4:decide ((0:Int)≤z)=false:=decide_eq_false f1
   have HP:=kI hpre
   clear hz hpre
   gi_wp2
   go_end0
   exact ⟨⟨_,rfl⟩,.inl ⟨pre,by simpa using HP.out,hJs⟩⟩
set_option maxHeartbeats 1000000 in
theorem back_makeP (A:Option Addr) (n c:Nat) (w:World):
  Calls Tryz.prog 73 #[.slice A n c] w fun e w'=>e = .returned (.func (.func 104) #[] #[.pointer (some ⟨w.heap.size,0,none⟩)])∧w'=w.alloc (.cells #[.slice A n c] 119):=by
 go_enter Tryz.func73,Tryz.ntmps73
 go_wp2
 go_ret
 exact ⟨rfl,rfl⟩
theorem back_seqP (n:Nat) (hn:1≤n) (Bs gp:Nat) (t:TypeId) (A:Option Addr) (c:Nat) (L:List Pc) (hL:L.length≤10000000) (w:World) (hBs:Boxed w Bs 119 (.slice A L.length c)) (hR:RdO gp w (.slice A L.length c) L):
  SeqG n Tryz.prog 104 #[.pointer (some ⟨Bs,0,none⟩)] t (fun x:Int×Pc=>#[Value.int .i64 x.1,pcV x.2]) (KpQ [gp,Bs]) (fun ys=>ys.map (·.2)=L.reverse) (fun _=>True) (fun pre _=>pre.length<L.length) w:=fun l J Jx W hW _ _ hY h0=>by
 have hbs:Boxed W Bs 119 (.slice A L.length c):=(hW.block Bs hBs.lt).trans hBs
 refine (back1P n hn l Bs gp A c L hL J Jx hY W hbs (hR.keep fun o ho _=>(hW.block gp (gL ho).1).trans ho) h0).mono ?_
 rintro e W' ⟨he,⟨ys,hy,hj⟩|⟨pre,hj⟩⟩
 ·exact ⟨he,.inl ⟨ys,hy,hj⟩⟩
 ·exact ⟨he,.inr ⟨pre,trivial,hj⟩⟩
end
section
open Go.RowKit Go.Shelf
def mark (r:Nat):Deferred:={ target:=.collected r,args:=#[] }
theorem builder_kept {B b:Nat}{bs:List Value}{W W':World}(h:Lib.IsBuilderF 116 5 B b bs W)
  (hk:∀(k:Nat) (cs:Array Value) (t:TypeId) (fz:Nat×Nat),t=116∨t=5→W.heap[k]? = some (Obj.cells cs t fz)→W'.heap[k]? = some (Obj.cells cs t fz)):Lib.IsBuilderF 116 5 B b bs W':=by
 have one:∀p,Lib.BuilderAtF 116 5 B b p bs W→Lib.BuilderAtF 116 5 B b p bs W':=by
  rintro p ⟨hB,v,hb,hown,hne⟩
  refine ⟨hB,v,hk _ _ _ _ (.inl rfl) hb,⟨hown.1,?_⟩,hne⟩
  rcases hown.2 with h|⟨g,cap,cur,fz,h1,h2,h3,h4⟩
  ·exact .inl h
  ·exact .inr ⟨g,cap,cur,fz,h1,h2,hk _ _ _ _ (.inr rfl) h3,h4⟩
 exact h.elim (fun x=>.inl (one _ x)) (fun x=>.inr (one _ x))
structure PrI (w:World) (Bb b4:Nat) (v:Value) (L:List Pc) (acc:List UInt8) (rs:List Nat) (W:World):Prop where
 box:Boxed W b4 119 v
 row:W.ownsRow Bb 118 4 v L.length (L.flatMap pcC)
 bld:Lib.IsBuilderF 116 5 Bb Bb (Lib.byteCells acc) W
 marks:∀r∈rs,W.heap[r]? = some (Obj.deferred (some []))
 bel:Below w.heap.size w W
theorem row_kept {W W':World}{base:Nat}{e:TypeId}{size:Nat}{v:Value}{n:Nat}{xs:List Value}(h:W.ownsRow base e size v n xs) (hk:∀(k:Nat) (cs:Array Value),W.heap[k]? = some (Obj.cells cs e)→W'.heap[k]? = some (Obj.cells cs e)):W'.ownsRow base e size v n xs:=by
 refine ⟨h.1,?_⟩
 rcases h.2 with h0|⟨g,cap,cur,h1,h2,h3,h4⟩
 ·exact .inl h0
 ·exact .inr ⟨g,cap,cur,h1,h2,hk _ _ h3,h4⟩
theorem PrI.turn {w:World}{Bb b4:Nat}{v v':Value}{L L':List Pc}{acc:List UInt8}{rs:List Nat}{W W':World}(h:PrI w Bb b4 v L acc rs W) (hbox:Boxed W' b4 119 v') (hrow:W'.ownsRow Bb 118 4 v' L'.length (L'.flatMap pcC))
  (hk:∀(k:Nat) (cs:Array Value) (t:TypeId) (fz:Nat×Nat),t=116∨t=5→W.heap[k]? = some (Obj.cells cs t fz)→W'.heap[k]? = some (Obj.cells cs t fz)) (hm:∀r∈rs,W.heap[r]? = some (Obj.deferred (some []))→W'.heap[r]? = some (Obj.deferred (some []))) (hb:Below w.heap.size W W'):PrI w Bb b4 v' L' acc rs W':=
 ⟨hbox,hrow,builder_kept h.bld hk,fun r hr=>hm r hr (h.marks r hr),h.bel.trans hb⟩
theorem PrI.below {w:World}{Bb b4:Nat}{v:Value}{L:List Pc}{acc:List UInt8}{rs:List Nat}{W W':World}(h:PrI w Bb b4 v L acc rs W) (hb:Below W.heap.size W W'):PrI w Bb b4 v L acc rs W':=by
 have k:∀(b:Nat) (o:Obj),W.heap[b]? = some o→W'.heap[b]? = some o:=fun b o ho=>(hb.block b (gL ho).1).trans ho
 exact h.turn (k _ _ h.box) (row_kept h.row fun _ _ hc=>k _ _ hc) (fun _ _ _ _ _ hc=>k _ _ hc) (fun _ _ hr=>k _ _ hr) (hb.mono h.bel.size)
theorem PrI.own {w:World}{Bb b4:Nat}{v:Value}{L:List Pc}{acc:List UInt8}{rs:List Nat}{W W':World}{B:Nat}(h:PrI w Bb b4 v L acc rs W) (hwB:w.heap.size≤B) (hrs:∀r∈rs,r<B) (hs:W.heap.size≤W'.heap.size) (row:Option Nat) (hg:W.grownBy W' row) (hr:∀r,row=some r→B≤r∧∃o:Obj,W.heap[r]? = some o∧o.isCells=false):PrI w Bb b4 v L acc rs W':=by
 have k:∀(b:Nat) (o:Obj),W.heap[b]? = some o→o.isCells=true∨b<B→W'.heap[b]? = some o:=by
  intro b o ho hx
  refine (hg.block b (gL ho).1 fun e=>?_).trans ho
  obtain ⟨h1,o',h2,h3⟩:=hr b e.symm
  rcases hx with hx|hx
  ·rw [ho] at h2;injection h2 with h2;subst h2;rw [hx] at h3;cases h3
  ·omega
 refine h.turn (k _ _ h.box (.inl rfl)) (row_kept h.row fun _ _ hc=>k _ _ hc (.inl rfl)) (fun _ _ _ _ _ hc=>k _ _ hc (.inl rfl)) (fun r hr' hc=>k _ _ hc (.inr (hrs r hr'))) ?_
 exact ⟨hg.os,hg.tape,hg.output,hs,fun b hb=>hg.block b (Nat.lt_of_lt_of_le hb h.bel.size) (fun e=>by have:=(hr b e.symm).1;omega)⟩
theorem PrI.wrote {w:World}{Bb b4:Nat}{v:Value}{L:List Pc}{acc s:List UInt8}{rs:List Nat}{W W':World}(h:PrI w Bb b4 v L acc rs W) (hB:w.heap.size≤Bb) (hb4:b4≠Bb) (hrs:∀r∈rs,r≠Bb) (hbd:Lib.BuilderAtF 116 5 Bb Bb (.pointer (some ⟨Bb,0,none⟩)) (Lib.byteCells acc++Lib.strCells ⟨s.toArray⟩) W') (hb:Below Bb W W') (ho:Lib.OthersKept 5 (some Bb) W W'):PrI w Bb b4 v L (acc++s) rs W':=by
 refine ⟨ho _ _ h.box (by simpa using hb4) (by intro c fz e;cases e),?_,?_,fun r hr=>ho _ _ (h.marks r hr) (by simpa using hrs r hr) (by intro c fz e;cases e),h.bel.trans (hb.mono hB)⟩
 ·refine ⟨h.row.1,?_⟩
  rcases h.row.2 with h0|⟨g,cap,cur,h1,h2,h3,h4⟩
  ·exact .inl h0
  ·refine .inr ⟨g,cap,cur,h1,h2,ho _ _ h3 ?_ (by intro c fz e;cases e),h4⟩
   intro e
   injection e with e
   rcases h.bld with ⟨_,_,hb,_⟩|⟨_,_,hb,_⟩<;>(rw [←e,h3] at hb;cases hb)
 ·refine .inr ?_
  have e:Lib.byteCells (acc++s)=Lib.byteCells acc++Lib.strCells ⟨s.toArray⟩:=by rw [Lib.byteCells_append];rfl
  rw [e];exact hbd
theorem leaves_marks {P:Program}{F:Fence}{n:Nat}{fn:Func}{tmps:Array Value}{R:Ending→World→Prop}(rs:List Nat) (w:World) (hnd:rs.Nodup) (hm:∀r∈rs,w.heap[r]? = some (Obj.deferred (some [])))
  (hfin:∀w':World,w'.heap.size=w.heap.size→w'.os=w.os→w'.tape=w.tape→w'.output=w.output→(∀k,k ∉ rs→w'.heap[k]? = w.heap[k]?)→LeavesInM F n P fn tmps R [] .returning w'):LeavesInM F n P fn tmps R (rs.map mark) .returning w:=by
 induction rs generalizing w with
 | nil=>exact hfin w rfl rfl rfl rfl fun _ _=>rfl
 | cons r rs ih=>
  have h0:=hm r List.mem_cons_self
  have hne:=(List.nodup_cons.1 hnd).1
  have hgp:=grownBy_putObj' w r (.deferred none)
  have hsz:(w.putObj r (.deferred none)).heap.size=w.heap.size:=by simp [World.putObj]
  refine ⟨by simp,.inl ⟨r,_,rfl,run_takeDeferred h0,ih _ (List.nodup_cons.1 hnd).2 (fun k hk=>?_) fun w' h1 h2 h3 h4 h5=>?_⟩⟩
  ·have hkr:k≠r:=by rintro rfl;exact hne hk
   have hk0:=hm k (List.mem_cons_of_mem _ hk)
   exact (hgp.block k (gL hk0).1 (by simpa using hkr)).trans hk0
  ·refine hfin w' (h1.trans hsz) (h2.trans hgp.os) (h3.trans hgp.tape) (h4.trans hgp.output) fun k hk=>?_
   simp only [List.mem_cons,not_or] at hk
   refine (h5 k hk.2).trans ?_
   simp only [World.putObj]
   rw [Array.getElem?_setIfInBounds_ne (by omega)]
theorem sepT_len (l:List (Int×List UInt8)):(sepT l).length≤(l.map fun x=>x.2.length+5).sum:=by
 induction l with
 | nil=>simp [sepT]
 | cons x l ih=>
  have hb:(brk x).length≤x.2.length+2:=by unfold brk;split<;>simp
  cases l with
  | nil=>simp [sepT];omega
  | cons y r=>
   simp only [sepT,List.length_append,List.length_cons,List.map_cons,List.sum_cons] at ih ⊢
   omega
theorem oneT_len (k n:Int) (l:List (Int×List UInt8)):(oneT k n l).length≤40+(l.map fun x=>x.2.length+5).sum:=by
 unfold oneT
 split
 ·have:=nameB_len n;omega
 split
 ·simp;omega
 split
 ·simp;omega
 split
 ·split
  ·rename_i x y
   have hb:(brk x).length≤x.2.length+2:=by unfold brk;split<;>simp
   simp;omega
  ·simp
 split
 ·have:=sepT_len l
  simp;omega
 ·simp
theorem txts_len (f:Fo):(f.txts.map fun x=>x.2.length+5).sum≤48*f.size:=by
 induction f with
 | nil=>simp [Fo.txts]
 | cons k n u ps r ih1 ih2=>
  have:=oneT_len k n ps.txts
  simp only [Fo.txts,List.map_cons,List.sum_cons,Fo.size]
  omega
theorem pw_pos (p:Pc):1≤pw p:=by unfold pw;split<;>omega
theorem pws_len (L:List Pc):L.length≤pws L:=by
 induction L with
 | nil=>simp
 | cons x l ih=>have:=pw_pos x;simp only [pws,List.map_cons,List.sum_cons,List.length_cons] at ih ⊢;omega
theorem allAlone_app (a b:List Tr):allAlone (a++b)=(allAlone a && allAlone b):=by simp [allAlone]
theorem allAlone_ok {B:Nat}{w:World}(f:Fo) (h:TyL B w f):allAlone f.pre=f.ok:=by
 induction f with
 | nil=>rfl
 | cons k n u ps r ih1 ih2=>
  obtain ⟨A,c,hs⟩:=h.1.slice
  have hu:u.2.1=ps.len:=by
   obtain ⟨u1,u2,u3⟩:=u
   unfold slv at hs
   injection hs
  have e:(Fo.cons k n u ps r).pre=(k,n,u) :: (ps.pre++r.pre):=rfl
  have e2:allAlone ((k,n,u) :: (ps.pre++r.pre))=(alone k n u.2.1 && allAlone (ps.pre++r.pre)):=by simp [allAlone]
  rw [e,e2,allAlone_app,ih1 h.1.list,ih2 h.2,hu,Fo.ok,Bool.and_assoc]
theorem mark_inj {a b:List Nat}(h:a.map mark=b.map mark):a=b:=by
 induction a generalizing b with
 | nil=>cases b<;>simp_all
 | cons x a ih=>
  cases b with
  | nil=>simp at h
  | cons y b=>
   simp only [List.map_cons,List.cons.injEq] at h
   have hxy:x=y:=by
    have:=h.1
    simp only [mark] at this
    injection this with this
    injection this
   rw [hxy,ih h.2]
theorem PrI.ab {w:World}{Bb b4:Nat}{v:Value}{L:List Pc}{acc:List UInt8}{rs:List Nat}{W W':World}{B:Nat}(h:PrI w Bb b4 v L acc rs W) (hwB:w.heap.size≤B) (hc:CStep B 114 W W'):PrI w Bb b4 v L acc rs W':=by
 have hb:=hc.below hwB h.bel.size
 obtain ⟨row,hg,hr⟩:=hc
 have k:∀(b:Nat) (o:Obj),W.heap[b]? = some o→(∀cs,o≠Obj.cells cs 114)→W'.heap[b]? = some o:=by
  intro b o ho hx
  refine (hg.block b (gL ho).1 fun e=>?_).trans ho
  obtain ⟨_,cs,h2⟩:=hr b e.symm
  rw [ho] at h2;injection h2 with h2
  exact hx cs h2
 refine h.turn (k _ _ h.box (by intro cs e;injection e with _ e;exact absurd e (by decide))) (row_kept h.row fun _ _ hc=>k _ _ hc (by intro cs e;injection e with _ e;exact absurd e (by decide))) (fun _ _ t _ ht hc=>k _ _ hc (by
  intro cs e
  injection e with _ e
  rcases ht with h|h<;>(rw [h] at e;exact absurd e (by decide)))) (fun r hr' hc=>k _ _ hc (by intro cs e;cases e)) hb
theorem pr_fin {w:World}{Bb b4 gp Bs:Nat}{vt v':Value}{L:List Pc}{x:Pc}{acc:List UInt8}{rs:List Nat}{W W2:World}{C:Obj}(h:PrI w Bb b4 vt L acc rs W) (hwB:w.heap.size≤Bb) (hb4:Bb<b4) (hg:(W.alloc C).grownBy W2 vt.ownBlock)
  (hown:W2.ownsRow Bb 118 4 v' (L ++ [x]).length ((L ++ [x]).flatMap pcC)) (hgp:∀r,vt.ownBlock=some r→r≠gp) (hbs4:Bs≠b4) (hgp4:gp≠b4) (hBs:∃vb,Boxed W Bs 119 vb) (hgl:gp<W.heap.size) (hat:v'.ownBlock=vt.ownBlock∨v'.ownBlock=some (W.alloc C).heap.size) (B0:Nat) (hbB:b4<B0):
  KeepsFrom B0 W (W2.setCell ⟨b4,0,none⟩ v')∧KpQ [gp,Bs] W (W2.setCell ⟨b4,0,none⟩ v')∧PrI w Bb b4 v' (L ++ [x]) acc rs (W2.setCell ⟨b4,0,none⟩ v')∧(∀r,v'.ownBlock=some r→r≠gp)∧Below Bb W (W2.setCell ⟨b4,0,none⟩ v'):=by
 have hrow:=row_not h.row (T:=119) (by decide)
 have all:∀(b:Nat) (o:Obj),W.heap[b]? = some o→some b≠vt.ownBlock→b≠b4→(W2.setCell ⟨b4,0,none⟩ v').heap[b]? = some o:=by
  intro b o ho hne hb
  have hl:=(gL ho).1
  rw [Below.heap_setCell _ _ _ _ (by simpa using hb),hg.block b (by simp;omega) hne,Below.heap_alloc _ _ _ hl,ho]
 have hsz:W.heap.size≤W2.heap.size:=by have:=hg.size;simp at this;omega
 have hbox2:Boxed W2 b4 119 vt:=(hg.block b4 (by simp;have:=h.box.lt;omega) (h.box.not_row (by decide) h.row)).trans ((Below.heap_alloc _ _ _ h.box.lt).trans h.box)
 have hbel:Below Bb W (W2.setCell ⟨b4,0,none⟩ v'):=by
  have hW:Bb≤W.heap.size:=by have:=h.box.lt;omega
  have h1:Below Bb W W2:=((Below.refl _ W).alloc hW C).trans ((Below.refl _ _).grown hg (by simp;omega) (fun k e=>(h.row.lt k e).1))
  exact h1.setCell (p:=⟨b4,0,none⟩) (by simp only;omega) v'
 have cells_ne:∀(b:Nat) (cs:Array Value) (t:TypeId) (fz:Nat×Nat),t≠118→W.heap[b]? = some (Obj.cells cs t fz)→some b≠vt.ownBlock:=by
  intro b cs t fz ht hb e
  rcases h.row.2 with ⟨h0,_⟩|⟨g,cap,cur,h0,_,hgg,_⟩
  ·rw [h0] at e;cases e
  ·rw [h0] at e
   obtain rfl:b=g:=by simpa [Value.ownBlock] using e
   rw [hgg] at hb
   injection hb with hb
   injection hb with _ hb
   exact ht hb.symm
 have other:∀(b:Nat) (o:Obj),W.heap[b]? = some o→o.isCells=false→some b≠vt.ownBlock:=by
  intro b o hb ho e
  rcases h.row.2 with ⟨h0,_⟩|⟨g,cap,cur,h0,_,hgg,_⟩
  ·rw [h0] at e;cases e
  ·rw [h0] at e
   obtain rfl:b=g:=by simpa [Value.ownBlock] using e
   rw [hgg] at hb
   cases hb
   cases ho
 refine ⟨⟨by simp [World.setCell];omega,fun j o hj ho hc=>all j o ho (other j o ho hc) (by omega)⟩,?_,h.turn (hbox2.set _) ?_ (fun b cs t fz ht hc=>all b _ hc (cells_ne b cs t fz (by rcases ht with h|h<;>(rw [h];decide)) hc) (fun e=>?_)) (fun r hr hc=>all r _ hc (other r _ hc rfl) (fun e=>?_)) (hbel.mono hwB),?_,hbel⟩
 ·intro k hk o ho hc
  simp only [List.mem_cons,List.not_mem_nil,or_false] at hk
  rcases hk with rfl|rfl
  ·exact all k o ho (fun e=>hgp k e.symm rfl) hgp4
  ·obtain ⟨vb,hvb⟩:=hBs
   refine all k o ho ?_ hbs4
   exact cells_ne k _ _ _ (by decide) hvb
 ·refine hown.kept (grownBy_setCell' W2 b4 v') (.inr fun e=>?_)
  have:=row_not hown (T:=119) (by decide) b4 e
  exact this _ hbox2
 ·subst e
  rw [show W.heap[b]? = _ from h.box] at hc
  injection hc with hc
  injection hc with _ h2
  rcases ht with h|h<;>(rw [h] at h2;exact absurd h2 (by decide))
 ·subst e
  rw [show W.heap[r]? = _ from h.box] at hc
  cases hc
 ·intro r hr e
  rcases hat with h|h
  ·exact hgp r (h ▸ hr) e
  ·rw [h] at hr
   injection hr with hr
   simp at hr
   omega
def PrW (w:World) (Bb:Nat) (TX:List UInt8) (t4:Value) (rs:List Nat) (W:World) (s:Nat):Prop:=
 ∃(b4:Nat) (v:Value) (L:List Pc) (acc:List UInt8),t4 = .pointer (some ⟨b4,0,none⟩)∧pws L=s∧s≤700000∧PrI w Bb b4 v L acc rs W∧acc++L.reverse.flatMap ptx=TX∧(∀p∈L,PcOk w.heap.size w p)∧Bb<b4∧w.heap.size≤Bb∧rs.Nodup∧(∀r∈rs,Bb<r)
end
section
open Go.RowKit Go.Shelf
attribute [local go_sem] Oper.semAt_some
attribute [local go_sem ↓] builtin_app
set_option maxRecDepth 100000 in
set_option maxHeartbeats 4000000 in
theorem print_any (w:World) (k n:Int) (u:Sl) (ps:Fo) (hps:TyV w.heap.size w ps (slv u)) (hs:ps.size<100000) (ht:Tab w):
  Calls Tryz.prog 40 #[tyVal k n (slv u)] w fun e w'=>e = .returned (strB (if alone k n ps.len && ps.ok then oneT k n ps.txts else []))∧Below w.heap.size w w':=by
 obtain ⟨u1,u2,u3⟩:=u
 obtain ⟨W0,hW0⟩:∃W0,w.alloc (.cells #[.int .i64 k,.int .i64 n,.slice u1 u2 u3] 25)=W0:=⟨_,rfl⟩
 have hb0:Below w.heap.size w W0:=by rw [←hW0];exact (Below.refl _ _).alloc (Nat.le_refl _) _
 have hs0:W0.heap.size=w.heap.size+1:=by rw [←hW0];simp
 have hx0:W0.heap[w.heap.size]? = some (Obj.cells #[.int .i64 k,.int .i64 n,.slice u1 u2 u3] 25):=by rw [←hW0];exact heap_alloc_new w _
 have z0:W0.cell? ⟨w.heap.size,0,none⟩=some (.int .i64 k):=cell_of_row W0 w.heap.size 0 _ _ (0,0) hx0
 have z1:W0.cell? ⟨w.heap.size,1,none⟩=some (.int .i64 n):=cell_of_row W0 w.heap.size 1 _ _ (0,0) hx0
 have z2:W0.cell? ⟨w.heap.size,2,none⟩=some (.slice u1 u2 u3):=cell_of_row W0 w.heap.size 2 _ _ (0,0) hx0
 have hall:allAlone (Fo.cons k n (u1,u2,u3) ps .nil).pre=(alone k n ps.len && ps.ok):=by
  have:=allAlone_ok (B:=w.heap.size) (w:=w) (.cons k n (u1,u2,u3) ps .nil) ⟨hps,trivial⟩
  simpa [Fo.ok] using this
 have hR:=right_any W0 w.heap.size k n (u1,u2,u3) ps (by omega) (hps.below hb0) (by omega)
 rw [hall] at hR
 have HR:=kI hR
 have HPS:=kI hps
 have HX0:=kI hx0
 have HB0:=kI hb0
 clear hR hps hall hx0 hb0
 dsimp only [tyVal,slv] at HR ⊢
 refine (callsIn_wide (n:=5)).1 ?_
 refine callsIn_of_wp_marks Tryz.func40 rfl trivial ?_ rfl
 simp only [Tryz.ntmps40,List.size_toArray,List.length_cons,List.length_nil,Nat.reduceAdd,Nat.reduceSub,Array.replicate_succ,Array.replicate_zero,List.push_toArray,List.append_toArray,List.nil_append,List.cons_append]
 obtain ⟨ok,hok⟩:∃ok,(alone k n ps.len && ps.ok)=ok:=⟨_,rfl⟩
 rw [hok] at HR ⊢
 cases ok
 ·gi_wp2_with (refine ⟨trivial,?_⟩;gi_at_call 48;refine (callsIn_wide.2 HR.out).mono ?_;rintro e w2 ⟨rfl,hb2⟩)
  refine ⟨_,results_tmp rfl _ _ _,rfl,HB0.out.trans (hb2.mono (by omega))⟩
 ·gi_wp2_with (refine ⟨trivial,?_⟩;gi_at_call 48;refine (callsIn_wide.2 HR.out).mono ?_;rintro e wb ⟨rfl,hb2⟩;have x0:wb.cell? ⟨w.heap.size,0,none⟩=some (.int .i64 k):=cell_of_row wb w.heap.size 0 _ _ (0,0) ((hb2.block _ (by omega)).trans HX0.out);have x1:wb.cell? ⟨w.heap.size,1,none⟩=some (.int .i64 n):=cell_of_row wb w.heap.size 1 _ _ (0,0) ((hb2.block _ (by omega)).trans HX0.out);have x2:wb.cell? ⟨w.heap.size,2,none⟩=some (.slice u1 u2 u3):=cell_of_row wb w.heap.size 2 _ _ (0,0) ((hb2.block _ (by omega)).trans HX0.out);have hlw:w.heap.size<wb.heap.size:=by have:=hb2.size;omega)
  have hinv:PrW w wb.heap.size (oneT k n ps.txts) (.pointer (some ⟨wb.heap.size+1+1,0,none⟩)) [] (((wb.alloc (.cells #[.pointer none,.slice none 0 0] 116)).alloc (.cells #[.string ⟨#[]⟩,.int .i64 k,.int .i64 n,.slice u1 u2 u3] 118)).alloc (.cells #[.slice (some ⟨wb.heap.size+1,0,none⟩) 1 1] 119)) (pws [pcT k n (u1,u2,u3) ps]):=by
   have hbw:Below w.heap.size w wb:=HB0.out.trans (hb2.mono (by omega))
   simp only [Bool.and_eq_true] at hok
   refine ⟨wb.heap.size+1+1,.slice (some ⟨wb.heap.size+1,0,none⟩) 1 1,[pcT k n (u1,u2,u3) ps],[],rfl,rfl,?_,⟨?_,?_,?_,(fun r hr=>by cases hr),?_⟩,?_,?_,by omega,hbw.size,List.nodup_nil,(fun r hr=>by cases hr)⟩
   ·simp [pws,pw];split<;>omega
   ·have:=Boxed.new ((wb.alloc (.cells #[.pointer none,.slice none 0 0] 116)).alloc (.cells #[.string ⟨#[]⟩,.int .i64 k,.int .i64 n,.slice u1 u2 u3] 118)) 119 (.slice (some ⟨wb.heap.size+1,0,none⟩) 1 1)
    rwa [World.size_alloc,World.size_alloc] at this
   ·have:=own_full (wb.alloc (.cells #[.pointer none,.slice none 0 0] 116)) wb.heap.size (by simp) 118 4 1 ([pcT k n (u1,u2,u3) ps].flatMap pcC) rfl (by unfold maxLen;omega)
    rw [World.size_alloc] at this
    exact this.alloc _
   ·exact ((Lib.IsBuilderF.of (Lib.fresh_isBuilder 116 5 wb)).alloc _).alloc _
   ·exact ((hbw.alloc hbw.size _).alloc (by simp only [World.size_alloc];have:=hbw.size;omega) _).alloc (by simp only [World.size_alloc];have:=hbw.size;omega) _
   ·simp [ptx]
   ·intro p hp
    obtain rfl:=List.mem_singleton.1 hp
    exact ⟨HPS.out,.inr ⟨hok.1,hok.2⟩,by simp⟩
  have htab:Tab wb:=(ht.below (HB0.out.trans (hb2.mono (by omega))))
  have HINV:=kI hinv
  have HTAB:=kI htab
  have HBW:=kI (show Below w.heap.size w wb from HB0.out.trans (hb2.mono (by omega)))
  have htx:(oneT k n ps.txts).length≤5000000:=by have h1:=oneT_len k n ps.txts;have h2:=txts_len ps;omega
  have HTX:=kI htx
  clear hinv htab htx hok hb2 x0 x1 x2 z0 z1 z2 hs0 hW0 ht
  generalize hTXe:oneT k n ps.txts=TX at *
  refine wpIn_loop (fun a W=>∃(t4 t5 t6 t7 t8 t15 t16 t17 t18 t19 t20 t21 t22 t23 t24 t25 t26 t27 t28 t29 t30 t31 t32 t33 t34 t35 t36 t37 t38 t39 t40 t41 t42:Value) (rs:List Nat),a = { tmps:=#[.agg #[.int .i64 k,.int .i64 n,.slice u1 u2 u3],.pointer (some ⟨w.heap.size,0,none⟩),.string ⟨#[]⟩,.pointer (some ⟨wb.heap.size,0,none⟩),t4,t5,t6,t7,t8,.agg #[.int .i64 k,.int .i64 n,.slice u1 u2 u3],.bool true,.bool false,.agg #[.int .i64 k,.int .i64 n,.slice u1 u2 u3],.agg #[.string ⟨#[]⟩,.int .i64 k,.int .i64 n,.slice u1 u2 u3],.slice (some ⟨wb.heap.size+1,0,none⟩) 1 1,t15,t16,t17,t18,t19,t20,t21,t22,t23,t24,t25,t26,t27,t28,t29,t30,t31,t32,t33,t34,t35,t36,t37,t38,t39,t40,t41,t42],defers:=rs.map mark }∧∃s,PrW w wb.heap.size TX t4 rs W s∧Below wb.heap.size wb W)
   (fun a W=>least (fun s=>∃rs,a.defers=rs.map mark∧PrW w wb.heap.size TX (a.tmps.getD 4 undef) rs W s)) ?_ ?_
  ·refine ⟨_,_,_,_,_,_,_,_,_,_,_,_,_,_,_,_,_,_,_,_,_,_,_,_,_,_,_,_,_,_,_,_,_,[],rfl,_,HINV.out,((((Below.refl _ wb).alloc (Nat.le_refl _) _).alloc (by simp) _).alloc (by simp only [World.size_alloc];omega) _)⟩
  rintro a W ⟨t4,t5,t6,t7,t8,t15,t16,t17,t18,t19,t20,t21,t22,t23,t24,t25,t26,t27,t28,t29,t30,t31,t32,t33,t34,t35,t36,t37,t38,t39,t40,t41,t42,rs,rfl,s,hs0,hbW⟩
  obtain ⟨⟨rs0,hrs0,b4,v,L,acc,rfl,hps_,hs7,hI,htxt,hok,hb4,hwB,hnd,hrb⟩,hle⟩:=least_of (p:=fun s=>∃rs0,(rs.map mark)=rs0.map mark∧PrW w wb.heap.size TX t4 rs0 W s) ⟨rs,rfl,hs0⟩
  obtain rfl:=mark_inj hrs0
  have hms:least (fun s=>∃rs0,(rs.map mark)=rs0.map mark∧PrW w wb.heap.size TX (.pointer (some ⟨b4,0,none⟩)) rs0 W s)=pws L:=hps_.symm
  have HM:=kI hms
  have e0:W.cell? ⟨b4,0,none⟩=some v:=hI.box.cell
  rcases List.eq_nil_or_concat L with rfl|⟨Lq,p,rfl⟩
  ·obtain ⟨A,c,rfl,_,_⟩:=own_form hI.row
   dsimp only [List.length_nil] at e0
   have hacc:acc=TX:=by simpa using htxt
   subst hacc
   have HC:=kI ((callsIn_wide (n:=4)).2 (Tryz.Builder_String_any_k wb.heap.size wb.heap.size acc W hI.bld hbW.size))
   have HI:=kI hI
   have HND:=kI hnd
   have HRB:=kI hrb
   have HBWW:=kI hbW
   clear hI hnd hrb hbW hs0 hle hrs0 htxt hok
   gi_wp2_with (refine ⟨trivial,?_⟩;gi_at_call 75;refine HC.out.mono ?_;rintro e W5 ⟨rfl,_,hb5,ho5⟩)
   refine leaves_marks rs W5 HND.out (fun r hr=>ho5 _ _ (HI.out.marks r hr) (by have:=HRB.out r hr;simp;omega) (by intro c fz e;cases e)) ?_
   intro w' h1 h2 h3 h4 h5
   refine ⟨_,results_tmp rfl _ _ _,rfl,?_⟩
   have hb6:Below wb.heap.size W5 w':=⟨h2,h3,h4,Nat.le_of_eq h1.symm,fun k hk=>h5 k fun hkr=>by have:=HRB.out k hkr;omega⟩
   exact HBW.out.trans (((HBWW.out.trans hb5).trans hb6).mono hwB)
  ·rw [List.concat_eq_append] at *
   have hrow:=hI.row
   rw [List.length_append,List.length_singleton] at hrow
   obtain ⟨g,cp,rfl,hg1,hg2⟩:=own_shape hrow (by omega)
   obtain ⟨q,hq⟩:∃q,Lq.length=q:=⟨_,rfl⟩
   rw [hq] at hrow
   have hpw:pws Lq+pw p≤700000:=by rw [←hps_,pws_app] at hs7;simpa [pws] using hs7
   have hql:q≤700000:=by have:=pws_len Lq;omega
   have hcp:q+1≤cp:=by
    obtain ⟨_,_,hv,h1,_⟩:=own_form hrow
    injection hv with _ _ h3
    omega
   have hz:decide ((q:Int)≤(cp:Int))=true:=by simp;omega
   have hz0:(0:Int)≤(q:Int):=by omega
   have hcell:∀j u,(pcC p)[j]? = some u→W.cell? ⟨g,q*4+j,none⟩=some u:=by
    intro j u hu
    have hj:j<4:=(List.getElem?_eq_some_iff.1 hu).1
    rw [hrow.cellAt _ (by omega),List.flatMap_append,List.getElem?_append_right (by rw [pcC_len];omega),pcC_len,hq]
    rw [show q*4+j-q*4=j by omega]
    simpa using hu
   have hrq:W.ownsRow wb.heap.size 118 4 (.slice (some ⟨g,0,none⟩) q cp) Lq.length (Lq.flatMap pcC):=by
    rw [List.flatMap_append] at hrow
    rw [hq]
    exact own_cut hrow q (by omega) (by rw [pcC_len,hq])
   have hpk:=hok p (List.mem_append_right _ (List.mem_singleton.2 rfl))
   have hokq:∀x∈Lq,PcOk w.heap.size w x:=fun x hx=>hok x (List.mem_append_left _ hx)
   have hb4l:b4<W.heap.size:=hI.box.lt
   have hfz:W.frozen? ⟨b4,0,none⟩=false:=hI.box.frozen
   obtain ⟨s_,pk,pn,⟨p1,p2,p3⟩,pps⟩:=p
   have c0:W.cell? ⟨g,q*4,none⟩=some (.string ⟨s_.toArray⟩):=hcell 0 _ rfl
   have c1:W.cell? ⟨g,q*4+1,none⟩=some (.int .i64 pk):=hcell 1 _ rfl
   have c2:W.cell? ⟨g,q*4+2,none⟩=some (.int .i64 pn):=hcell 2 _ rfl
   have c3:W.cell? ⟨g,q*4+3,none⟩=some (.slice p1 p2 p3):=hcell 3 _ rfl
   have hlr:Lq.length+1=q+1:=by omega
   rw [hlr] at e0 hI
   obtain ⟨WS,hWS⟩:∃WS,W.setCell ⟨b4,0,none⟩ (.slice (some ⟨g,0,none⟩) q cp)=WS:=⟨_,rfl⟩
   obtain ⟨W1,hW1⟩:∃W1,WS.alloc (.cells #[.string ⟨s_.toArray⟩,.int .i64 pk,.int .i64 pn,.slice p1 p2 p3] 118)=W1:=⟨_,rfl⟩
   have hsS:WS.heap.size=W.heap.size:=by rw [←hWS];simp [World.setCell]
   have hkS:∀(i:Nat),i≠b4→WS.heap[i]? = W.heap[i]?:=fun i hi=>by rw [←hWS];exact Below.heap_setCell _ _ _ _ (by simpa using hi)
   have hI1:PrI w wb.heap.size b4 (.slice (some ⟨g,0,none⟩) q cp) Lq acc rs W1:=by
    have hIS:PrI w wb.heap.size b4 (.slice (some ⟨g,0,none⟩) q cp) Lq acc rs WS:=by
     refine hI.turn (by rw [←hWS];exact hI.box.set _) (row_kept hrq fun i cs hc=>?_) (fun i cs ty fz hty hc=>?_) (fun r hr hc=>?_) (by rw [←hWS];exact (Below.refl _ _).setCell (p:=⟨b4,0,none⟩) (by simp only;omega) _)
     ·refine (hkS i fun e=>?_).trans hc
      rw [e,show W.heap[b4]? = _ from hI.box] at hc;cases hc
     ·refine (hkS i fun e=>?_).trans hc
      rw [e,show W.heap[b4]? = _ from hI.box] at hc
      injection hc with hc
      injection hc with _ h2
      rcases hty with h|h<;>(rw [h] at h2;exact absurd h2 (by decide))
     ·refine (hkS r fun e=>?_).trans hc
      rw [e,show W.heap[b4]? = _ from hI.box] at hc;cases hc
    rw [←hW1];exact hIS.below ((Below.refl _ _).alloc (Nat.le_refl _) _)
   have hs1:W1.heap.size=W.heap.size+1:=by rw [←hW1,World.size_alloc,hsS]
   have hx1:W1.heap[W.heap.size]? = some (Obj.cells #[.string ⟨s_.toArray⟩,.int .i64 pk,.int .i64 pn,.slice p1 p2 p3] 118):=by rw [←hW1,←hsS];exact heap_alloc_new WS _
   have y0:W1.cell? ⟨W.heap.size,0,none⟩=some (.string ⟨s_.toArray⟩):=cell_of_row W1 _ 0 _ _ (0,0) hx1
   have hwW:=hbW.size
   have hb1:Below wb.heap.size W W1:=by rw [←hW1,←hWS];exact ((Below.refl _ _).setCell (p:=⟨b4,0,none⟩) (by simp only;omega) _).alloc (by simp [World.setCell];omega) _
   have hlen:acc.length+s_.length≤5000000:=by
    have h1:=HTX.out
    rw [←htxt] at h1
    simp only [List.length_append,List.reverse_append,List.reverse_cons,List.reverse_nil,List.nil_append,List.flatMap_append,List.flatMap_cons,List.flatMap_nil,List.append_nil,ptx] at h1
    omega
   have HC1:=kI ((callsIn_wide (n:=4)).2 (Tryz.Builder_WriteString_k wb.heap.size wb.heap.size (Lib.byteCells acc) ⟨s_.toArray⟩ W1 hI1.bld (by rw [Lib.byteCells_length];show acc.length+s_.toArray.size≤_;simp;omega) (by omega)))
   have HI1:=kI hI1
   have HX1:=kI hx1
   have HB1:=kI hb1
   have HBWW:=kI hbW
   have HRB:=kI hrb
   have HND:=kI hnd
   have HPK:=kI hpk
   have HOK:=kI hokq
   have HTT:=kI htxt
   have HQQ:=kI (aI hq hpw)
   clear hI hI1 hx1 hb1 hbW hrb hnd hpk hokq htxt hok hrow hrq hcell hle hrs0 hs0 hkS hps_ hq
   have hst2:∀W2:World,Lib.BuilderAtF 116 5 wb.heap.size wb.heap.size (.pointer (some ⟨wb.heap.size,0,none⟩)) (Lib.byteCells acc++Lib.strCells ⟨s_.toArray⟩) W2→Below wb.heap.size W1 W2→Lib.OthersKept 5 (some wb.heap.size) W1 W2→
     (W2.cell? ⟨W.heap.size,1,none⟩=some (.int .i64 pk)∧W2.cell? ⟨W.heap.size,2,none⟩=some (.int .i64 pn)∧W2.cell? ⟨W.heap.size,3,none⟩=some (.slice p1 p2 p3))∧W1.heap.size≤W2.heap.size∧Below wb.heap.size wb W2∧PrI w wb.heap.size b4 (.slice (some ⟨g,0,none⟩) q cp) Lq (acc++s_) rs W2∧
      Calls Tryz.prog 74 #[tyVal pk pn (slv (p1,p2,p3))] W2 fun e w'=>∃v,e = .returned v∧PcsOf w.heap.size pk pn pps W2 w' v:=by
    intro W2 hbd2 hb2 ho2
    have hx2:W2.heap[W.heap.size]? = some (Obj.cells #[.string ⟨s_.toArray⟩,.int .i64 pk,.int .i64 pn,.slice p1 p2 p3] 118):=ho2 _ _ HX1.out (by simp;omega) (by intro c fz e;cases e)
    have hI2:=HI1.out.wrote hwB (by omega) (fun r hr=>by have:=HRB.out r hr;omega) hbd2 hb2 ho2
    have hbb2:Below wb.heap.size wb W2:=(HBWW.out.trans HB1.out).trans hb2
    refine ⟨⟨cell_of_row W2 _ 1 _ _ (0,0) hx2,cell_of_row W2 _ 2 _ _ (0,0) hx2,cell_of_row W2 _ 3 _ _ (0,0) hx2⟩,hb2.size,hbb2,hI2,?_⟩
    obtain ⟨hv,hor,_⟩:=HPK.out
    refine pieces_any w.heap.size pk pn (p1,p2,p3) pps W2 hor hI2.bel.size (hv.below hI2.bel) (HTAB.out.below hbb2) ?_
    have h1:=HQQ.out.2
    rcases hor with ⟨_,h⟩|⟨h,_⟩
    ·simp only at h;rw [h];simp [Fo.size]
    ·have hne:=alone_ne _ _ _ h
     simp only [pw] at h1 hne
     rw [if_neg hne] at h1
     omega
   have HS2:=kI hst2
   clear hst2
   gi_wp2_with (first
    | (refine ⟨trivial,?_⟩;gi_at_call 72;refine HC1.out.mono ?_;rintro e W2 ⟨rfl,hbd2,hb2,ho2⟩;obtain ⟨⟨m1,m2,m3⟩,hsz2,hbb2,hI2,hcp2⟩:=HS2.out W2 hbd2 hb2 ho2;have HI2:=kI hI2;have HBB2:=kI hbb2;have HCP2:=kI hcp2;clear hbd2 hb2 ho2 hI2 hbb2 hcp2)
    | (refine ⟨trivial,?_⟩;gi_at_call 74;refine (callsIn_wide.2 HCP2.out).mono ?_;rintro e W3 ⟨v3,rfl,L3,hrow3,hb3,htx3,hpw3,hok3,hl3⟩;obtain ⟨A3,c3',rfl,_,_⟩:=own_form hrow3;have H3:=kI (aI hrow3 (aI hb3 (aI htx3 (aI hpw3 hok3))));clear hrow3 hb3 htx3 hpw3 hok3)
    | (refine ⟨trivial,?_⟩;gi_at_call 73;refine (callsIn_wide.2 (back_makeP A3 L3.length c3' _)).mono ?_;rintro e W4 ⟨rfl,hW4⟩))
   obtain ⟨W5,hW5⟩:∃W5,W3.alloc (.cells #[.slice A3 L3.length c3'] 119)=W5:=⟨_,rfl⟩
   obtain ⟨hrow3,hb3,htx3,hpw3,hok3⟩:=H3.out
   have hw2b:=HBB2.out.size
   have hw3:=hb3.size
   have hs5:W5.heap.size=W3.heap.size+1:=by rw [←hW5];simp
   have hb35:Below W3.heap.size W3 W5:=by rw [←hW5];exact (Below.refl _ _).alloc (Nat.le_refl _) _
   obtain ⟨gp,hrd3,hgpb⟩:=RdO.of_own W3.heap.size hrow3
   have hrd5:RdO gp W5 (.slice A3 L3.length c3') L3:=hrd3.keep fun o ho _=>(hb35.block gp (gL ho).1).trans ho
   have hbox5:Boxed W5 W3.heap.size 119 (.slice A3 L3.length c3'):=by rw [←hW5];exact Boxed.new W3 _ _
   have hI5:PrI w wb.heap.size b4 (.slice (some ⟨g,0,none⟩) q cp) Lq (acc++s_) rs W5:=HI2.out.below (hb3.trans (hb35.mono hw3))
   have hbb5:Below wb.heap.size wb W5:=HBB2.out.trans ((hb3.mono hw2b).trans (hb35.mono (by omega)))
   have hgp1:gp≠b4:=by omega
   have hgp2:gp<W5.heap.size:=by omega
   have hgp3:g≠gp:=by omega
   have hb45:b4<W3.heap.size:=by omega
   have hrs5:∀r∈rs,r<W5.heap.size:=fun r hr=>(gL (hI5.marks r hr)).1
   have hl3':L3.length≤5000000:=by assumption
   have hql2:Lq.length≤700000:=by have:=HQQ.out.1;omega
   rw [hW5]
   have HI5:=kI hI5
   have HBB5:=kI hbb5
   have HR5:=kI hrs5
   have HT3:=kI htx3
   have HP3:=kI hpw3
   have HO3:=kI hok3
   have HB3:=kI hb3
   clear hI5 hbb5 hrs5 hrow3 hb3 htx3 hpw3 hok3 hrd3 hgpb hW5 c0 c1 c2 c3 e0 hWS hW1 y0 m1 m2 m3 hz hfz
   refine wpIn_rangeG (by omega) (gf:=104) (lb:=#[.pointer (some ⟨W3.heap.size,0,none⟩)]) rfl (enters_of Tryz.func104 (by kernel_rfl) rfl)
    (back_seqP 4 (by omega) W3.heap.size gp 114 A3 c3' L3 (by omega) W5 hbox5 hrd5) (Below.refl _ _) KpQ.t KpQ.b (fun _=>rfl)
    (fun pre W6=>∃vt,PrI w wb.heap.size b4 vt (Lq++pre.map (·.2)) (acc++s_) rs W6∧(∀r,vt.ownBlock=some r→r≠gp)∧W5.heap.size≤W6.heap.size∧Below wb.heap.size wb W6∧Boxed W6 W3.heap.size 119 (.slice A3 L3.length c3')) (fun _ _ _=>False)
    ?_ (fun _ _ _ _ _ hs _ _=>hs) ?_ (fun _ _ _ _ hs _=>hs)
    ⟨_,by simpa using HI5.out,(by intro r hr;injection hr with hr;simp only at hr;omega),Nat.le_refl _,HBB5.out,hbox5⟩
    (fun x a' W6=>∃Bx,W6.heap[Bx]? = some (Obj.cells #[strB x.2.s,.int .i64 x.2.k,.int .i64 x.2.n,slv x.2.u] 118)∧a' = { tmps:=#[.agg #[.int .i64 k,.int .i64 n,.slice u1 u2 u3],.pointer (some ⟨w.heap.size,0,none⟩),.string ⟨#[]⟩,.pointer (some ⟨wb.heap.size,0,none⟩),.pointer (some ⟨b4,0,none⟩),.int .i64 q,.pointer (some ⟨W.heap.size,0,none⟩),t7,.pointer (some ⟨Bx,0,none⟩),.agg #[.int .i64 k,.int .i64 n,.slice u1 u2 u3],.bool true,.bool false,.agg #[.int .i64 k,.int .i64 n,.slice u1 u2 u3],.agg #[.string ⟨#[]⟩,.int .i64 k,.int .i64 n,.slice u1 u2 u3],.slice (some ⟨wb.heap.size+1,0,none⟩) 1 1,.slice (some ⟨g,0,none⟩) (q+1) cp,.int .i64 ((q:Int)+1),.bool true,.slice (some ⟨g,0,none⟩) (q+1) cp,.int .i64 ((q:Int)+1),.int .i64 q,.slice (some ⟨g,0,none⟩) (q+1) cp,.int .i64 q,.pointer (some ⟨g,q*4,none⟩),.agg #[.string ⟨s_.toArray⟩,.int .i64 pk,.int .i64 pn,.slice p1 p2 p3],.slice (some ⟨g,0,none⟩) (q+1) cp,.int .i64 q,.slice (some ⟨g,0,none⟩) q cp,.pointer (some ⟨W.heap.size,0,none⟩),.string ⟨s_.toArray⟩,.tuple #[.int .i64 (s_.length:Nat),.nilIface],.pointer (some ⟨W.heap.size,1,none⟩),.agg #[.int .i64 pk,.int .i64 pn,.slice p1 p2 p3],.slice A3 L3.length c3',.func (.func 104) #[] #[.pointer (some ⟨W3.heap.size,0,none⟩)],.int .i64 x.1,pcV x.2,t37,t38,t39,t40,t41,t42],defers:=[] })
    (fun x a' s W W' row hs hg hr=>by
     obtain ⟨Bx,hc,ha⟩:=hs
     refine ⟨Bx,(hg.block Bx (gL hc).1 fun e=>?_).trans hc,ha⟩
     obtain ⟨o,ho,hoc⟩:=(hr Bx e.symm).2
     rw [hc] at ho
     cases ho
     cases hoc) ?assign ?body ?done ?stop
   case assign=>
    rintro l pre x W6 K ⟨vt,hI6,hne6,hs6,hb6,hx6⟩ hK
    obtain ⟨x0,xs,xk,xn,⟨x1,x2,x3⟩,xps⟩:=x
    dsimp only [pcV,slv,strB] at hK ⊢
    have HI6:=kI hI6
    have HB6:=kI hb6
    have HX6:=kI hx6
    clear hI6 hb6 hx6
    gi_wp2
    refine hK _ _ ((KeepsOthers.alloc _ _).from _) (fun i _ o ho _=>(Below.heap_alloc _ _ _ (gL ho).1).trans ho) ⟨vt,HI6.out.below ((Below.refl _ _).alloc (Nat.le_refl _) _),hne6,by simp;omega,HB6.out.alloc (by omega) _,HX6.out.alloc _⟩ ⟨W6.heap.size,heap_alloc_new W6 _,rfl⟩
   case body=>
    rintro l pre x a' W6 hl ⟨vt,hI6,hne6,hs6,hb6,hx6⟩ ⟨Bx,hc,rfl⟩ hlt
    obtain ⟨x0,xs,xk,xn,⟨x1,x2,x3⟩,xps⟩:=x
    dsimp only [pcV,slv,strB] at hc ⊢
    have e0:W6.cell? ⟨b4,0,none⟩=some vt:=hI6.box.cell
    have y0:W6.cell? ⟨Bx,0,none⟩=some (.string ⟨xs.toArray⟩):=cell_of_row W6 Bx 0 _ _ (0,0) hc
    have y1:W6.cell? ⟨Bx,1,none⟩=some (.int .i64 xk):=cell_of_row W6 Bx 1 _ _ (0,0) hc
    have y2:W6.cell? ⟨Bx,2,none⟩=some (.int .i64 xn):=cell_of_row W6 Bx 2 _ _ (0,0) hc
    have y3:W6.cell? ⟨Bx,3,none⟩=some (.slice x1 x2 x3):=cell_of_row W6 Bx 3 _ _ (0,0) hc
    obtain ⟨L6,hL6⟩:∃L6,Lq++pre.map (·.2)=L6:=⟨_,rfl⟩
    have hn6:L6.length≤6000000:=by rw [←hL6];simp;omega
    rw [hL6] at hI6
    obtain ⟨W7,hW7⟩:∃W7,W7=W6.alloc (.cells #[.string ⟨xs.toArray⟩,.int .i64 xk,.int .i64 xn,.slice x1 x2 x3] 118):=⟨_,rfl⟩
    have rd7:Rd W7 4 (.slice (some ⟨W6.heap.size,0,none⟩) 1 1) 1 ([(⟨xs,xk,xn,(x1,x2,x3),xps⟩:Pc)].flatMap pcC):=by
     rw [hW7];exact rd_new W6 ([(⟨xs,xk,xn,(x1,x2,x3),xps⟩:Pc)].flatMap pcC) 118 4 1 rfl (by unfold maxLen;omega)
    have own7:=hI6.row.alloc (.cells #[.string ⟨xs.toArray⟩,.int .i64 xk,.int .i64 xn,.slice x1 x2 x3] 118)
    rw [←hW7] at own7
    obtain ⟨v8,W8,hrun8,hown8,hb8,_,hg8,hat8⟩:=app_pc W7 wb.heap.size vt L6 own7 _ [(⟨xs,xk,xn,(x1,x2,x3),xps⟩:Pc)] rd7 (by simp;omega) (by rw [hW7];simp;have:=hb6.size;omega)
    have hbox8:Boxed W8 b4 119 vt:=(hg8.block b4 (by rw [hW7];simp;have:=hI6.box.lt;omega) (hI6.box.not_row (by decide) hI6.row)).trans (by rw [hW7];exact (Below.heap_alloc _ _ _ hI6.box.lt).trans hI6.box)
    have e8:=hbox8.cell
    have f8:=hbox8.frozen
    rw [hW7] at hg8 hat8 hrun8
    obtain ⟨g8,c8,rfl,_,_⟩:=own_shape hown8 (by simp)
    have hfin:=pr_fin (gp:=gp) (Bs:=W3.heap.size) (v':=.slice (some ⟨g8,0,none⟩) (L6 ++ [(⟨xs,xk,xn,(x1,x2,x3),xps⟩:Pc)]).length c8) hI6 hwB hb4 hg8 hown8 hne6 (by omega) hgp1 ⟨_,hx6⟩ (by omega) hat8 W5.heap.size (by omega)
    have hx8:Boxed (W8.setCell ⟨b4,0,none⟩ (.slice (some ⟨g8,0,none⟩) (L6 ++ [(⟨xs,xk,xn,(x1,x2,x3),xps⟩:Pc)]).length c8)) W3.heap.size 119 (.slice A3 L3.length c3'):=hfin.2.1 W3.heap.size (by simp) _ hx6 rfl
    have hF:ownPostG W5.heap.size (KpQ [gp,W3.heap.size]) (fun (pre:List (Int×Pc)) W6=>∃vt,PrI w wb.heap.size b4 vt (Lq++pre.map (·.2)) (acc++s_) rs W6∧(∀r,vt.ownBlock=some r→r≠gp)∧W5.heap.size≤W6.heap.size∧Below wb.heap.size wb W6∧Boxed W6 W3.heap.size 119 (.slice A3 L3.length c3')) (fun _ _ _=>False) (pre ++ [(x0,(⟨xs,xk,xn,(x1,x2,x3),xps⟩:Pc))]) W6 .normal ({ tmps:=#[],defers:=[] }:Act) (W8.setCell ⟨b4,0,none⟩ (.slice (some ⟨g8,0,none⟩) (L6 ++ [(⟨xs,xk,xn,(x1,x2,x3),xps⟩:Pc)]).length c8)):=by
     obtain ⟨z1,z2,z3,z4,z5⟩:=hfin
     refine ⟨z1,z2,_,?_,z4,Nat.le_trans hs6 z5.size,hb6.trans z5,hx8⟩
     have e:Lq++(pre ++ [(x0,(⟨xs,xk,xn,(x1,x2,x3),xps⟩:Pc))]).map (·.2)=L6 ++ [(⟨xs,xk,xn,(x1,x2,x3),xps⟩:Pc)]:=by rw [←hL6];simp
     rw [e];exact z3
    have hN:(L6 ++ [(⟨xs,xk,xn,(x1,x2,x3),xps⟩:Pc)]).length=L6.length+1:=by simp
    rw [hN] at hF hrun8
    have HF:=kI hF
    obtain ⟨Av,cv,rfl,_,_⟩:=own_form hI6.row
    clear hN hF hfin hx8 hbox8 hI6 hown8 hg8 hat8 hb8 own7 rd7 hW7 hc hb6 hx6 hne6
    gi_wp2
    exact HF.out
   case done=>
    rintro D ys W6 hD hys ⟨vt,hI6,hne6,hs6,hb6,hx6⟩ hK
    rw [hys] at hI6
    have e0:W6.cell? ⟨b4,0,none⟩=some vt:=hI6.box.cell
    obtain ⟨Av,cv,rfl,_,_⟩:=own_form hI6.row
    have hpwn:pws (Lq++L3.reverse)<pws (Lq ++ [(⟨s_,pk,pn,(p1,p2,p3),pps⟩:Pc)]):=by
     have h1:=HP3.out
     rw [pws_app,pws_app]
     have h2:pws L3.reverse=pws L3:=by simp [pws]
     have h3:pws [(⟨s_,pk,pn,(p1,p2,p3),pps⟩:Pc)]=pw ⟨s_,pk,pn,(p1,p2,p3),pps⟩:=by simp [pws]
     rw [h2,h3]
     simp only [pw]
     omega
    have hnew:PrW w wb.heap.size TX (.pointer (some ⟨W6.heap.size,0,none⟩)) (D :: rs) (W6.alloc (.cells #[.slice Av (Lq++L3.reverse).length cv] 119)) (pws (Lq++L3.reverse)):=by
     have hal:Below W6.heap.size W6 (W6.alloc (.cells #[.slice Av (Lq++L3.reverse).length cv] 119)):=(Below.refl _ _).alloc (Nat.le_refl _) _
     have hI7:=hI6.below hal
     have hDl:=(gL hK).1
     refine ⟨W6.heap.size,_,Lq++L3.reverse,acc++s_,rfl,rfl,by omega,⟨Boxed.new W6 _ _,hI7.row,hI7.bld,?_,hI7.bel⟩,?_,?_,by omega,hwB,?_,?_⟩
     ·intro r hr
      rcases List.mem_cons.1 hr with rfl|hr
      ·exact (hal.block _ hDl).trans hK
      ·exact hI7.marks r hr
     ·have h1:=HTT.out
      have h2:=HT3.out
      simp only [List.reverse_append,List.reverse_reverse,List.flatMap_append,List.reverse_cons,List.reverse_nil,List.nil_append,List.flatMap_cons,List.flatMap_nil,List.append_nil,ptx] at h1 ⊢
      rw [←h1,h2]
      simp
     ·intro x hx
      rcases List.mem_append.1 hx with hx|hx
      ·exact HOK.out x hx
      ·have hx3:=HO3.out x (List.mem_reverse.1 hx)
       exact ⟨hx3.1.keep (Nat.le_refl _) (fun b off hb=>(HI2.out.bel.cell (p:=⟨b,off,none⟩) hb).symm),hx3.2⟩
     ·refine List.nodup_cons.2 ⟨fun h=>?_,HND.out⟩
      have:=HR5.out D h
      omega
     ·intro r hr
      rcases List.mem_cons.1 hr with rfl|hr
      ·omega
      ·exact HRB.out r hr
    have hNl:(Lq++L3.reverse).length=Lq.length+L3.length:=by simp
    rw [hNl] at hnew
    have HN:=kI hnew
    have HPW:=kI hpwn
    have HB6:=kI (show Below wb.heap.size wb (W6.alloc (.cells #[.slice Av (Lq.length+L3.length) cv] 119)) from hb6.alloc (by omega) _)
    clear hNl hnew hpwn hI6 hne6 hb6 hx6 hK hys hD
    gi_wp2
    refine ⟨⟨_,_,_,_,_,_,_,_,_,_,_,_,_,_,_,_,_,_,_,_,_,_,_,_,_,_,_,_,_,_,_,_,_,D :: rs,rfl,_,HN.out,HB6.out⟩,?_⟩
    exact Nat.lt_of_lt_of_eq (Nat.lt_of_le_of_lt (least_of (p:=fun s=>∃rs0,(mark D :: rs.map mark)=rs0.map mark∧PrW w wb.heap.size TX (.pointer (some ⟨W6.heap.size,0,none⟩)) rs0 (W6.alloc (.cells #[.slice Av (Lq.length+L3.length) cv] 119)) s) ⟨D :: rs,rfl,HN.out⟩).2 HPW.out) HM.out.symm
   case stop=>
    rintro D c pre W _ _ h _
    exact h.elim
   ·rintro pre W6 W7 row ⟨vt,hI6,hne6,hs6,hb6,hx6⟩ hg hr
    refine ⟨vt,hI6.own (by omega) HR5.out hg.size row hg hr,hne6,Nat.le_trans hs6 hg.size,?_,Own.from (boxed_own _ _ (fun (_:Unit)=>.slice A3 L3.length c3')) W5.heap.size () _ _ row hx6 hg hr⟩
    exact ⟨hg.os.trans hb6.os,hg.tape.trans hb6.tape,hg.output.trans hb6.output,Nat.le_trans hb6.size hg.size,fun i hi=>(hg.block i (Nat.lt_of_lt_of_le hi hb6.size) (fun e=>by have:=(hr i e.symm).1;omega)).trans (hb6.block i hi)⟩
   ·rintro pre W6 W7 ⟨vt,hI6,hne6,hs6,hb6,hx6⟩ hc
    have hc':=hc
    exact ⟨vt,hI6.ab (by omega) hc,hne6,by obtain ⟨_,hg,_⟩:=hc;exact Nat.le_trans hs6 hg.size,hb6.trans (hc'.below (by omega) hb6.size),hc'.box (by decide) hx6⟩
end
section
open Go.RowKit Go.Shelf
theorem Img.txts {f g:Fo}(h:Img idn f g):g.txts=f.txts:=by
 induction f generalizing g with
 | nil=>cases g<;>simp_all [Img,Fo.txts]
 | cons k n u ps r ih1 ih2=>
  cases g with
  | nil=>simp [Img] at h
  | cons k' n' u' ps' r'=>
   simp only [Img,nm_id] at h
   obtain ⟨rfl,rfl,h3,h4⟩:=h
   simp only [Fo.txts,ih1 h3,ih2 h4]
theorem Img.ok {f g:Fo}(h:Img idn f g):g.ok=f.ok:=by
 induction f generalizing g with
 | nil=>cases g<;>simp_all [Img,Fo.ok]
 | cons k n u ps r ih1 ih2=>
  cases g with
  | nil=>simp [Img] at h
  | cons k' n' u' ps' r'=>
   have hl:=(show ps'.len=ps.len from Img.len (num:=idn) (by simp only [Img] at h;exact h.2.2.1))
   simp only [Img,nm_id] at h
   obtain ⟨rfl,rfl,h3,h4⟩:=h
   simp only [Fo.ok,ih1 h3,ih2 h4,hl]
end
section
namespace Fo
def pure:Fo→Fo
 | nil=>nil
 | cons k n _ ps r=>cons k n (none,0,0) ps.pure r.pure
theorem pure_pure (f:Fo):f.pure.pure=f.pure:=by
 induction f with
 | nil=>rfl
 | cons k n v ps r i1 i2=>simp [pure,i1,i2]
theorem pure_size (f:Fo):f.pure.size=f.size:=by
 induction f with
 | nil=>rfl
 | cons k n v ps r i1 i2=>simp [pure,size,i1,i2]
theorem pure_len (f:Fo):f.pure.len=f.len:=by
 induction f with
 | nil=>rfl
 | cons k n v ps r i1 i2=>simp [pure,len,i2]
theorem same_iff (f g:Fo):f.same g=true↔f.pure=g.pure:=by
 induction f generalizing g with
 | nil=>cases g<;>simp [same,pure]
 | cons k n v ps r i1 i2=>cases g with
  | nil=>simp [same,pure]
  | cons k' n' v' ps' r'=>simp [same,pure,i1,i2,and_assoc]
end Fo
theorem img_iff (f g:Fo):Img idn f g↔g.pure=f.pure:=by
 induction f generalizing g with
 | nil=>cases g<;>simp [Img,Fo.pure]
 | cons k n v ps r i1 i2=>cases g with
  | nil=>simp [Img,Fo.pure]
  | cons k' n' v' ps' r'=>simp [Img,Fo.pure,i1,i2,nm_id]
end
section
abbrev Sg:=Int→Option (Int×Int×Fo)
namespace Fo
def sub (s:Sg):Fo→Fo
 | nil=>nil
 | cons k n _ ps r=>match (if k=1 then s n else none) with
  | some x=>cons x.1 x.2.1 (none,0,0) x.2.2.pure (r.sub s)
  | none=>cons k n (none,0,0) (ps.sub s) (r.sub s)
end Fo
abbrev Bnd:=Int×Int×Int×Sl×Fo
def fnd:List Bnd→Int→Option Bnd
 | [],_=>none
 | b :: l,v=>if b.1=v then some b else fnd l v
def cnt:List Bnd→List Bnd
 | []=>[]
 | b :: l=>b :: (cnt l).filter (fun x=>decide (x.1≠b.1))
end
end Go.Proofs.YtmamdiggjghjkaaGreatDoor
