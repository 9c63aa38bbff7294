/- Texts of one proof, one behind the other. -/
import Derived.Test.YtmamdiggjghjkaaGreatDoorMgSolveOrder1
import Derived.Test.YtmamdiggjghjkaaGreatDoorMgSolveOrder3
import Derived.Test.YtmamdiggjghjkaaGreatDoorMgSolveOrder5
import Derived.Deep.RegionHeld3
import Derived.Handy
import Derived.Test.YtmamdiggjghjkaaGreatDoorMgSolveOrder6
import Derived.Lib.Hide
import Derived.RangeFuncFrom
set_option linter.unusedVariables false
namespace Go.Proofs.YtmamdiggjghjkaaGreatDoor
section
open Go.RowKit Go.Shelf
attribute [local go_sem] Oper.semAt_some
def NextB (L:List Tr) (pre:List (Int×Tr)) (x:Int×Tr):Prop:=∃_:pre.length<L.length,x=(((L.length-1-pre.length:Nat):Int),L[L.length-1-pre.length])
set_option maxRecDepth 100000 in
set_option maxHeartbeats 2000000 in
theorem back1G (n:Nat) (hn:1≤n) (l Bs B:Nat) (A:Option Addr) (c:Nat) (L:List Tr) (hL:L.length≤1000000) (J Jx:List (Int×Tr)→World→Prop)
  (hY:∀pre x W,J pre W→NextB L pre x→YieldAt Fence.wide (n-1) Tryz.prog l #[.int .i64 x.1,trV x.2] W fun e W'=>
   (e = .returned (.bool true)∧J (pre ++ [x]) W'∧KpB B Bs W W')∨(e = .returned (.bool false)∧Jx (pre ++ [x]) W'))
  (W:World) (hBs:Boxed W Bs 23 (.slice A L.length c)) (hR:RdX B W (.slice A L.length c) L) (h0:J [] W):
  CallsIn Fence.wide n Tryz.prog 102 #[.func (.yield l) #[] #[],.pointer (some ⟨Bs,0,none⟩)] W fun e W'=>(∃v,e = .returned v)∧
   ((∃ys:List (Int×Tr),ys.map (·.2)=L.reverse∧J ys W')∨(∃pre,Jx pre W')):=by
 refine callsIn_of_wp Tryz.func102 rfl trivial ?_ rfl
 simp only [Tryz.ntmps102,List.size_toArray,List.length_cons,List.length_nil,Nat.reduceAdd,Nat.reduceSub,Array.replicate_succ,Array.replicate_zero,List.push_toArray,List.append_toArray,List.nil_append,List.cons_append]
 have e00:W.cell? ⟨Bs,0,none⟩=some (.slice A L.length c):=hBs.cell
 have HBS:=kI hBs
 clear hBs
 gi_wp2
 gi_loopw [3] (fun i wr=>∃(k:Nat) (z:Int) (pre:List (Int×Tr)),k≤L.length∧i = .int .i64 z∧z+1=k∧pre.map (·.2)=(L.drop k).reverse∧J pre wr∧Below B W wr∧Boxed wr Bs 23 (.slice A L.length c))
  (fun i _=>(intOf i+1).toNat)
 case atStart=>exact ⟨L.length,_,[],Nat.le_refl _,rfl,by omega,by simp,h0,Below.refl _ _,HBS.out⟩
 case round=>
  obtain ⟨k,z,pre,hk,rfl,hz,hpre,hJs,hnx,hbx⟩:=hrel
  have e0:wr.cell? ⟨Bs,0,none⟩=some (.slice A L.length c):=hbx.cell
  have HBX:=kI hbx
  clear hbx
  by_cases hk0:1≤k
  ·obtain ⟨A',c',hv,hf⟩:=hR.below hnx
   injection hv with hv1 _ hv3
   subst hv1;subst hv3
   obtain ⟨b,off,rfl,hlt,hc⟩:=hf (by omega)
   obtain ⟨c0,c1,c2⟩:=hc (k-1) (by omega)
   have hdrop:L.drop (k-1)=L[k-1] :: L.drop k:=by
    have:=List.drop_eq_getElem_cons (l:=L) (i:=k-1) (by omega)
    rwa [show k-1+1=k by omega] at this
   have hpl:pre.length<L.length:=by
    have:(pre.map (·.2)).length=pre.length:=by simp
    rw [hpre] at this
    simp at this
    omega
   have hnb:NextB L pre (z,L[k-1]):=by
    have hpl2:pre.length=L.length-k:=by
     have:(pre.map (·.2)).length=pre.length:=by simp
     rw [hpre] at this
     simp at this
     omega
    refine ⟨hpl,?_⟩
    have e:L.length-1-pre.length=k-1:=by omega
    rw [Prod.mk.injEq]
    exact ⟨by omega,by simp only [e]⟩
   obtain ⟨x,hx⟩:∃x,L[k-1]=x:=⟨_,rfl⟩
   rw [hx] at c0 c1 c2 hdrop hnb
   obtain ⟨x1,x2,x3⟩:=x
   dsimp only [slv] at c2
   obtain ⟨fn,tmps,assign,body,hy,hR2⟩:=hY pre (z,x1,x2,x3) wr hJs hnb
   dsimp only [trV,slv] at hy
   have f1:(0:Int)≤z:=by omega
   have f2:z<(L.length:Int):=by omega
   have f3:z.toNat=k-1:=by omega
   have f4:decide ((0:Int)≤z)=true:=decide_eq_true f1
   have HZ:=kI hz
   have HP:=kI hpre
   have HD:=kI hdrop
   clear hz hpre hdrop hx hc hf hpl hnb
   gi_wp2
   refine hR2.mono ?_
   rintro e W3 (⟨rfl,hJ3,hk3⟩|⟨rfl,hJx3⟩)
   ·gi_wp2
    go_roundw
    case rel=>exact ⟨k-1,z-1,pre ++ [(z,x1,x2,x3)],by omega,by go_num,by have:=HZ.out;omega,by simp [HP.out,HD.out],hJ3,hnx.trans hk3.below,hk3.boxed HBX.out⟩
    case measure=>simp [intOf];omega
   ·gi_wp2
    refine bodyPost_ret (results_none rfl _ _ _) rfl ?_
    exact ⟨⟨_,rfl⟩,.inr ⟨_,hJx3⟩⟩
  ·obtain rfl:k=0:=by omega
   have f1:¬ (0:Int)≤z:=by omega
   have f4:decide ((0:Int)≤z)=false:=decide_eq_false f1
   have HP:=kI hpre
   clear hz hpre
   gi_wp2
   go_end0
   exact ⟨⟨_,rfl⟩,.inl ⟨pre,by simpa using HP.out,hJs⟩⟩
theorem back_seqG (n:Nat) (hn:1≤n) (Bs B:Nat) (t:TypeId) (A:Option Addr) (c:Nat) (L:List Tr) (hL:L.length≤1000000) (w:World) (hBw:B≤w.heap.size) (hBs:Boxed w Bs 23 (.slice A L.length c)) (hR:RdX B w (.slice A L.length c) L):
  SeqG n Tryz.prog 102 #[.pointer (some ⟨Bs,0,none⟩)] t (fun x:Int×Tr=>#[Value.int .i64 x.1,trV x.2]) (KpB B Bs) (fun ys=>ys.map (·.2)=L.reverse) (fun _=>True) (NextB L) w:=fun l J Jx W hW _ _ hY h0=>by
 have hbs:Boxed W Bs 23 (.slice A L.length c):=(hW.block Bs hBs.lt).trans hBs
 refine (back1G n hn l Bs B A c L hL J Jx hY W hbs (hR.below (hW.mono hBw)) h0).mono ?_
 rintro e W' ⟨he,⟨ys,hy,hj⟩|⟨pre,hj⟩⟩
 ·exact ⟨he,.inl ⟨ys,hy,hj⟩⟩
 ·exact ⟨he,.inr ⟨pre,trivial,hj⟩⟩
namespace Fo
def arrF:Fo→Int×Int×Fo
 | nil=>(0,0,nil)
 | cons k n v ps r=>if r.len=0 then (k,n,ps) else (4,0,cons k n v ps (cons r.arrF.1 r.arrF.2.1 (none,0,0) r.arrF.2.2 nil))
theorem len_drop (f:Fo) (j:Nat):(f.drop j).len=f.len-j:=by
 induction f generalizing j with
 | nil=>cases j<;>simp [drop,len]
 | cons k n v ps r _ ih=>
  cases j with
  | zero=>simp [drop]
  | succ j=>simp [drop,len,ih]
theorem top_get (f:Fo) (j:Nat) (hj:j<f.top.length):f.top[j]=((f.at_ j).1,(f.at_ j).2.1,(f.at_ j).2.2.1):=by
 induction f generalizing j with
 | nil=>simp [top] at hj
 | cons k n v ps r _ ih=>
  cases j with
  | zero=>rfl
  | succ j=>simpa [top,at_] using ih j (by simpa [top] using hj)
end Fo
theorem FreshT.two {T:TypeId}{B:Nat}{w:World}{psx psy:Fo}{kx nx ky ny:Int}{ux uy vx vy:Sl}(hx:FreshT T B w idn psx ux) (hy:FreshT T B w idn psy uy) (c:Nat) (hB:B≤c) (hc:w.heap[c]? = some (Obj.cells #[.int .i64 kx,.int .i64 nx,slv ux,.int .i64 ky,.int .i64 ny,slv uy] T)):
  FreshT T B w idn (.cons kx nx vx psx (.cons ky ny vy psy .nil)) (some ⟨c,0,none⟩,2,2):=by
 intro W hs hk
 obtain ⟨gx,ix,tx⟩:=hx W hs hk
 obtain ⟨gy,iy,ty⟩:=hy W hs hk
 have hcW:=hk c _ hB hc
 have cell:=fun j=>cell_of_row W c j _ _ (0,0) hcW
 refine ⟨.cons kx nx ux gx (.cons ky ny uy gy .nil),⟨rfl,(nm_id _ _).symm,ix,rfl,(nm_id _ _).symm,iy,trivial⟩,tyV_cons.2 ⟨c,0,2,rfl,Nat.le_refl _,by unfold maxLen;omega,(gL hcW).1,tyC_cons.2 ⟨cell 0,cell 1,cell 2,tx,tyC_cons.2 ⟨cell 3,cell 4,cell 5,ty,tyC_nil⟩⟩⟩⟩
end
section
open Go.RowKit Go.Shelf
attribute [local go_sem] Oper.semAt_some
theorem set3 {T:TypeId}{w:World}(g:Nat) (x y z k n u:Value) (hg:w.heap[g]? = some (Obj.cells #[x,y,z] T)):
  w.cell? ⟨g,0,none⟩=some x∧w.cell? ⟨g,1,none⟩=some y∧w.cell? ⟨g,2,none⟩=some z∧w.frozen? ⟨g,0,none⟩=false∧w.frozen? ⟨g,1,none⟩=false∧w.frozen? ⟨g,2,none⟩=false∧
  ∃w',((w.setCell ⟨g,0,none⟩ k).setCell ⟨g,1,none⟩ n).setCell ⟨g,2,none⟩ u=w'∧w'.heap[g]? = some (Obj.cells #[k,n,u] T)∧w'.heap.size=w.heap.size∧(∀b,b≠g→w'.heap[b]? = w.heap[b]?)∧Below g w w':=by
 refine ⟨cell_of_row w g 0 _ _ (0,0) hg,cell_of_row w g 1 _ _ (0,0) hg,cell_of_row w g 2 _ _ (0,0) hg,frozen_cells hg 0,frozen_cells hg 1,frozen_cells hg 2,_,rfl,?_,by simp [World.setCell],fun b hne=>?_,?_⟩
 ·exact heap_setCell_same _ g 2 _ T u (heap_setCell_same _ g 1 _ T n (heap_setCell_same w g 0 _ T k hg))
 ·rw [Below.heap_setCell _ _ _ _ (by simpa using hne),Below.heap_setCell _ _ _ _ (by simpa using hne),Below.heap_setCell _ _ _ _ (by simpa using hne)]
 ·exact (((Below.refl g w).setCell (p:=⟨g,0,none⟩) (Nat.le_refl g) _).setCell (p:=⟨g,1,none⟩) (Nat.le_refl g) _).setCell (p:=⟨g,2,none⟩) (Nat.le_refl g) _
def ArInv (w:World) (vl:Value) (f:Fo) (j:Nat) (W:World):Prop:=
 (∃u:Sl,W.heap[w.heap.size+2]? = some (Obj.cells #[.int .i64 (f.drop (f.len-j)).arrF.1,.int .i64 (f.drop (f.len-j)).arrF.2.1,slv u] 25)∧FreshT 25 (w.heap.size+3) W idn (f.drop (f.len-j)).arrF.2.2 u)∧
  Boxed W w.heap.size 23 vl∧W.heap[w.heap.size+1]? = some (Obj.cells rt0 25)∧Below w.heap.size w W
theorem ArInv.kept {w:World}{vl:Value}{f:Fo}{j:Nat}{W W':World}(h:ArInv w vl f j W) (hs:W.heap.size≤W'.heap.size) (hk:∀(b:Nat) (cs:Array Value) (t:TypeId),t≠169→W.heap[b]? = some (Obj.cells cs t)→W'.heap[b]? = some (Obj.cells cs t)) (hb:Below w.heap.size w W'):ArInv w vl f j W':=by
 obtain ⟨⟨u,hu,hf⟩,hx,hr,_⟩:=h
 exact ⟨⟨u,hk _ _ _ (by decide) hu,hf.to hs fun b cs _ hc=>hk _ _ _ (by decide) hc⟩,hk _ _ _ (by decide) hx,hk _ _ _ (by decide) hr,hb⟩
theorem ArInv.own {w:World}{vl:Value}{f:Fo}(B:Nat) (hB:w.heap.size≤B):OwnFrom B (fun (pre:List (Int×Tr)) W=>ArInv w vl f pre.length W):=by
 intro s W W' row hs hg hr
 have hb:Below w.heap.size w W':=⟨hg.os.trans hs.2.2.2.os,hg.tape.trans hs.2.2.2.tape,hg.output.trans hs.2.2.2.output,Nat.le_trans hs.2.2.2.size hg.size,fun k hk=>(hg.block k (Nat.lt_of_lt_of_le hk hs.2.2.2.size) (fun e=>by have:=(hr k e.symm).1;omega)).trans (hs.2.2.2.block k hk)⟩
 refine hs.kept hg.size (fun b cs t _ hc=>(hg.block b (gL hc).1 fun e=>?_).trans hc) hb
 obtain ⟨o,ho,hoc⟩:=(hr b e.symm).2
 rw [hc] at ho
 cases ho
 cases hoc
theorem ArInv.ab {w:World}{vl:Value}{f:Fo}(B:Nat) (hB:w.heap.size≤B):AbC B 169 (fun (pre:List (Int×Tr)) W=>ArInv w vl f pre.length W):=by
 intro s W W' hs hc
 have hb:Below w.heap.size w W':=hs.2.2.2.trans (hc.below hB hs.2.2.2.size)
 obtain ⟨row,hg,hr⟩:=hc
 refine hs.kept hg.size (fun b cs t hne hcc=>(hg.block b (gL hcc).1 fun e=>?_).trans hcc) hb
 obtain ⟨_,cs',hc'⟩:=hr b e.symm
 rw [hcc] at hc'
 cases hc'
 exact hne rfl
theorem ar_fin {w:World}{vl:Value}{f:Fo}{pre:List (Int×Tr)}{x:Int×Tr}{W W3 W4:World}{k n:Int}{u:Sl}{o:Array Value}(hi:ArInv w vl f pre.length W) (h3:Below W.heap.size W W3) (h4:W4.heap[w.heap.size+2]? = some (Obj.cells #[.int .i64 k,.int .i64 n,slv u] 25)) (hs:W4.heap.size=W3.heap.size) (hfar:∀b,b≠w.heap.size+2→W4.heap[b]? = W3.heap[b]?) (hb4:Below (w.heap.size+2) W3 W4)
  (hk:k=(f.drop (f.len-(pre.length+1))).arrF.1) (hn:n=(f.drop (f.len-(pre.length+1))).arrF.2.1) (hf:FreshT 25 (w.heap.size+3) W3 idn (f.drop (f.len-(pre.length+1))).arrF.2.2 u)
  (_hW0:W.heap[w.heap.size+3]? = some (Obj.cells o 23)) (B0:Nat) (hB0:w.heap.size+4≤B0) (hBW:B0≤W.heap.size):
  KeepsFrom B0 W W4∧KpB w.heap.size (w.heap.size+3) W W4∧ArInv w vl f (pre ++ [x]).length W4:=by
 have hz:=h3.size
 have all:∀b,b<W.heap.size→b≠w.heap.size+2→W4.heap[b]? = W.heap[b]?:=fun b hb hne=>(hfar b hne).trans (h3.block b hb)
 have hbl:Below w.heap.size w W4:=(hi.2.2.2.trans (h3.mono (by omega))).trans (hb4.mono (by omega))
 refine ⟨⟨by omega,fun b o' hb ho _=>(all b (gL ho).1 (by omega)).trans ho⟩,⟨(h3.mono (by omega)).trans (hb4.mono (by omega)),fun o' ho _=>(all _ (gL ho).1 (by omega)).trans ho⟩,?_⟩
 rw [List.length_append,List.length_singleton]
 refine ⟨⟨u,by rw [←hk,←hn];exact h4,hf.to (by omega) fun b cs hb hc=>(hfar b (by omega)).trans hc⟩,(all _ (by omega) (by omega)).trans hi.2.1,(all _ (by omega) (by omega)).trans hi.2.2.1,hbl⟩
end
section
open Go.RowKit Go.Shelf
attribute [local go_sem] Oper.semAt_some
set_option maxRecDepth 100000 in
set_option maxHeartbeats 4000000 in
theorem arrow_any (w:World) (f:Fo) (vl:Value) (hvl:TyV w.heap.size w f vl) (hsz:f.size<1000000):
  Calls Tryz.prog 39 #[vl] w fun e w'=>∃u':Sl,e = .returned (tyVal f.arrF.1 f.arrF.2.1 (slv u'))∧Below w.heap.size w w'∧FreshT 25 w.heap.size w' idn f.arrF.2.2 u':=by
 obtain ⟨A,c,rfl⟩:=hvl.slice
 have hll:=f.len_le_size
 refine (callsIn_wide (n:=4)).1 ?_
 refine callsIn_of_wp_marks Tryz.func39 rfl trivial ?_ rfl
 simp only [Tryz.ntmps39,List.size_toArray,List.length_cons,List.length_nil,Nat.reduceAdd,Nat.reduceSub,Array.replicate_succ,Array.replicate_zero,List.push_toArray,List.append_toArray,List.nil_append,List.cons_append]
 gi_wp2_with (refine ⟨trivial,?_⟩;gi_at_call 71;refine (callsIn_wide.2 (back_make A f.len c _)).mono ?_;rintro e w' ⟨rfl,rfl⟩)
 obtain ⟨w0,hw0⟩:∃w0,(((w.alloc (.cells #[.slice A f.len c] 23)).alloc (.cells #[.int .i64 0,.int .i64 0,.slice none 0 0] 25)).alloc (.cells #[.int .i64 0,.int .i64 0,.slice none 0 0] 25)).alloc (.cells #[.slice A f.len c] 23)=w0:=⟨_,rfl⟩
 have hs0:w0.heap.size=w.heap.size+4:=by rw [←hw0];simp
 have hB0:Below w.heap.size w w0:=by rw [←hw0];exact ((((Below.refl _ w).alloc (Nat.le_refl _) _).alloc (by simp) _).alloc (by simp only [World.size_alloc];omega) _).alloc (by simp only [World.size_alloc];omega) _
 have h0:w0.heap[w.heap.size]? = some (.cells #[.slice A f.len c] 23):=by
  rw [←hw0]
  exact (Below.heap_alloc _ _ _ (by simp only [World.size_alloc];omega)).trans ((Below.heap_alloc _ _ _ (by simp only [World.size_alloc];omega)).trans ((Below.heap_alloc _ _ _ (by simp only [World.size_alloc];omega)).trans (heap_alloc_new w _)))
 have h1:w0.heap[w.heap.size+1]? = some (.cells rt0 25):=by
  rw [←hw0]
  refine (Below.heap_alloc _ _ _ (by simp only [World.size_alloc];omega)).trans ((Below.heap_alloc _ _ _ (by simp only [World.size_alloc];omega)).trans ?_)
  have:=heap_alloc_new (w.alloc (.cells #[.slice A f.len c] 23)) (.cells #[.int .i64 0,.int .i64 0,.slice none 0 0] 25)
  rwa [World.size_alloc] at this
 have h2:w0.heap[w.heap.size+2]? = some (.cells rt0 25):=by
  rw [←hw0]
  refine (Below.heap_alloc _ _ _ (by simp only [World.size_alloc];omega)).trans ?_
  have:=heap_alloc_new ((w.alloc (.cells #[.slice A f.len c] 23)).alloc (.cells #[.int .i64 0,.int .i64 0,.slice none 0 0] 25)) (.cells #[.int .i64 0,.int .i64 0,.slice none 0 0] 25)
  simp only [World.size_alloc] at this
  exact this
 have h3:w0.heap[w.heap.size+3]? = some (.cells #[.slice A f.len c] 23):=by
  rw [←hw0]
  have:=heap_alloc_new (((w.alloc (.cells #[.slice A f.len c] 23)).alloc (.cells #[.int .i64 0,.int .i64 0,.slice none 0 0] 25)).alloc (.cells #[.int .i64 0,.int .i64 0,.slice none 0 0] 25)) (.cells #[.slice A f.len c] 23)
  simp only [World.size_alloc] at this
  exact this
 have hR0:RdX w.heap.size w0 (.slice A f.len c) f.top:=hvl.rd.below hB0
 have hTL:TyL w.heap.size w f:=hvl.list
 rw [hw0]
 rw [←Fo.top_len] at h0 h3 hR0 ⊢
 have hinv:ArInv w (.slice A f.top.length c) f 0 w0:=by
  have hdl:f.drop (f.len-0) = .nil:=f.drop_len
  refine ⟨⟨(none,0,0),?_,?_⟩,h0,h1,hB0⟩
  ·rw [hdl];exact h2
  ·rw [hdl]
   intro W _ _
   exact ⟨.nil,trivial,tyV_nil.2 ⟨none,0,rfl⟩⟩
 have h33:Boxed w0 (w.heap.size+3) 23 (.slice A f.top.length c):=h3
 clear hw0 h0 h1 h2 h3
 refine wpIn_rangeG (by omega) (gf:=102) (lb:=#[.pointer (some ⟨w.heap.size+1+1+1,0,none⟩)]) rfl (enters_of Tryz.func102 (by kernel_rfl) rfl)
  (back_seqG 3 (by omega) (w.heap.size+3) w.heap.size 169 A c f.top (by rw [Fo.top_len];omega) w0 (by omega) h33 hR0) (Below.refl _ _) KpB.t (KpB.b (by omega)) (fun _=>rfl)
  (fun pre W=>ArInv w (.slice A f.top.length c) f pre.length W∧Boxed W (w.heap.size+3) 23 (.slice A f.top.length c)) (fun _ _ _=>False)
  (OwnFrom.and (ArInv.own _ (by omega)) (Own.from (boxed_own _ _ (fun _=>.slice A f.top.length c)) _)) (fun _ _ _ _ _ hs _ _=>hs)
  (AbC.and (ArInv.ab _ (by omega)) (box_ab (by decide))) (fun _ _ _ _ hs _=>hs)
  ⟨hinv,h33⟩
  (fun x a' W=>∃Bx,W.heap[Bx]? = some (Obj.cells #[.int .i64 x.2.1,.int .i64 x.2.2.1,slv x.2.2.2] 25)∧a' = { tmps:=#[.slice A f.top.length c,.pointer (some ⟨w.heap.size,0,none⟩),.pointer (some ⟨w.heap.size+1,0,none⟩),.pointer (some ⟨w.heap.size+1+1,0,none⟩),.int .i64 x.1,.pointer (some ⟨Bx,0,none⟩),.slice A f.top.length c,.func (.func 102) #[] #[.pointer (some ⟨w.heap.size+1+1+1,0,none⟩)],.int .i64 x.1,trV x.2,undef,undef,undef,undef,undef,undef,undef,undef,undef,undef,undef,undef,undef],defers:=[] })
  (fun x a' s W W' row hs hg hr=>by
   obtain ⟨Bx,hc,ha⟩:=hs
   refine ⟨Bx,(hg.block Bx (gL hc).1 fun e=>?_).trans hc,ha⟩
   obtain ⟨o,ho,hoc⟩:=(hr Bx e.symm).2
   rw [hc] at ho
   cases ho
   cases hoc) ?assign ?body ?done ?stop
 case assign=>
  rintro l pre x W K hi hK
  obtain ⟨x0,x1,x2,A3,n3,c3⟩:=x
  dsimp only [trV,slv] at hK ⊢
  have hbel:=hi.1.2.2.2
  have hsW:=hbel.size
  have hlt3:=hi.2.lt
  have HI:=kI hi
  clear hi
  gi_wp2
  refine hK _ _ ((KeepsOthers.alloc _ _).from _) ⟨(Below.refl _ _).alloc hsW _,fun o ho _=>(Below.heap_alloc _ _ _ hlt3).trans ho⟩ ?_ ⟨W.heap.size,heap_alloc_new W _,rfl⟩
  exact ⟨(ArInv.own w.heap.size (Nat.le_refl _)).alloc (s:=pre) _ HI.out.1,HI.out.2.alloc _⟩
 case body=>
  rintro l pre x a' W hl ⟨hi,hbx⟩ ⟨Bx,hc,rfl⟩ ⟨hpl,hx⟩
  obtain ⟨q,hq⟩:∃q,f.top.length=q:=⟨_,rfl⟩
  obtain ⟨i,hii⟩:∃i,f.top.length-1-pre.length=i:=⟨_,rfl⟩
  have hqf:f.len=q:=by rw [←hq,Fo.top_len]
  have hil:i<f.len:=by omega
  have htop:=f.top_get i (by rw [Fo.top_len];exact hil)
  have hds:=f.drop_step i hil
  have hpsz:=f.at_size i hil
  have hpT:=hTL.at i hil
  simp only [hii] at hx
  rw [htop] at hx
  have hd1:f.drop (f.len-(pre.length+1))=f.drop i:=by congr 1;omega
  have hd0:f.drop (f.len-pre.length)=f.drop (i+1):=by congr 1;omega
  have hdl:=f.len_drop (i+1)
  subst hx
  generalize f.at_ i=p at *
  obtain ⟨k,n,⟨u1,u2,u3⟩,ps⟩:=p
  dsimp only [trV,slv] at hc hpT hpsz hds ⊢
  have hbw:=hi.2.2.2
  have hsW:=hbw.size
  obtain ⟨⟨ua,hua,hfa⟩,hbp,hrt,_⟩:=id hi
  have hFC:∀Wx,Below W.heap.size W Wx→Calls Tryz.prog 47 #[tyVal k n (.slice u1 u2 u3)] Wx fun e w'=>∃u':Sl,e = .returned (tyVal k n (slv u'))∧Below Wx.heap.size Wx w'∧FreshT 25 Wx.heap.size w' idn ps u':=
   fun Wx hx=>copy_any Wx k n (u1,u2,u3) ps (hpT.keep (Nat.le_trans hsW hx.size) fun b off hb=>((hbw.trans (hx.mono hsW)).cell (p:=⟨b,off,none⟩) hb)) (by omega)
  have e0:W.cell? ⟨w.heap.size,0,none⟩=some (.slice A q c):=by rw [←hq];exact hbp.cell
  have x0:W.cell? ⟨Bx,0,none⟩=some (.int .i64 k):=cell_of_row W Bx 0 _ _ (0,0) hc
  have x1:W.cell? ⟨Bx,1,none⟩=some (.int .i64 n):=cell_of_row W Bx 1 _ _ (0,0) hc
  have x2:W.cell? ⟨Bx,2,none⟩=some (.slice u1 u2 u3):=cell_of_row W Bx 2 _ _ (0,0) hc
  have hl2:w.heap.size+2<W.heap.size:=(gL hua).1
  have hl4:w.heap.size+4≤W.heap.size:=by have:=hbx.lt;omega
  have HI:=kI hi
  have HBX:=kI hbx
  have HFA:=kI hfa
  have HUA:=kI hua
  have HDS:=kI hds
  have HD:=kI (aI hd1 (aI hd0 hdl))
  have HFC:=kI hFC
  have HQ:=kI (aI hq (aI hqf (aI hii hil)))
  have HBW:=kI hbw
  have hiq:(i:Int)+pre.length+1=q:=by omega
  have HIQ:=kI hiq
  have hpq:pre.length<q:=by omega
  have hqb:q≤1000000:=by omega
  rw [hq] at *
  clear hi hbx hfa hds hd1 hd0 hdl hFC hq hqf hii hil htop hpT hbw hbp hrt hc hiq hpl hR0 hinv h33 hTL hua
  rcases Nat.eq_zero_or_pos pre.length with hp0|hp0
  ·have f1:((i:Int) == (q:Int)-1)=true:=by have:=HIQ.out;simp;omega
   gi_wp2_with (refine ⟨trivial,?_⟩;gi_at_call 47;refine (CallsIn.inRound l (callsIn_wide.2 (HFC.out W (Below.refl _ _)))).mono ?_;rintro e w3 ⟨⟨v1,v2,v3⟩,rfl,hb3,hf3⟩;obtain ⟨r0,r1,r2,z0,z1,z2,W4,hW4,h4,hsz4,hfar,hb4⟩:=set3 (w:=w3) (w.heap.size+1+1) _ _ _ (.int .i64 k) (.int .i64 n) (.slice v1 v2 v3) ((hb3.block _ hl2).trans HUA.out);have H3:=kI (aI hb3 (aI hf3 (aI h4 (aI hsz4 (aI hfar hb4)))));clear hb3 hf3 h4 hsz4 hfar hb4;dsimp only [tyVal,slv])
   obtain ⟨hb3,hf3,h4,hsz4,hfar,hb4⟩:=H3.out
   obtain ⟨hd1,hd0,hdl⟩:=HD.out
   have harr:(f.drop i).arrF=(k,n,ps):=by
    rw [HDS.out,Fo.arrF,if_pos (by have:=HQ.out;have:=HIQ.out;omega)]
   obtain ⟨y1,y2,y3⟩:=ar_fin (x:=((i:Int),k,n,(u1,u2,u3))) (u:=(v1,v2,v3)) HI.out hb3 h4 hsz4 hfar hb4 (by rw [hd1,harr]) (by rw [hd1,harr]) (by rw [hd1,harr];exact hf3.mono (by omega)) HBX.out (w.heap.size+4) (by omega) (by omega)
   exact ⟨y1,y2,y3,y2.boxed HBX.out⟩
  ·have f1:((i:Int) == (q:Int)-1)=false:=by
    refine beq_eq_false_iff_ne.2 ?_
    have:=HIQ.out
    omega
   have hmix:Tryz.prog.follows Departure.mixedOrders=true:=by kernel_rfl
   have HUA2:=HUA.out
   rw [HD.out.2.1] at HUA2
   have hfa2:=HFA.out
   rw [HD.out.2.1] at hfa2
   generalize hax:(f.drop (i+1)).arrF=ax at *
   obtain ⟨xk,xn,xps⟩:=ax
   obtain ⟨ua1,ua2,ua3⟩:=ua
   dsimp only [slv] at HUA2 hfa2
   obtain ⟨s0,s1,s2,_⟩:=set3 (w:=W) (w.heap.size+1+1) _ _ _ (.int .i64 k) (.int .i64 n) (.slice none 0 0) HUA2
   have HUA3:=kI HUA2
   have HFA3:=kI hfa2
   have HAX:=kI hax
   clear HUA HFA HUA2 hfa2 hax
   gi_wp2
   gi_region_with_o (refine ⟨trivial,?_⟩;gi_at_call 47;refine (CallsIn.inRound l (callsIn_wide.2 (HFC.out W.drew ((Below.refl _ _).drew)))).mono ?_;rintro e w3 ⟨⟨v1,v2,v3⟩,rfl,hb3,hf3⟩;obtain ⟨r0,r1,r2,z0,z1,z2,W4,hW4,h4,hsz4,hfar,hb4⟩:=set3 (w:=w3) (w.heap.size+1+1) _ _ _ (.int .i64 4) (.int .i64 0) (.slice (some ⟨w3.heap.size,0,none⟩) 2 2) ((hb3.block _ hl2).trans HUA3.out);have hl3:w.heap.size+1+1<w3.heap.size:=Nat.lt_of_lt_of_le hl2 hb3.size;have H3:=kI (aI hb3 (aI hf3 (aI h4 (aI hsz4 (aI hfar hb4)))));clear hb3 hf3 h4 hsz4 hfar hb4;dsimp only [tyVal,slv])
   all_goals gi_wp2
   all_goals
    obtain ⟨hb3,hf3,h4,hsz4,hfar,hb4⟩:=H3.out
    obtain ⟨hd1,hd0,hdl⟩:=HD.out
    have harr:(f.drop i).arrF=(4,0,.cons k n (u1,u2,u3) ps (.cons xk xn (none,0,0) xps .nil)):=by
     rw [HDS.out,Fo.arrF,if_neg (by have:=HQ.out;have:=HIQ.out;omega),HAX.out]
    have hb3':Below W.heap.size W w3:=(Below.refl _ W).drew.trans hb3
    have ho:∀o:Obj,Below w3.heap.size w3 (w3.alloc o):=fun o=>(Below.refl _ _).alloc (Nat.le_refl _) o
    obtain ⟨y1,y2,y3⟩:=ar_fin (W3:=w3.alloc (.cells #[.int .i64 k,.int .i64 n,.slice v1 v2 v3,.int .i64 xk,.int .i64 xn,.slice ua1 ua2 ua3] 25)) (W4:=W4.alloc (.cells #[.int .i64 k,.int .i64 n,.slice v1 v2 v3,.int .i64 xk,.int .i64 xn,.slice ua1 ua2 ua3] 25)) (x:=((i:Int),k,n,(u1,u2,u3))) (u:=(some ⟨w3.heap.size,0,none⟩,2,2)) (o:=#[.slice A q c]) HI.out (hb3'.trans ((ho _).mono hb3'.size)) ((Below.heap_alloc _ _ _ (by omega)).trans h4) (by simp [hsz4]) (fun b hne=>by simp only [World.alloc,Array.getElem?_push,hsz4,hfar b hne]) ⟨hb4.os,hb4.tape,hb4.output,by simp [hsz4],fun b hb=>by simp only [World.alloc,Array.getElem?_push,hsz4,hb4.block b hb]⟩ (by rw [hd1,harr]) (by rw [hd1,harr])
     (by
      rw [hd1,harr]
      refine FreshT.two (kx:=k) (nx:=n) (ux:=(v1,v2,v3)) (ky:=xk) (ny:=xn) (uy:=(ua1,ua2,ua3)) ((hf3.mono (show w.heap.size+3≤W.heap.size by omega)).below (ho _)) ((HFA3.out.below hb3').below (ho _)) w3.heap.size (by omega) (heap_alloc_new w3 _)) HBX.out (w.heap.size+4) (by omega) (by omega)
    refine ⟨?_,y2,y3,y2.boxed HBX.out⟩
    first|exact y1|(rw [hs0];exact y1)
 case done=>
  rintro D ys W hD hys ⟨hi,hbx⟩ hK
  have hlen:ys.length=f.len:=by
   have:(ys.map (·.2)).length=f.top.reverse.length:=by rw [hys]
   simpa [Fo.top_len] using this
  rw [hlen] at hi
  have hdr:f.drop (f.len-f.len)=f:=by rw [Nat.sub_self];exact f.drop_zero
  unfold ArInv at hi
  rw [hdr] at hi
  obtain ⟨⟨⟨ua1,ua2,ua3⟩,hua,hfa⟩,hbp,hrt,hbw⟩:=hi
  generalize hax:f.arrF=ax at *
  obtain ⟨xk,xn,xps⟩:=ax
  dsimp only [slv] at hua hfa ⊢
  have x0:W.cell? ⟨w.heap.size+1+1,0,none⟩=some (.int .i64 xk):=cell_of_row W _ 0 _ _ (0,0) hua
  have x1:W.cell? ⟨w.heap.size+1+1,1,none⟩=some (.int .i64 xn):=cell_of_row W _ 1 _ _ (0,0) hua
  have x2:W.cell? ⟨w.heap.size+1+1,2,none⟩=some (.slice ua1 ua2 ua3):=cell_of_row W _ 2 _ _ (0,0) hua
  obtain ⟨r0,r1,r2,z0,z1,z2,W4,hW4,h4,hsz4,hfar,hb4⟩:=set3 (w:=W) (w.heap.size+1) _ _ _ (.int .i64 xk) (.int .i64 xn) (.slice ua1 ua2 ua3) hrt
  have hK4:W4.heap[D]? = some (.deferred (some [])):=(hfar D (by omega)).trans hK
  have hgp:=grownBy_putObj' W4 D (.deferred none)
  have h5:(W4.putObj D (.deferred none)).heap[w.heap.size+1]? = some (Obj.cells #[.int .i64 xk,.int .i64 xn,.slice ua1 ua2 ua3] 25):=(hgp.block _ (gL h4).1 (fun e=>by injection e with e;omega)).trans h4
  have hb5:Below w.heap.size w (W4.putObj D (.deferred none)):=(hbw.trans (hb4.mono (by omega))).trans ((Below.refl _ _).grown hgp (by have:=hbw.size;omega) (fun k e=>by cases e;omega))
  have hf5:FreshT 25 w.heap.size (W4.putObj D (.deferred none)) idn xps (ua1,ua2,ua3):=by
   refine (hfa.to (Nat.le_trans (by omega) hgp.size) fun b cs hb hc=>?_).mono (by omega)
   have hbl:=(gL hc).1
   refine (hgp.block b (by omega) (fun e=>?_)).trans ((hfar b (by omega)).trans hc)
   injection e with e
   rw [e,hK] at hc
   cases hc
  have HLD:=kI (load_ty (w:=W4.putObj D (.deferred none)) (g:=w.heap.size+1) (k:=xk) (n:=xn) (u:=(ua1,ua2,ua3)) (cell_of_row _ _ 0 _ _ (0,0) h5) (cell_of_row _ _ 1 _ _ (0,0) h5) (cell_of_row _ _ 2 _ _ (0,0) h5))
  have HB5:=kI hb5
  have HF5:=kI hf5
  have HK4:=kI hK4
  have HAX:=kI hax
  clear hua hfa hbp hrt hbw hbx hK hgp h5 hb5 hf5 hK4 h4 hsz4 hfar hb4 hax hys hlen hdr
  gi_wp2
  refine ⟨by simp,.inl ⟨_,_,rfl,run_takeDeferred HK4.out,?_⟩⟩
  exact ⟨_,results_box rfl _ _ _ _ rfl HLD.out,(ua1,ua2,ua3),by rw [HAX.out],HB5.out,by rw [HAX.out];exact HF5.out⟩
 case stop=>
  rintro D c pre W _ _ h _
  exact h.elim
end
section
open Go.RowKit Go.Shelf
theorem arrow_two (X:World) (g cp:Nat) (k0 n0 k1 n1:Int) (u0 u1:Sl) (f0 f1:Fo) (hg:g<X.heap.size) (hcp:2≤cp) (hcm:cp≤maxLen) (c0:X.cell? ⟨g,0,none⟩=some (.int .i64 k0)) (c1:X.cell? ⟨g,1,none⟩=some (.int .i64 n0)) (c2:X.cell? ⟨g,2,none⟩=some (slv u0)) (c3:X.cell? ⟨g,3,none⟩=some (.int .i64 k1)) (c4:X.cell? ⟨g,4,none⟩=some (.int .i64 n1)) (c5:X.cell? ⟨g,5,none⟩=some (slv u1)) (h0:TyV X.heap.size X f0 (slv u0)) (h1:TyV X.heap.size X f1 (slv u1)) (hs:f0.size+f1.size<1000):
  Calls Tryz.prog 39 #[.slice (some ⟨g,0,none⟩) 2 cp] X fun e w'=>∃u':Sl,e = .returned (tyVal 4 0 (slv u'))∧Below X.heap.size X w'∧FreshT 25 X.heap.size w' idn (.cons k0 n0 u0 f0 (.cons k1 n1 (none,0,0) f1 .nil)) u':=by
 have h:=arrow_any X _ _ (two_cells g cp k0 n0 k1 n1 u0 u1 f0 f1 hg hcp hcm c0 c1 c2 c3 c4 c5 h0 h1) (by simp only [Fo.size];omega)
 simpa [Fo.arrF,Fo.len] using h
end
section
open Go.RowKit Go.Shelf Go.Maps Go.WideShapes
theorem txts_pure (f:Fo):f.pure.txts=f.txts:=(Img.txts (f:=f) (g:=f.pure) ((img_iff _ _).2 (Fo.pure_pure f)))
theorem ok_pure (f:Fo):f.pure.ok=f.ok:=(Img.ok (f:=f) (g:=f.pure) ((img_iff _ _).2 (Fo.pure_pure f)))
end
section
def Chl (ch:Nat→List Nat) (y x:Nat):Prop:=y∈ch x
theorem acc_chain {ch:Nat→List Nat}{a:Nat}(h:Acc (Chl ch) a):∀f:Nat→Nat,f 0=a→(∀i,f (i+1)∈ch (f i))→False:=by
 induction h with
 | intro a _ ih=>
  intro f h0 hf
  exact ih (f 1) (by have:=hf 0;rw [h0] at this;exact this) (fun i=>f (i+1)) rfl fun i=>hf (i+1)
theorem acc_round {ch:Nat→List Nat}{l:List Nat}(hl:0<l.length) (h:∀i a b,l[i]? = some a→l[i+1]? = some b→b∈ch a) (hr:∀a b,l[l.length-1]? = some a→l[0]? = some b→b∈ch a) {x:Nat}(hx:x∈l):¬ Acc (Chl ch) x:=by
 intro hacc
 obtain ⟨s,hs,rfl⟩:=List.getElem_of_mem hx
 have hm:∀i,(i+s) % l.length<l.length:=fun i=>Nat.mod_lt _ hl
 refine acc_chain hacc (fun i=>l[(i+s) % l.length]'(hm i)) (by simp [Nat.mod_eq_of_lt hs]) fun i=>?_
 by_cases hc:(i+s) % l.length+1<l.length
 ·have e:(i+1+s) % l.length=(i+s) % l.length+1:=by
   rw [show i+1+s=i+s+1 by omega,Nat.add_mod,Nat.mod_eq_of_lt (show 1<l.length by omega),Nat.mod_eq_of_lt hc]
  refine h ((i+s) % l.length) _ _ (List.getElem?_eq_getElem (hm i)) ?_
  rw [List.getElem?_eq_getElem hc]
  simp only [e]
 ·have hlt:=hm i
  have e0:(i+s) % l.length=l.length-1:=by omega
  have e:(i+1+s) % l.length=0:=by
   have h1:i+1+s=l.length*((i+s) / l.length)+l.length:=by
    have:=Nat.div_add_mod (i+s) l.length
    omega
   rw [h1,Nat.add_mod_right,Nat.mul_mod_right]
  refine hr _ _ ?_ ?_
  ·rw [←e0,List.getElem?_eq_getElem (hm i)]
  ·rw [List.getElem?_eq_getElem hl]
   simp only [e]
def upe (e:Nat→Option Bool) (x:Nat) (b:Bool):Nat→Option Bool:=fun y=>if y=x then some b else e y
structure Dfs (ch:Nat→List Nat) (e:Nat→Option Bool) (S:List (Nat×Nat)):Prop where
 on:∀x∈S,e x.1=some false
 nd:(S.map (·.1)).Nodup
 chain:∀(i:Nat) (a b:Nat×Nat),S[i]? = some a→S[i+1]? = some b→(ch a.1)[a.2]? = some b.1
 past:∀x∈S,∀t,t<x.2→∃y,(ch x.1)[t]? = some y∧e y=some true
 le:∀x∈S,x.2≤(ch x.1).length
 tt:∀x,e x=some true→Acc (Chl ch) x
 ff:∀x,e x=some false→(∀s∈S,s.1≠x)→¬ Acc (Chl ch) x
section CyPs
variable {ch:Nat→List Nat}{e:Nat→Option Bool}{S:List (Nat×Nat)}{r k x:Nat}
theorem Dfs.none:Dfs ch (fun _=>.none) []:=
 ⟨fun x h=>by simp at h,by simp,fun i a b h=>by simp at h,fun x h=>by simp at h,fun x h=>by simp at h,(fun x h=>by cases h),(fun x h=>by cases h)⟩
theorem Dfs.push (h:Dfs ch e S) (hx:∀a,S[S.length-1]? = some a→(ch a.1)[a.2]? = some x) (hn:e x = .none):Dfs ch (upe e x false) (S ++ [(x,0)]):=by
 have hne:∀s∈S,s.1≠x:=fun s hs he=>by have:=h.on s hs;rw [he,hn] at this;cases this
 have hu:∀y,y≠x→upe e x false y=e y:=fun y hy=>by unfold upe;rw [if_neg hy]
 refine ⟨fun s hs=>?_,?_,fun i a b ha hb=>?_,fun s hs t ht=>?_,fun s hs=>?_,fun y hy=>?_,fun y hy ho=>?_⟩
 ·rcases List.mem_append.1 hs with hs|hs
  ·rw [hu _ (hne s hs)];exact h.on s hs
  ·obtain rfl:s=(x,0):=by simpa using hs
   simp [upe]
 ·rw [List.map_append,List.nodup_append]
  refine ⟨h.nd,by simp,fun a ha b hb=>?_⟩
  obtain ⟨s,hs,rfl⟩:=List.mem_map.1 ha
  obtain rfl:b=x:=by simpa using hb
  exact hne s hs
 ·have hbl:=(List.getElem?_eq_some_iff.1 hb).1
  rw [List.length_append,List.length_singleton] at hbl
  rw [List.getElem?_append_left (by omega)] at ha
  by_cases hi:i+1<S.length
  ·rw [List.getElem?_append_left hi] at hb
   exact h.chain i a b ha hb
  ·have e1:i+1=S.length:=by omega
   rw [List.getElem?_append_right (by omega),e1,Nat.sub_self] at hb
   obtain rfl:b=(x,0):=by simpa using hb.symm
   exact hx a (by rw [show S.length-1=i by omega];exact ha)
 ·rcases List.mem_append.1 hs with hs|hs
  ·obtain ⟨y,h1,h2⟩:=h.past s hs t ht
   refine ⟨y,h1,?_⟩
   rw [hu y (fun he=>by rw [he,hn] at h2;cases h2)]
   exact h2
  ·obtain rfl:s=(x,0):=by simpa using hs
   exact absurd ht (Nat.not_lt_zero _)
 ·rcases List.mem_append.1 hs with hs|hs
  ·exact h.le s hs
  ·obtain rfl:s=(x,0):=by simpa using hs
   exact Nat.zero_le _
 ·by_cases he:y=x
  ·subst he;simp [upe] at hy
  ·rw [hu y he] at hy;exact h.tt y hy
 ·have he:y≠x:=fun he=>ho (x,0) (by simp) he.symm
  rw [hu y he] at hy
  exact h.ff y hy fun s hs=>ho s (List.mem_append_left _ hs)
theorem Dfs.step (h:Dfs ch e (S ++ [(r,k)])) (hx:(ch r)[k]? = some x) (ht:e x=some true):Dfs ch e (S ++ [(r,k+1)]):=by
 have hk:=(List.getElem?_eq_some_iff.1 hx).1
 have hm:∀s,s∈S ++ [(r,k+1)]→s∈S ++ [(r,k)]∨s=(r,k+1):=fun s hs=>by
  rcases List.mem_append.1 hs with hs|hs
  ·exact .inl (List.mem_append_left _ hs)
  ·exact .inr (by simpa using hs)
 refine ⟨fun s hs=>?_,by simpa using h.nd,fun i a b ha hb=>?_,fun s hs t htt=>?_,fun s hs=>?_,h.tt,fun y hy ho=>h.ff y hy fun s hs=>?_⟩
 ·rcases hm s hs with hs|rfl
  ·exact h.on s hs
  ·exact h.on (r,k) (by simp)
 ·have hbl:=(List.getElem?_eq_some_iff.1 hb).1
  rw [List.length_append,List.length_singleton] at hbl
  rw [List.getElem?_append_left (by omega)] at ha
  by_cases hi:i+1<S.length
  ·rw [List.getElem?_append_left hi] at hb
   exact h.chain i a b (by rw [List.getElem?_append_left (by omega)];exact ha) (by rw [List.getElem?_append_left hi];exact hb)
  ·have e1:i+1=S.length:=by omega
   rw [List.getElem?_append_right (by omega),e1,Nat.sub_self] at hb
   obtain rfl:b=(r,k+1):=by simpa using hb.symm
   exact h.chain i a (r,k) (by rw [List.getElem?_append_left (by omega)];exact ha) (by rw [List.getElem?_append_right (by omega),e1,Nat.sub_self];rfl)
 ·rcases hm s hs with hs|rfl
  ·exact h.past s hs t htt
  ·rcases Nat.lt_or_ge t k with h1|h1
   ·exact h.past (r,k) (by simp) t h1
   ·obtain rfl:t=k:=by have htt:t<k+1:=htt;omega
    exact ⟨x,hx,ht⟩
 ·rcases hm s hs with hs|rfl
  ·exact h.le s hs
  ·exact hk
 ·rcases List.mem_append.1 hs with hs|hs
  ·exact ho s (List.mem_append_left _ hs)
  ·obtain rfl:s=(r,k):=by simpa using hs
   exact ho (r,k+1) (by simp)
theorem Dfs.pop (h:Dfs ch e (S ++ [(r,k)])) (b:Bool) (hb:b=true→Acc (Chl ch) r) (hf:b=false→¬ Acc (Chl ch) r):Dfs ch (upe e r b) S:=by
 have hnd:=h.nd
 rw [List.map_append,List.nodup_append] at hnd
 have hne:∀s∈S,s.1≠r:=fun s hs=>hnd.2.2 s.1 (List.mem_map_of_mem hs) r (by simp)
 have hu:∀y,y≠r→upe e r b y=e y:=fun y hy=>by unfold upe;rw [if_neg hy]
 have hr:=h.on (r,k) (by simp)
 refine ⟨fun s hs=>?_,hnd.1,fun i a c ha hc=>?_,fun s hs t ht=>?_,fun s hs=>h.le s (List.mem_append_left _ hs),fun y hy=>?_,fun y hy ho=>?_⟩
 ·rw [hu _ (hne s hs)];exact h.on s (List.mem_append_left _ hs)
 ·have h1:=(List.getElem?_eq_some_iff.1 ha).1
  have h2:=(List.getElem?_eq_some_iff.1 hc).1
  exact h.chain i a c (by rw [List.getElem?_append_left h1];exact ha) (by rw [List.getElem?_append_left h2];exact hc)
 ·obtain ⟨y,h1,h2⟩:=h.past s (List.mem_append_left _ hs) t ht
  refine ⟨y,h1,?_⟩
  rw [hu y (fun he=>by rw [he] at h2;rw [hr] at h2;cases h2)]
  exact h2
 ·by_cases he:y=r
  ·subst he
   simp only [upe,if_pos] at hy
   exact hb (by simpa using hy)
  ·rw [hu y he] at hy;exact h.tt y hy
 ·by_cases he:y=r
  ·subst he
   simp only [upe,if_pos] at hy
   exact hf (by simpa using hy)
  ·rw [hu y he] at hy
   refine h.ff y hy fun s hs=>?_
   rcases List.mem_append.1 hs with hs|hs
   ·exact ho s hs
   ·obtain rfl:s=(r,k):=by simpa using hs
    exact fun e=>he e.symm
theorem Dfs.whole (h:Dfs ch e (S ++ [(r,k)])) (hk:k=(ch r).length):Acc (Chl ch) r:=by
 refine ⟨r,fun y hy=>?_⟩
 obtain ⟨t,ht,rfl⟩:=List.getElem_of_mem (show y∈ch r from hy)
 obtain ⟨z,h1,h2⟩:=h.past (r,k) (by simp) t (by show t<k;omega)
 rw [List.getElem?_eq_getElem ht] at h1
 cases h1
 exact h.tt _ h2
theorem Dfs.stuck (h:Dfs ch e (S ++ [(r,k)])) (hx:(ch r)[k]? = some x) (hf:e x=some false):¬ Acc (Chl ch) r:=by
 have hxr:x∈ch r:=List.mem_of_getElem? hx
 by_cases ho:∀s∈S ++ [(r,k)],s.1≠x
 ·exact fun hacc=>h.ff x hf ho (hacc.inv hxr)
 ·have ho:∃s,s∈S ++ [(r,k)]∧s.1=x:=Classical.byContradiction fun hn=>ho fun s hs he=>hn ⟨s,hs,he⟩
  obtain ⟨s,hs,he⟩:=ho
  obtain ⟨i,hi,hsi⟩:=List.getElem_of_mem hs
  have hT:(S ++ [(r,k)]).length=S.length+1:=by simp
    -- from x on to the last one
  obtain ⟨l,hl⟩:∃l,((S ++ [(r,k)]).drop i).map (·.1)=l:=⟨_,rfl⟩
  have hll:l.length=S.length+1-i:=by rw [←hl];simp
  have hat:∀t,l[t]? = ((S ++ [(r,k)])[i+t]?).map (·.1):=fun t=>by rw [←hl,List.getElem?_map,List.getElem?_drop]
  have hlast:l[l.length-1]? = some r:=by
   rw [hat,hll,show i+(S.length+1-i-1)=S.length by omega,List.getElem?_append_right (Nat.le_refl _),Nat.sub_self]
   rfl
  have h0:l[0]? = some x:=by
   rw [hat,Nat.add_zero,List.getElem?_eq_getElem hi,hsi]
   simp [he]
  refine acc_round (l:=l) (by omega) (fun t a b ha hb=>?_) (fun a b ha hb=>?_) (List.mem_of_getElem? hlast)
  ·rw [hat] at ha hb
   obtain ⟨p,hp,rfl⟩:=Option.map_eq_some_iff.1 ha
   obtain ⟨q,hq,rfl⟩:=Option.map_eq_some_iff.1 hb
   exact List.mem_of_getElem? (h.chain (i+t) p q hp (by rw [show i+t+1=i+(t+1) by omega];exact hq))
  ·rw [hlast] at ha
   rw [h0] at hb
   cases ha
   cases hb
   exact hxr
end CyPs
end
section
open Go.RowKit
section
variable {P:Program}{ops:Array Oper}{Q:Exit→Act→World→Prop}{md:Region.Mode}{S:World→Prop}
theorem ops_val {o:Oper}{i:Nat}{d:Option Tmp}{v:Value}{a:Act}{w w':World}{K:Act→World→Prop}
  (hi:ops[i]? = some o) (hd:o.dst=d) (hw:Region.wanted o (yielded ops a.tmps)=true) (he:(execOp a.eval o).run P w = .ok (.value v) w') (hS:S w')
  (hk:K (a.put d v) w'):wpOp P ops Q i (fun a' w'=>S w'∧K a' w') a w:=by
 subst hd
 unfold wpOp
 simp only [hi]
 rw [if_pos hw]
 refine .inl ?_
 unfold Oper.wp
 rw [he]
 simp only [Oper.upon]
 exact ⟨hS,hk⟩
theorem ops_skip {o:Oper}{i:Nat}{a:Act}{w w':World}{K:Act→World→Prop}
  (hi:ops[i]? = some o) (hw:Region.wanted o (yielded ops a.tmps)=true) (he:(execOp a.eval o).run P w = .ok .skip w') (hS:S w')
  (hd:o.dst=none) (hk:K a w'):wpOp P ops Q i (fun a' w'=>S w'∧K a' w') a w:=by
 unfold wpOp
 simp only [hi]
 rw [if_pos hw]
 refine .inl ?_
 unfold Oper.wp
 rw [he]
 simp only [Oper.upon]
 rw [hd]
 exact ⟨hS,hk⟩
theorem ops_call {o:Oper}{i:Nat}{d:Option Tmp}{f:FuncId}{args:Array Value}{a:Act}{w:World}{K:Act→World→Prop}
  (hi:ops[i]? = some o) (hd:o.dst=d) (hw:Region.wanted o (yielded ops a.tmps)=true) (he:(execOp a.eval o).run P w = .ok (.enter f args) w)
  (hc:Calls P f args w fun e w'=>∃v,e = .returned v∧S w'∧K (a.put d v) w'):wpOp P ops Q i (fun a' w'=>S w'∧K a' w') a w:=by
 subst hd
 unfold wpOp
 simp only [hi]
 rw [if_pos hw]
 refine .inl ?_
 unfold Oper.wp
 rw [he]
 simp only [Oper.upon]
 refine hc.mono fun e w' ⟨v,hv,hS,hk⟩=>?_
 subst hv
 exact ⟨hS,hk⟩
end
end
section
open Go.RowKit
structure Btw (B H:Nat) (W W':World):Prop where
 os:W'.os=W.os
 tape:W'.tape=W.tape
 output:W'.output=W.output
 size:W.heap.size≤W'.heap.size
 block:∀b,(b<B∨H≤b)→b<W.heap.size→W'.heap[b]? = W.heap[b]?
theorem Btw.below {B H:Nat}{W W':World}(h:Btw B H W W') (hB:B≤W.heap.size):Below B W W':=⟨h.os,h.tape,h.output,h.size,fun b hb=>h.block b (.inl hb) (by omega)⟩
theorem Btw.trans {B H:Nat}{a b c:World}(x:Btw B H a b) (y:Btw B H b c):Btw B H a c:=
 ⟨y.os.trans x.os,y.tape.trans x.tape,y.output.trans x.output,Nat.le_trans x.size y.size,fun k hk hl=>(y.block k hk (by have:=x.size;omega)).trans (x.block k hk hl)⟩
structure Bt3 (B H M:Nat) (W W':World):Prop where
 os:W'.os=W.os
 tape:W'.tape=W.tape
 output:W'.output=W.output
 size:W.heap.size≤W'.heap.size
 block:∀b,(b<B∨(H≤b∧b<M))→b<W.heap.size→W'.heap[b]? = W.heap[b]?
 same:∀b o,M≤b→W.heap[b]? = some o→o.isCells=false→W'.heap[b]? = some o
theorem Bt3.below {B H M:Nat}{W W':World}(h:Bt3 B H M W W') (hB:B≤W.heap.size):Below B W W':=⟨h.os,h.tape,h.output,h.size,fun b hb=>h.block b (.inl hb) (by omega)⟩
theorem Bt3.trans {B H M:Nat}{a b c:World}(x:Bt3 B H M a b) (y:Bt3 B H M b c):Bt3 B H M a c:=
 ⟨y.os.trans x.os,y.tape.trans x.tape,y.output.trans x.output,Nat.le_trans x.size y.size,fun k hk hl=>(y.block k hk (by have:=x.size;omega)).trans (x.block k hk hl),fun k o hk ho hc=>y.same k o hk (x.same k o hk ho hc) hc⟩
end
section
open Go.RowKit Go.Shelf
attribute [local go_sem] Oper.semAt_some
def KpS (S:Nat→Prop) (W W':World):Prop:=∀b,S b→∀o,W.heap[b]? = some o→o.isCells=true→W'.heap[b]? = some o
theorem KpS.refl (S:Nat→Prop) (W:World):KpS S W W:=fun _ _ _ h _=>h
theorem KpS.t {S:Nat→Prop}{X Y Z:World}(h:KpS S X Y) (k:KpS S Y Z):KpS S X Z:=fun b hb o ho hc=>k b hb o (h b hb o ho hc) hc
theorem KpS.b {S:Nat→Prop}(W:World) (l:Nat) (o o':Obj) (h:W.heap[l]? = some o) (h1:o.isCells=false):KpS S W (W.putObj l o'):=fun b _ o2 ho hc=>by
 have hne:b≠l:=by
  rintro rfl
  rw [h] at ho
  injection ho with ho
  subst ho
  rw [h1] at hc;cases hc
 exact ((grownBy_putObj' W l o').block b (gL ho).1 (fun e=>hne (by cases e;rfl))).trans ho
theorem KpS.boxed {S:Nat→Prop}{Bs:Nat}{W W':World}{t:TypeId}{v:Value}(h:KpS S W W') (hs:S Bs) (hb:Boxed W Bs t v):Boxed W' Bs t v:=h Bs hs _ hb rfl
def RdY (S:Nat→Prop) (w:World) (v:Value) (L:List Tr):Prop:=
 ∃A c,v = .slice A L.length c∧(0<L.length→∃b off cs t,A=some ⟨b,off,none⟩∧S b∧w.heap[b]? = some (Obj.cells cs t)∧∀i (h:i<L.length),w.cell? ⟨b,off+i*3,none⟩=some (.int .i64 L[i].1)∧w.cell? ⟨b,off+i*3+1,none⟩=some (.int .i64 L[i].2.1)∧w.cell? ⟨b,off+i*3+2,none⟩=some (slv L[i].2.2))
theorem RdY.blocks {S:Nat→Prop}{w w':World}{v:Value}{L:List Tr}(h:RdY S w v L) (hb:∀b cs t,S b→w.heap[b]? = some (Obj.cells cs t)→w'.heap[b]? = some (Obj.cells cs t)):RdY S w' v L:=by
 obtain ⟨A,c,hv,h⟩:=h
 refine ⟨A,c,hv,fun hn=>?_⟩
 obtain ⟨b,off,cs,t,hA,hs,hh,hc⟩:=h hn
 have h2:=hb b cs t hs hh
 have e:∀p,w'.cell? ⟨b,p,none⟩=w.cell? ⟨b,p,none⟩:=fun p=>World.cell?_of_block (a:=⟨b,p,none⟩) (h2.trans hh.symm)
 exact ⟨b,off,cs,t,hA,hs,h2,fun i hi=>⟨(e _).trans (hc i hi).1,(e _).trans (hc i hi).2.1,(e _).trans (hc i hi).2.2⟩⟩
theorem RdY.kept {S:Nat→Prop}{w w':World}{v:Value}{L:List Tr}(h:RdY S w v L) (hk:KpS S w w'):RdY S w' v L:=h.blocks fun b _ _ hs hh=>hk b hs _ hh rfl
theorem RdY.below {S:Nat→Prop}{w w':World}{v:Value}{L:List Tr}(h:RdY S w v L) (hk:Below w.heap.size w w'):RdY S w' v L:=h.blocks fun b _ _ _ hh=>(hk.block b (gL hh).1).trans hh
set_option maxRecDepth 100000 in
set_option maxHeartbeats 2000000 in
theorem back1S (n:Nat) (hn:1≤n) (l Bs:Nat) (S:Nat→Prop) (hSB:S Bs) (A:Option Addr) (c:Nat) (L:List Tr) (hL:L.length≤1000000) (J Jx:List (Int×Tr)→World→Prop)
  (hY:∀pre x W,J pre W→NextB L pre x→YieldAt Fence.wide (n-1) Tryz.prog l #[.int .i64 x.1,trV x.2] W fun e W'=>
   (e = .returned (.bool true)∧J (pre ++ [x]) W'∧KpS S W W')∨(e = .returned (.bool false)∧Jx (pre ++ [x]) W'))
  (W:World) (hBs:Boxed W Bs 23 (.slice A L.length c)) (hR:RdY S W (.slice A L.length c) L) (h0:J [] W):
  CallsIn Fence.wide n Tryz.prog 102 #[.func (.yield l) #[] #[],.pointer (some ⟨Bs,0,none⟩)] W fun e W'=>(∃v,e = .returned v)∧
   ((∃ys:List (Int×Tr),ys.map (·.2)=L.reverse∧J ys W')∨(∃pre,Jx pre W')):=by
 refine callsIn_of_wp Tryz.func102 rfl trivial ?_ rfl
 simp only [Tryz.ntmps102,List.size_toArray,List.length_cons,List.length_nil,Nat.reduceAdd,Nat.reduceSub,Array.replicate_succ,Array.replicate_zero,List.push_toArray,List.append_toArray,List.nil_append,List.cons_append]
 have e00:W.cell? ⟨Bs,0,none⟩=some (.slice A L.length c):=hBs.cell
 have HBS:=kI hBs
 clear hBs
 gi_wp2
 gi_loopw [3] (fun i wr=>∃(k:Nat) (z:Int) (pre:List (Int×Tr)),k≤L.length∧i = .int .i64 z∧z+1=k∧pre.map (·.2)=(L.drop k).reverse∧J pre wr∧KpS S W wr∧Boxed wr Bs 23 (.slice A L.length c))
  (fun i _=>(intOf i+1).toNat)
 case atStart=>exact ⟨L.length,_,[],Nat.le_refl _,rfl,by omega,by simp,h0,KpS.refl _ _,HBS.out⟩
 case round=>
  obtain ⟨k,z,pre,hk,rfl,hz,hpre,hJs,hnx,hbx⟩:=hrel
  have e0:wr.cell? ⟨Bs,0,none⟩=some (.slice A L.length c):=hbx.cell
  have HBX:=kI hbx
  clear hbx
  by_cases hk0:1≤k
  ·obtain ⟨A',c',hv,hf⟩:=hR.kept hnx
   injection hv with hv1 _ hv3
   subst hv1;subst hv3
   obtain ⟨b,off,_,_,rfl,_,_,hc⟩:=hf (by omega)
   obtain ⟨c0,c1,c2⟩:=hc (k-1) (by omega)
   have hdrop:L.drop (k-1)=L[k-1] :: L.drop k:=by
    have:=List.drop_eq_getElem_cons (l:=L) (i:=k-1) (by omega)
    rwa [show k-1+1=k by omega] at this
   have hpl:pre.length<L.length:=by
    have:(pre.map (·.2)).length=pre.length:=by simp
    rw [hpre] at this
    simp at this
    omega
   have hnb:NextB L pre (z,L[k-1]):=by
    have hpl2:pre.length=L.length-k:=by
     have:(pre.map (·.2)).length=pre.length:=by simp
     rw [hpre] at this
     simp at this
     omega
    refine ⟨hpl,?_⟩
    have e:L.length-1-pre.length=k-1:=by omega
    rw [Prod.mk.injEq]
    exact ⟨by omega,by simp only [e]⟩
   obtain ⟨x,hx⟩:∃x,L[k-1]=x:=⟨_,rfl⟩
   rw [hx] at c0 c1 c2 hdrop hnb
   obtain ⟨x1,x2,x3⟩:=x
   dsimp only [slv] at c2
   obtain ⟨fn,tmps,assign,body,hy,hR2⟩:=hY pre (z,x1,x2,x3) wr hJs hnb
   dsimp only [trV,slv] at hy
   have f1:(0:Int)≤z:=by omega
   have f2:z<(L.length:Int):=by omega
   have f3:z.toNat=k-1:=by omega
   have f4:decide ((0:Int)≤z)=true:=decide_eq_true f1
   have HZ:=kI hz
   have HP:=kI hpre
   have HD:=kI hdrop
   clear hz hpre hdrop hx hc hf hpl hnb
   gi_wp2
   refine hR2.mono ?_
   rintro e W3 (⟨rfl,hJ3,hk3⟩|⟨rfl,hJx3⟩)
   ·gi_wp2
    go_roundw
    case rel=>exact ⟨k-1,z-1,pre ++ [(z,x1,x2,x3)],by omega,by go_num,by have:=HZ.out;omega,by simp [HP.out,HD.out],hJ3,hnx.t hk3,hk3.boxed hSB HBX.out⟩
    case measure=>simp [intOf];omega
   ·gi_wp2
    refine bodyPost_ret (results_none rfl _ _ _) rfl ?_
    exact ⟨⟨_,rfl⟩,.inr ⟨_,hJx3⟩⟩
  ·obtain rfl:k=0:=by omega
   have f1:¬ (0:Int)≤z:=by omega
   have f4:decide ((0:Int)≤z)=false:=decide_eq_false f1
   have HP:=kI hpre
   clear hz hpre
   gi_wp2
   go_end0
   exact ⟨⟨_,rfl⟩,.inl ⟨pre,by simpa using HP.out,hJs⟩⟩
theorem back_seqS (n:Nat) (hn:1≤n) (Bs:Nat) (S:Nat→Prop) (hSB:S Bs) (t:TypeId) (A:Option Addr) (c:Nat) (L:List Tr) (hL:L.length≤1000000) (w:World) (hBs:Boxed w Bs 23 (.slice A L.length c)) (hR:RdY S w (.slice A L.length c) L):
  SeqG n Tryz.prog 102 #[.pointer (some ⟨Bs,0,none⟩)] t (fun x:Int×Tr=>#[Value.int .i64 x.1,trV x.2]) (KpS S) (fun ys=>ys.map (·.2)=L.reverse) (fun _=>True) (NextB L) w:=fun l J Jx W hW _ _ hY h0=>by
 have hbs:Boxed W Bs 23 (.slice A L.length c):=(hW.block Bs hBs.lt).trans hBs
 refine (back1S n hn l Bs S hSB A c L hL J Jx hY W hbs (hR.below hW) h0).mono ?_
 rintro e W' ⟨he,⟨ys,hy,hj⟩|⟨pre,hj⟩⟩
 ·exact ⟨he,.inl ⟨ys,hy,hj⟩⟩
 ·exact ⟨he,.inr ⟨pre,trivial,hj⟩⟩
end
section
open Go.RowKit Go.Shelf
def grO:Fo→List Tr
 | .nil=>[]
 | .cons k n u ps r=>grO r++(k,n,u) :: grO ps
theorem grO_app (f g:Fo):grO (f.app g)=grO g++grO f:=by
 induction f with
 | nil=>simp [Fo.app,grO]
 | cons k n u ps r _ ih=>simp [Fo.app,grO,ih]
theorem grO_size (f:Fo):(grO f).length=f.size:=by
 induction f with
 | nil=>rfl
 | cons k n u ps r i1 i2=>simp only [grO,List.length_append,List.length_cons,Fo.size];omega
theorem grO_pre (f:Fo):∀x∈grO f,x∈f.pre:=by
 induction f with
 | nil=>intro x hx;cases hx
 | cons k n u ps r i1 i2=>
  intro x hx
  simp only [grO,List.mem_append,List.mem_cons] at hx
  simp only [Fo.pre,List.mem_cons,List.mem_append]
  rcases hx with hx|rfl|hx
  ·exact .inr (.inr (i2 x hx))
  ·exact .inl rfl
  ·exact .inr (.inl (i1 x hx))
theorem trC_at (L:List Tr) (i:Nat) (hi:i<L.length):(L.flatMap trC)[i*3]? = some (.int .i64 L[i].1)∧(L.flatMap trC)[i*3+1]? = some (.int .i64 L[i].2.1)∧(L.flatMap trC)[i*3+2]? = some (slv L[i].2.2):=by
 induction L generalizing i with
 | nil=>simp at hi
 | cons x L ih=>
  cases i with
  | zero=>simp [trC]
  | succ i=>
   have:=ih i (by simpa using hi)
   have e:∀j,((x :: L).flatMap trC)[(i+1)*3+j]? = (L.flatMap trC)[i*3+j]?:=fun j=>by
    rw [List.flatMap_cons,List.getElem?_append_right (by simp [trC];omega)]
    congr 1
    simp [trC];omega
   have e0:=e 0
   simp only [Nat.add_zero] at e0
   rw [e0,e 1,e 2]
   simpa using this
theorem own_rdY {w:World}{base:Nat}{v:Value}{L:List Tr}(h:w.ownsRow base 25 3 v L.length (L.flatMap trC)) (S:Nat→Prop) (hS:∀g,v.ownBlock=some g→S g):RdY S w v L:=by
 have h0:=h
 rcases h.2 with ⟨rfl,hn⟩|⟨g,cap,cur,rfl,hb,hg,_⟩
 ·exact ⟨none,0,by rw [hn],fun hp=>by omega⟩
 ·refine ⟨_,cap,rfl,fun hp=>⟨g,0,cur,_,rfl,hS g rfl,hg,fun i hi=>?_⟩⟩
  obtain ⟨q0,q1,q2⟩:=trC_at L i hi
  simp only [Nat.zero_add]
  exact ⟨by rw [h0.cellAt _ (by omega)];exact q0,by rw [h0.cellAt _ (by omega)];exact q1,by rw [h0.cellAt _ (by omega)];exact q2⟩
theorem app_one (W:World) (base:Nat) (v:Value) (L:List Tr) (own:W.ownsRow base 25 3 v L.length (L.flatMap trC)) (vx:Value) (x:Tr) (rd:Rd W 3 vx 1 (trC x)) (hl:L.length≤10000000) (hbase:base≤W.heap.size):
  ∃(v':Value) (W':World),(app_ #[23,23] 23 #[v,vx]).run Tryz.prog W = .ok v' W'∧W'.ownsRow base 25 3 v' (L ++ [x]).length ((L ++ [x]).flatMap trC)∧Below base W W'∧W.grownBy W' v.ownBlock∧(v'.ownBlock=v.ownBlock∨v'.ownBlock=some W.heap.size):=by
 obtain ⟨i0,hi0,hz0,hz1,hz2⟩:=info_parts tyInfo
 have rd':Rd W 3 vx [x].length ([x].flatMap trC):=by simpa using rd
 obtain ⟨v1,w1,hrun,hown,hg,hat⟩:=run_append_rd (P:=Tryz.prog) W base 23 23 25 i0 _ 3 40 Tryz.underlying23 hi0 hz0 hz1 hz2 rfl (by omega) v _ _ own vx _ _ rd' (trC_one _) (by unfold maxLen;simp;omega) (by simp;omega) hbase
 refine ⟨v1,w1,hrun,?_,(Below.refl _ _).grown hg hbase (fun k e=>(own.lt k e).1),hg,hat⟩
 rw [List.length_append,List.flatMap_append]
 exact hown
end
end Go.Proofs.YtmamdiggjghjkaaGreatDoor
