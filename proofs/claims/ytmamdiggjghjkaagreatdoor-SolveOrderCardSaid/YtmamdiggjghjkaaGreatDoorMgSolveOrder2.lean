/- Texts of one proof, one behind the other. -/
import Derived.Test.YtmamdiggjghjkaaGreatDoorMgSolveOrder1
import Derived.RangeFuncNested
import Derived.RangeFuncBound
import Derived.RangeFuncCalls
import Derived.RangeFuncLeaves
import Derived.OwnWalkIn
import Derived.Lib.Hide
set_option linter.unusedVariables false
namespace Go.Proofs.YtmamdiggjghjkaaGreatDoor
section
open Go.RowKit
variable {n:Nat}{P:Program}
def CStep (B:Nat) (t:TypeId) (W W':World):Prop:=∃row,W.grownBy W' row∧∀r,row=some r→B≤r∧∃cs,W.heap[r]? = some (.cells cs t)
def AbC {β:Type}(B:Nat) (t:TypeId) (J:β→World→Prop):Prop:=∀s W W',J s W→CStep B t W W'→J s W'
def SeqC {α:Type}(n:Nat) (P:Program) (g:Nat) (lb:Array Value) (t:TypeId) (encs:α→Array Value) (Kp:World→World→Prop) (S Sp:List α→Prop) (N:Nat) (w:World):Prop:=
 ∀(l:Nat) (J Jx:List α→World→Prop) (W:World),Below w.heap.size w W→AbC W.heap.size t J→AbC W.heap.size t Jx→
  (∀pre x W1,J pre W1→pre.length<N→YieldAt Fence.wide (n-1) P l (encs x) W1 fun e W'=>
   (e = .returned (.bool true)∧J (pre ++ [x]) W'∧Kp W1 W')∨(e = .returned (.bool false)∧Jx (pre ++ [x]) W'))→J [] W→
  CallsIn Fence.wide n P g (#[.func (.yield l) #[] #[]]++lb) W fun e W'=>(∃v,e = .returned v)∧((∃xs,S xs∧J xs W')∨(∃pre,Sp pre∧Jx pre W'))
theorem CStep.same {B:Nat}{t:TypeId}{W W':World}(h:CStep B t W W') {k:Nat}{o:Obj}(hk:W.heap[k]? = some o) (ho:o.isCells=false):W'.heap[k]? = some o:=by
 obtain ⟨row,hg,hr⟩:=h
 refine (hg.block k (gL hk).1 fun e=>?_).trans hk
 obtain ⟨_,cs,hc⟩:=hr k e.symm
 rw [hk] at hc
 cases hc
 cases ho
theorem CStep.below {B C:Nat}{t:TypeId}{W W':World}(h:CStep B t W W') (hC:C≤B) (hW:C≤W.heap.size):Below C W W':=by
 obtain ⟨row,hg,hr⟩:=h
 exact ⟨hg.os,hg.tape,hg.output,hg.size,fun k hk=>hg.block k (by omega) fun e=>by have:=(hr k e.symm).1;omega⟩
theorem CStep.mono {B C:Nat}{t:TypeId}{W W':World}(h:CStep B t W W') (hC:C≤B):CStep C t W W':=by
 obtain ⟨row,hg,hr⟩:=h
 exact ⟨row,hg,fun r e=>⟨Nat.le_trans hC (hr r e).1,(hr r e).2⟩⟩
theorem CStep.box {B:Nat}{t u:TypeId}{W W':World}(h:CStep B t W W') (hne:u≠t) {b:Nat}{v:Value}(hb:Boxed W b u v):Boxed W' b u v:=by
 obtain ⟨row,hg,hr⟩:=h
 refine hb.kept hg fun e=>?_
 obtain ⟨_,cs,hc⟩:=hr b e.symm
 rw [show W.heap[b]? = _ from hb] at hc
 cases hc
 exact hne rfl
theorem AbC.pure {β:Type}{B:Nat}{t:TypeId}{p:β→Prop}:AbC B t (fun s (_:World)=>p s):=fun _ _ _ h _=>h
theorem AbC.and {β:Type}{B:Nat}{t:TypeId}{I J:β→World→Prop}(h:AbC B t I) (k:AbC B t J):AbC B t (fun s W=>I s W∧J s W):=fun s W W' hs hc=>⟨h s W W' hs.1 hc,k s W W' hs.2 hc⟩
def Laid (w:World) (r:Loop) (W:World):Prop:=W.heap[w.heap.size+1]? = some (.loop r)∧W.heap[w.heap.size]? = some (.deferred (some []))
theorem Laid.step {w:World}{r:Loop}{B:Nat}{t:TypeId}{W W':World}(h:Laid w r W) (hc:CStep B t W W'):Laid w r W':=⟨hc.same h.1 rfl,hc.same h.2 rfl⟩
theorem Laid.from {w:World}{r:Loop}{W W':World}(h:Laid w r W) (hk:KeepsFrom w.heap.size W W'):Laid w r W':=⟨hk.same _ _ (by omega) h.1 rfl,hk.same _ _ (Nat.le_refl _) h.2 rfl⟩
theorem Laid.put {w:World}{r:Loop}{W:World}(h:Laid w r W) (r':Loop):Laid w r' (W.putObj (w.heap.size+1) (.loop r')):=
 ⟨World.putObj_heap_same (gL h.1).1,(World.putObj_heap_other (by omega)).trans h.2⟩
theorem Laid.new (w:World) (r:Loop):Laid w r ((w.alloc (.deferred (some []))).alloc (.loop r)):=by
 refine ⟨?_,(Below.heap_alloc _ _ _ (by simp)).trans (World.alloc_heap_new w _)⟩
 have:=World.alloc_heap_new (w.alloc (.deferred (some []))) (.loop r)
 rwa [World.size_alloc] at this
theorem wpIn_rangeC {α:Type}{g:Operand}{ps:Array Tmp}{assign body:Code}{Q:Exit→Act→World→Prop}{a:Act}{w:World}
  (h1:1≤n) {gf:Nat} {lb:Array Value} (hg:a.eval g = .func (.func gf) #[] lb) (eg:∀args w,(callFunc gf args).run P w = .ok (.enter gf args) w)
  {t:TypeId} {encs:α→Array Value} {Kp:World→World→Prop} {S Sp:List α→Prop} {N:Nat} {w0:World} (hseq:SeqC (n-1) P gf lb t encs Kp S Sp N w0) (hb0:Below w0.heap.size w0 w)
  (hKt:∀ {A B C:World},Kp A B→Kp B C→Kp A C) (hKb:∀(W:World) (l:Nat) (o o':Obj),w.heap.size≤l→W.heap[l]? = some o→o.isCells=false→o.isWalk=false→Kp W (W.putObj l o')) (hps:∀x,(encs x).size=ps.size)
  (I:List α→World→Prop) (Ix:Code→List α→World→Prop) (hI:OwnFrom w.heap.size I) (hIx:∀c,OwnFrom w.heap.size (Ix c)) (hIc:AbC w.heap.size t I) (hIxc:∀c,AbC w.heap.size t (Ix c)) (h0:I [] w)
  (Ax:α→Act→World→Prop) (hAx:∀x a',OwnFrom w.heap.size (fun (_:Unit) W=>Ax x a' W))
  (hassign:∀(l:Nat) (pre:List α) (x:α) (W:World) (K:Act→World→Prop),I pre W→(∀a' W',KeepsFrom w.heap.size W W'→Kp W W'→I pre W'→Ax x a' W'→K a' W')→
   assign.wpIn (Fence.wide.inRound l) (n-1-1) P (Exit.then K (fun _ _ _=>False)) { tmps:=(ps.zip (encs x)).foldl (fun t (p,v)=>t.setIfInBounds p v) a.tmps,defers:=[] } W)
  (hbody:∀(l:Nat) (pre:List α) (x:α) (a':Act) (W:World),w.heap.size≤l→I pre W→Ax x a' W→pre.length<N→body.wpIn (Fence.wide.inRound l) (n-1-1) P (ownPostG w.heap.size Kp I Ix (pre ++ [x]) W) a' W)
  (hdone:∀(D:Nat) (xs:List α) (W:World),w.heap.size≤D→S xs→I xs W→W.heap[D]? = some (.deferred (some []))→Q .normal { a with defers:={ target:=.collected D,args:=#[] } :: a.defers } W)
  (hstop:∀(D:Nat) (c:Code) (pre:List α) (W:World),w.heap.size≤D→Sp pre→Ix c pre W→W.heap[D]? = some (.deferred (some []))→c.wpIn Fence.wide n P Q { a with defers:={ target:=.collected D,args:=#[] } :: a.defers } W):
  (Code.rangeFunc g ps assign body).wpIn Fence.wide n P Q a w:=by
 refine wpIn_rangeFunc fun fn hfn=>?_
 obtain ⟨R,hR⟩:∃R:LoopState→Option Code→Loop,R=fun st pe=>{ state:=st,pending:=pe,fn,tmps:=a.tmps,params:=ps,assign,body,defers:=w.heap.size }:=⟨_,rfl⟩
 obtain ⟨W1,hW1⟩:∃W1,(w.alloc (.deferred (some []))).alloc (.loop (R .ready none))=W1:=⟨_,rfl⟩
 have hL1:Laid w (R .ready none) W1:=by rw [←hW1];exact Laid.new w _
 have hI1:I [] W1:=by rw [←hW1];exact hI.alloc _ (hI.alloc _ h0)
 have hs1:W1.heap.size=w.heap.size+2:=by rw [←hW1];simp
 have hb1:Below w0.heap.size w0 W1:=by
  rw [←hW1];exact hb0.trans ((((Below.refl _ w).alloc (Nat.le_refl _) _).alloc (by simp) _).mono hb0.size)
  -- the caller's word, put where a round's record stands
 have put:∀ {r:Loop} (r':Loop) {W:World},Laid w r W→Kp W (W.putObj (w.heap.size+1) (.loop r')):=fun r' W h=>hKb _ _ _ _ (by omega) h.1 rfl rfl
 have wide:∀ {W W':World},CStep W1.heap.size t W W'→CStep w.heap.size t W W':=fun h=>h.mono (by omega)
 refine ⟨w.heap.size+1,[{ target:=.collected w.heap.size,args:=#[] }],W1,{ target:=.fn (.func gf) lb,args:=#[.func (.yield (w.heap.size+1)) #[] #[]] },W1,gf,#[.func (.yield (w.heap.size+1)) #[] #[]]++lb,W1,?_,?_,?_,?_,fun _=>h1,?_⟩
 ·rw [←hW1,hR];exact run_enterLoop_outer _ _ _ _ _
 ·simp only [resolve,hg];simp [go_sem]
 ·exact fun _ _=>trivial
 ·simp [invoke,go_sem,eg]
 refine (hseq (w.heap.size+1) (fun pre W=>I pre W∧Laid w (R .ready none) W) (fun pre W=>∃c,Ix c pre W∧Laid w (R .done (some c)) W) W1 hb1
  (fun s X Y hs hc=>⟨hIc s X Y hs.1 (wide hc),hs.2.step hc⟩) (fun s X Y ⟨c,hs,hl⟩ hc=>⟨c,hIxc c s X Y hs (wide hc),hl.step hc⟩) ?_ ⟨hI1,hL1⟩).mono ?_
 ·rintro pre x W ⟨hi,hl⟩ hlen
  have hy:=run_yield (P:=P) (args:=encs x) hl.1 (by rw [hR];exact hps x)
  rw [hR] at hy
  refine ⟨fn,_,assign,body,hy,roundIn_of_wpIn hfn (hassign _ pre x W _ hi ?_)⟩
  clear hy
  intro a' X hkX hpX hiX hax
  have hlX:=hl.from hkX
  refine ⟨_,run_beginRound hlX.1 (by rw [hR]),?_⟩
  have hlB:=hlX.put { R .ready none with state:=.busy }
  have hiB:=hI.putObj (.loop { R .ready none with state:=.busy }) hiX (by omega) hlX.1 rfl
  have haB:=(hAx x a').putObj (s:=()) (.loop { R .ready none with state:=.busy }) hax (by omega) hlX.1 rfl
  have hpB:=hKt hpX (put { R .ready none with state:=.busy } hlX)
  refine wpIn_mono (hbody _ pre x a' _ (by omega) hiB haB hlen) ?_
  have stop:∀(c:Code) (W3:World),KeepsFrom w.heap.size (X.putObj (w.heap.size+1) (.loop { R .ready none with state:=.busy })) W3→Ix c (pre ++ [x]) W3→
    ∃v w',(Instr.endRound (w.heap.size+1) (some c)).run P W3 = .ok v w'∧(((.returned v:Ending) = .returned (.bool true)∧(I (pre ++ [x]) w'∧Laid w (R .ready none) w')∧Kp W w')∨((.returned v:Ending) = .returned (.bool false)∧∃c,Ix c (pre ++ [x]) w'∧Laid w (R .done (some c)) w')):=by
   intro c W3 hk3 hi3
   have hl3:=hlB.from hk3
   have he:=run_endRound (P:=P) (some c) hl3.1
   refine ⟨_,_,he,.inr ⟨rfl,c,(hIx c).putObj _ hi3 (by omega) hl3.1 rfl,?_⟩⟩
   have:=hl3.put (R .done (some c))
   rw [hR] at this ⊢
   exact this
  rintro e a3 W3 hp
  cases e with
  | normal=>
   obtain ⟨hk3,hp3,hi3⟩:=hp
   have hl3:=hlB.from hk3
   have he:=run_endRound (P:=P) none hl3.1
   refine ⟨_,_,he,.inl ⟨rfl,⟨hI.putObj _ hi3 (by omega) hl3.1 rfl,?_⟩,hKt (hKt hpB hp3) (put _ hl3)⟩⟩
   have:=hl3.put (R .ready none)
   rw [hR] at this ⊢
   exact this
  | ret=>exact stop .ret W3 hp.1 hp.2
  | exit id=>exact stop (.exit id) W3 hp.1 hp.2
  | goto t=>exact stop (.goto t) W3 hp.1 hp.2
  | panic ch=>exact hp.elim
  | outgrown=>exact hp.elim
 ·rintro e W2 ⟨⟨v,rfl⟩,(⟨xs,hS,hi,hl⟩|⟨pre,hSp,c,hi,hl⟩)⟩
  ·have he:=run_endLoop (P:=P) hl.1 (by rw [hR];simp)
   rw [hR] at he
   exact ⟨none,_,he,hdone _ xs _ (Nat.le_refl _) hS (hI.putObj _ hi (by omega) hl.1 rfl) ((World.putObj_heap_other (by omega)).trans hl.2)⟩
  ·have he:=run_endLoop (P:=P) hl.1 (by rw [hR];simp)
   rw [hR] at he
   exact ⟨some c,_,he,hstop _ c pre _ (Nat.le_refl _) hSp ((hIx c).putObj _ hi (by omega) hl.1 rfl) ((World.putObj_heap_other (by omega)).trans hl.2)⟩
end
section
open Go.RowKit Go.Shelf
attribute [local go_sem] Oper.semAt_some
namespace Fo
def top:Fo→List Tr
 | nil=>[]
 | cons k n u _ r=>(k,n,u) :: r.top
def pre:Fo→List Tr
 | nil=>[]
 | cons k n u ps r=>(k,n,u) :: (ps.pre++r.pre)
theorem top_len (f:Fo):f.top.length=f.len:=by
 induction f with
 | nil=>rfl
 | cons k n u ps r _ ih=>simp [top,len,ih]
theorem pre_len (f:Fo):f.pre.length=f.size:=by
 induction f with
 | nil=>rfl
 | cons k n u ps r ih1 ih2=>simp [pre,size,ih1,ih2];omega
theorem top_app (f g:Fo):(f.app g).top=f.top++g.top:=by
 induction f with
 | nil=>rfl
 | cons k n u ps r _ ih=>simp [top,app,ih]
theorem pre_app (f g:Fo):(f.app g).pre=f.pre++g.pre:=by
 induction f with
 | nil=>rfl
 | cons k n u ps r _ ih=>simp [pre,app,ih]
theorem pre_next (k n:Int) (u:Sl) (ps r:Fo):(cons k n u ps r).pre=(k,n,u) :: (ps.app r).pre:=by simp [pre,pre_app]
end Fo
def TyL (B:Nat) (w:World):Fo→Prop
 | .nil=>True
 | .cons _ _ u ps r=>TyV B w ps (slv u)∧TyL B w r
theorem TyL.app {B:Nat}{w:World}{f g:Fo}(h:TyL B w f) (k:TyL B w g):TyL B w (f.app g):=by
 induction f with
 | nil=>exact k
 | cons _ _ _ _ r _ ih=>exact ⟨h.1,ih h.2⟩
theorem TyL.below {B:Nat}{w w':World}{f:Fo}(h:TyL B w f) (hb:Below B w w'):TyL B w' f:=by
 induction f with
 | nil=>trivial
 | cons _ _ _ _ r _ ih=>exact ⟨h.1.below hb,ih h.2⟩
theorem TyC.list {B:Nat}{w:World}{f:Fo}{b off:Nat}(h:TyC B w f b off):TyL B w f:=by
 induction f generalizing off with
 | nil=>trivial
 | cons _ _ _ _ r _ ih=>obtain ⟨_,_,_,h4,h5⟩:=tyC_cons.1 h;exact ⟨h4,ih h5⟩
theorem TyV.list {B:Nat}{w:World}{f:Fo}{v:Value}(h:TyV B w f v):TyL B w f:=by
 cases f with
 | nil=>trivial
 | cons k n u ps r=>obtain ⟨b,off,cap,_,_,_,_,hc⟩:=tyV_cons.1 h;exact TyC.list hc
theorem tyC_rd {B:Nat}{w:World}{f:Fo}{b off:Nat}(h:TyC B w f b off):∀i (hi:i<f.top.length),w.cell? ⟨b,off+i*3,none⟩=some (.int .i64 f.top[i].1)∧w.cell? ⟨b,off+i*3+1,none⟩=some (.int .i64 f.top[i].2.1)∧w.cell? ⟨b,off+i*3+2,none⟩=some (slv f.top[i].2.2):=by
 induction f generalizing off with
 | nil=>intro i hi;simp [Fo.top] at hi
 | cons k n u ps r _ ih=>
  obtain ⟨h1,h2,h3,_,h5⟩:=tyC_cons.1 h
  intro i hi
  cases i with
  | zero=>simpa [Fo.top] using ⟨h1,h2,h3⟩
  | succ i=>
   have:=ih h5 i (by simpa [Fo.top] using hi)
   rw [show off+(i+1)*3=off+3+i*3 by omega]
   simpa [Fo.top] using this
theorem TyV.rd {B:Nat}{w:World}{f:Fo}{v:Value}(h:TyV B w f v):RdX B w v f.top:=by
 cases f with
 | nil=>
  obtain ⟨A,c,rfl⟩:=tyV_nil.1 h
  exact ⟨A,c,rfl,fun h=>by simp [Fo.top] at h⟩
 | cons k n u ps r=>
  obtain ⟨b,off,cap,rfl,_,_,hb,hc⟩:=tyV_cons.1 h
  exact ⟨_,cap,by rw [Fo.top_len];rfl,fun _=>⟨b,off,rfl,hb,tyC_rd hc⟩⟩
def stk (R:Fo):List Value:=R.top.reverse.flatMap trC
theorem stk_cons (k n:Int) (u:Sl) (ps r:Fo):stk (.cons k n u ps r)=stk r++trC (k,n,u):=by simp [stk,Fo.top]
theorem stk_app (f r:Fo):stk (f.app r)=stk r++f.top.reverse.flatMap trC:=by simp [stk,Fo.top_app]
theorem trC_len (L:List Tr):(L.flatMap trC).length=L.length*3:=by
 induction L with
 | nil=>rfl
 | cons x L ih=>simp [trC,ih];omega
theorem stk_len (R:Fo):(stk R).length=R.len*3:=by rw [stk,trC_len];simp [Fo.top_len]
theorem own_cut {w:World}{base:Nat}{e:TypeId}{size:Nat}{A:Option Addr}{n c:Nat}{xs ys:List Value}(h:w.ownsRow base e size (.slice A n c) n (xs++ys)) (k:Nat) (hk:k≤n) (hx:xs.length=k*size):w.ownsRow base e size (.slice A k c) k xs:=by
 refine ⟨hx,?_⟩
 rcases h.2 with ⟨h0,h1⟩|⟨g,cap,cur,h0,hb,hg,hnc,hcm,hcs,htake⟩
 ·injection h0 with h2 h3 h4
  subst h2;subst h4
  obtain rfl:k=0:=by omega
  exact .inl ⟨rfl,rfl⟩
 ·injection h0 with h2 h3 h4
  subst h2;subst h4
  refine .inr ⟨g,c,cur,rfl,hb,hg,by omega,hcm,hcs,?_⟩
  have:(cur.toList.take (n*size)).take (k*size)=(xs++ys).take (k*size):=by rw [htake]
  rw [List.take_take,Nat.min_eq_left (Nat.mul_le_mul_right _ hk)] at this
  rw [this,←hx,List.take_left]
structure KpC (B:Nat) (W W':World):Prop where
 below:Below B W W'
 kept:∀(k:Nat) (cs:Array Value),W.heap[k]? = some (Obj.cells cs 25)→W'.heap[k]? = some (Obj.cells cs 25)
theorem KpC.t {B:Nat}{X Y Z:World}(h:KpC B X Y) (k:KpC B Y Z):KpC B X Z:=⟨h.below.trans k.below,fun i cs hi=>k.kept i cs (h.kept i cs hi)⟩
theorem KpC.b {B:Nat}{w:World}(hn:B≤w.heap.size) (W:World) (l:Nat) (o o':Obj) (hl:w.heap.size≤l) (h:W.heap[l]? = some o) (h1:o.isCells=false) (h2:o.isWalk=false):KpC B W (W.putObj l o'):=by
 refine ⟨belowK_b hn W l o o' hl h h1 h2,fun k cs hk=>?_⟩
 refine ((grownBy_putObj' W l o').block k (gL hk).1 fun e=>?_).trans hk
 cases e
 rw [h] at hk
 cases hk
 cases h1
theorem KpC.of_below {B:Nat}{W W':World}(h:Below W.heap.size W W') (hB:B≤W.heap.size):KpC B W W':=
 ⟨h.mono hB,fun k _ hk=>(h.block k (gL hk).1).trans hk⟩
theorem KpC.own {B base:Nat}{W W':World}{v:Value}{n:Nat}{xs:List Value}(h:KpC B W W') (ho:W.ownsRow base 25 3 v n xs):W'.ownsRow base 25 3 v n xs:=by
 refine ⟨ho.1,?_⟩
 rcases ho.2 with h0|⟨g,cap,cur,h0,hb,hg,hr⟩
 ·exact .inl h0
 ·exact .inr ⟨g,cap,cur,h0,hb,h.kept _ _ hg,hr⟩
end
section
open Go.RowKit
structure Hole where
 b:Nat
 off:Nat
 k:Int
 n:Int
 u:Sl
 ps:Fo
def nm (num:Int→Int) (k n:Int):Int:=if k=1 then num n else n
def Img (num:Int→Int):Fo→Fo→Prop
 | .nil,.nil=>True
 | .cons k n _ ps r,.cons k' n' _ ps' r'=>k'=k∧n'=nm num k n∧Img num ps ps'∧Img num r r'
 | _,_=>False
theorem Img.len {num:Int→Int}{f g:Fo}(h:Img num f g):g.len=f.len:=by
 induction f generalizing g with
 | nil=>cases g<;>simp_all [Img,Fo.len]
 | cons k n u ps r _ ih=>
  cases g with
  | nil=>simp [Img] at h
  | cons k' n' u' ps' r'=>simp only [Img] at h;simp only [Fo.len,ih h.2.2.2]
theorem Img.size {num:Int→Int}{f g:Fo}(h:Img num f g):g.size=f.size:=by
 induction f generalizing g with
 | nil=>cases g<;>simp_all [Img,Fo.size]
 | cons k n u ps r ih1 ih=>
  cases g with
  | nil=>simp [Img] at h
  | cons k' n' u' ps' r'=>simp only [Img] at h;simp only [Fo.size,ih h.2.2.2,ih1 h.2.2.1]
def TyAt (W:World) (b off:Nat) (k n:Int) (g:Fo):Prop:=
 W.cell? ⟨b,off,none⟩=some (.int .i64 k)∧W.cell? ⟨b,off+1,none⟩=some (.int .i64 n)∧∃u:Sl,W.cell? ⟨b,off+2,none⟩=some (slv u)∧TyV W.heap.size W g (slv u)
def isT (T:TypeId) (rt:Nat) (w:World) (b:Nat):Prop:=b≠rt∧∃cs,w.heap[b]? = some (Obj.cells cs T)
theorem isT.lt {T:TypeId}{rt:Nat}{w:World}{b:Nat}(h:isT T rt w b):b<w.heap.size:=by
 obtain ⟨_,cs,h⟩:=h
 exact (gL h).1
def Aside (Hs:List Hole) (b off:Nat):Prop:=∀h∈Hs,h.b=b→off<h.off∨h.off+3≤off
def Wand (num:Int→Int) (T:TypeId) (rt:Nat) (B:Nat) (rb:Nat) (k n:Int) (ps:Fo) (w:World) (Hs:List Hole):Prop:=
 ∀W:World,w.heap.size≤W.heap.size→(∀h∈Hs,∃g,Img num h.ps g∧TyAt W h.b h.off h.k (nm num h.k h.n) g)→
  (∀b off,B≤b→isT T rt w b→Aside Hs b off→W.cell? ⟨b,off,none⟩=w.cell? ⟨b,off,none⟩)→∃g,Img num ps g∧TyAt W rb 0 k (nm num k n) g
def holesOf (c:Nat):Nat→Fo→List Hole
 | _,.nil=>[]
 | off,.cons k n u ps r=>⟨c,off,k,n,u,ps⟩ :: holesOf c (off+3) r
theorem holesOf_len (c off:Nat) (f:Fo):(holesOf c off f).length=f.len:=by
 induction f generalizing off with
 | nil=>rfl
 | cons k n u ps r _ ih=>simp [holesOf,Fo.len,ih]
theorem holesOf_b {c off:Nat}{f:Fo}{h:Hole}(hm:h∈holesOf c off f):h.b=c∧off≤h.off:=by
 induction f generalizing off with
 | nil=>simp [holesOf] at hm
 | cons k n u ps r _ ih=>
  simp only [holesOf,List.mem_cons] at hm
  rcases hm with rfl|hm
  ·exact ⟨rfl,Nat.le_refl _⟩
  ·have:=ih hm;exact ⟨this.1,by omega⟩
def Apart (x y:Hole):Prop:=x.b=y.b→x.off+3≤y.off∨y.off+3≤x.off
theorem holesOf_apart (c off:Nat) (f:Fo):(holesOf c off f).Pairwise Apart:=by
 induction f generalizing off with
 | nil=>exact List.Pairwise.nil
 | cons k n u ps r _ ih=>
  refine List.Pairwise.cons (fun h hm _=>.inl ?_) (ih (off+3))
  exact (holesOf_b hm).2
def left_ (Hs:List Hole):Nat:=(Hs.map fun h=>1+h.ps.size).sum
theorem left_app (a b:List Hole):left_ (a++b)=left_ a+left_ b:=by simp [left_]
theorem left_holes (c off:Nat) (f:Fo):left_ (holesOf c off f)=f.size:=by
 induction f generalizing off with
 | nil=>rfl
 | cons k n u ps r _ ih=>simp only [holesOf,left_,List.map_cons,List.sum_cons,Fo.size];have:=ih (off+3);simp only [left_] at this;omega
theorem left_len (Hs:List Hole):Hs.length≤left_ Hs:=by
 induction Hs with
 | nil=>simp [left_]
 | cons h l ih=>simp only [left_,List.map_cons,List.sum_cons,List.length_cons] at ih ⊢;omega
theorem holes_read {num:Int→Int}{W:World}{c:Nat}(f:Fo) (off:Nat) (h:∀h∈holesOf c off f,∃g,Img num h.ps g∧TyAt W h.b h.off h.k (nm num h.k h.n) g):∃G,Img num f G∧TyC W.heap.size W G c off:=by
 induction f generalizing off with
 | nil=>exact ⟨.nil,trivial,tyC_nil⟩
 | cons k n u ps r _ ih=>
  obtain ⟨G,hG,hC⟩:=ih (off+3) (fun x hx=>h x (by simp only [holesOf];exact List.mem_cons_of_mem _ hx))
  obtain ⟨g,hg,c0,c1,u2,c2,hv⟩:=h ⟨c,off,k,n,u,ps⟩ (by simp only [holesOf];exact List.mem_cons_self)
  exact ⟨.cons k (nm num k n) u2 g G,⟨rfl,rfl,hg,hG⟩,tyC_cons.2 ⟨c0,c1,c2,hv,hC⟩⟩
theorem Wand.step {num:Int→Int}{T:TypeId}{rt:Nat}{B rb:Nat}{k n:Int}{ps:Fo}{w w2:World}{Hs:List Hole}{h:Hole}(hW:Wand num T rt B rb k n ps w (Hs ++ [h]))
  (hap:∀x∈Hs,Apart x h) (hB:B≤h.b) (hT:isT T rt w h.b)
  (hs:w.heap.size≤w2.heap.size) (hk:∀b off,B≤b→isT T rt w b→isT T rt w2 b∧(Aside [h] b off→w2.cell? ⟨b,off,none⟩=w.cell? ⟨b,off,none⟩))
  {u2:Sl} (h0:w2.cell? ⟨h.b,h.off,none⟩=some (.int .i64 h.k)) (h1:w2.cell? ⟨h.b,h.off+1,none⟩=some (.int .i64 (nm num h.k h.n))) (h2:w2.cell? ⟨h.b,h.off+2,none⟩=some (slv u2))
  {c:Nat} (hc:w.heap.size≤c) (hu:(h.ps.len=0∧∃A cp,u2=(A,0,cp))∨(0<h.ps.len∧c<w2.heap.size∧∃cp,u2=(some ⟨c,0,none⟩,h.ps.len,cp)∧h.ps.len≤cp∧cp≤maxLen)):
  Wand num T rt B rb k n ps w2 (Hs++holesOf c 0 h.ps):=by
 intro W hsz hdone hfr
 have out:∀b off,b<w.heap.size→Aside Hs b off→Aside (Hs++holesOf c 0 h.ps) b off:=by
  intro b off hb ha x hx hxb
  rcases List.mem_append.1 hx with hx|hx
  ·exact ha x hx hxb
  ·have:=(holesOf_b hx).1
   omega
 have inH:∀j,j<3→Aside Hs h.b (h.off+j):=by
  intro j hj x hx hxb
  rcases hap x hx hxb with h'|h'
  ·exact .inr (by omega)
  ·exact .inl (by omega)
 have hat:∀j,j<3→W.cell? ⟨h.b,h.off+j,none⟩=w2.cell? ⟨h.b,h.off+j,none⟩:=fun j hj=>hfr h.b _ hB (hk h.b 0 hB hT).1 (out _ _ hT.lt (inH j hj))
 refine hW W (Nat.le_trans hs hsz) ?_ ?_
 ·intro x hx
  rcases List.mem_append.1 hx with hx|hx
  ·exact hdone x (List.mem_append_left _ hx)
  ·have hxh:x=h:=by simpa using hx
   rw [hxh]
   obtain ⟨G,hG,hC⟩:=holes_read h.ps 0 (fun y hy=>hdone y (List.mem_append_right _ hy))
   refine ⟨G,hG,(hat 0 (by omega)).trans h0,(hat 1 (by omega)).trans h1,u2,(hat 2 (by omega)).trans h2,?_⟩
   have hGl:=hG.len
   rcases hu with ⟨hz,A,cp,rfl⟩|⟨hp,hc2,cp,rfl,hcp,hcm⟩
   ·cases G with
    | nil=>exact tyV_nil.2 ⟨A,cp,rfl⟩
    | cons=>simp only [Fo.len] at hGl;omega
   ·cases G with
    | nil=>simp only [Fo.len] at hGl;omega
    | cons k' n' u' ps' r'=>
     simp only [Fo.len] at hGl
     exact tyV_cons.2 ⟨c,0,cp,by rw [hGl];rfl,by omega,hcm,by omega,hC⟩
 ·intro b off hb hbT ha
  have hA1:Aside Hs b off:=fun x hx=>ha x (List.mem_append_left _ hx)
  have hA2:Aside [h] b off:=fun x hx=>ha x (List.mem_append_right _ hx)
  rw [hfr b off hb (hk b off hb hbT).1 (out b off hbT.lt hA1)]
  exact (hk b off hb hbT).2 hA2
end
section
open Go.RowKit Go.Shelf
attribute [local go_sem] Oper.semAt_some
noncomputable def least (p:Nat→Prop):Nat:=Classical.epsilon fun k=>p k∧∀j,p j→k≤j
theorem least_of {p:Nat→Prop}{k:Nat}(h:p k):p (least p)∧least p≤k:=by
 have hex:∃k,p k∧∀j,p j→k≤j:=by
  induction k using Nat.strongRecOn with
  | ind k ih=>
   by_cases hk:∃j,j<k∧p j
   ·obtain ⟨j,hj,hp⟩:=hk
    exact ih j hj hp
   ·exact ⟨k,h,fun j hp=>Nat.le_of_not_lt fun hlt=>hk ⟨j,hlt,hp⟩⟩
 have:=Classical.epsilon_spec hex
 exact ⟨this.1,this.2 k h⟩
def AllInv (W:World) (B:Nat) (f:Fo) (J:List Tr→World→Prop) (i:Value) (wr:World) (k:Nat):Prop:=
 ∃(R:Fo) (pre:List Tr),R.size=k∧wr.ownsRow W.heap.size 25 3 i R.len (stk R)∧TyL B wr R∧pre++R.pre=f.pre∧J pre wr∧Below B W wr∧W.heap.size≤wr.heap.size
set_option maxRecDepth 100000 in
set_option maxHeartbeats 2000000 in
theorem all1 (n_:Nat) (hn:1≤n_) (l Bs B:Nat) (vl:Value) (f:Fo) (hf:f.size≤1000000) (J Jx:List Tr→World→Prop) (W:World) (hB:B≤W.heap.size)
  (hJ:AbC W.heap.size 25 J)
  (hY:∀pre x W,J pre W→pre.length<f.size→YieldAt Fence.wide (n_-1) Tryz.prog l #[trV x] W fun e W'=>
   (e = .returned (.bool true)∧J (pre ++ [x]) W'∧KpC B W W')∨(e = .returned (.bool false)∧Jx (pre ++ [x]) W'))
  (hBs:Boxed W Bs 23 vl) (hR:RdX W.heap.size W vl f.top) (hL0:TyL B W f) (h0:J [] W):
  CallsIn Fence.wide n_ Tryz.prog 123 #[.func (.yield l) #[] #[],.pointer (some ⟨Bs,0,none⟩)] W fun e W'=>(∃v,e = .returned v)∧
   ((∃ys:List Tr,ys=f.pre∧J ys W')∨(∃pre,(pre≠[]∧∃s,pre++s=f.pre)∧Jx pre W')):=by
 refine callsIn_of_wp Tryz.func123 rfl trivial ?_ rfl
 simp only [Tryz.ntmps123,List.size_toArray,List.length_cons,List.length_nil,Nat.reduceAdd,Nat.reduceSub,Array.replicate_succ,Array.replicate_zero,List.push_toArray,List.append_toArray,List.nil_append,List.cons_append]
 have e00:W.cell? ⟨Bs,0,none⟩=some vl:=hBs.cell
 obtain ⟨A,c,hv,_⟩:=id hR
 have HBS:=kI hBs
 have HV:=kI hv
 clear hBs hv
 have own0:W.ownsRow W.heap.size 25 3 (.slice none 0 0) 0 []:=⟨rfl,.inl ⟨rfl,rfl⟩⟩
 gi_wp2_with (refine ⟨trivial,?_⟩;gi_at_call 124)
 refine (callsIn_wide.2 (backs_any W W.heap.size W.heap.size (.slice none 0 0) vl [] 0 f.top own0 (Nat.le_refl _) (Nat.le_refl _) hR (by rw [Fo.top_len];exact Nat.le_trans f.len_le_size hf) (by omega))).mono ?_
 rintro e w0 ⟨v0,rfl,hown0,hg0,_⟩
 have hinv:AllInv W B f J v0 w0 f.size:=by
  refine ⟨f,[],rfl,?_,hL0.below ((Below.refl _ _).grown hg0 hB (fun k e=>by cases e)),rfl,hJ _ _ _ h0 ⟨_,hg0,fun r e=>by cases e⟩,(Below.refl _ _).grown hg0 hB (fun k e=>by cases e),hg0.size⟩
  simpa [stk,Fo.top_len] using hown0
 clear hown0 hg0 h0 own0
 gi_wp2
 gi_loopw [3] (fun i wr=>∃k,AllInv W B f J i wr k) (fun i wr=>least (AllInv W B f J i wr))
 case atStart=>exact ⟨_,hinv⟩
 case round=>
  obtain ⟨k,hk⟩:=hrel
  obtain ⟨⟨R,pre,hRk,hown,hL,hpre,hJs,hb,hsz⟩,_⟩:=least_of hk
  have HM:=kI hRk
  clear hRk hk
  have HP:=kI hpre
  clear hpre
  cases R with
  | nil=>
   obtain ⟨A1,c1,rfl,_,_⟩:=own_form hown
   dsimp only [Fo.len]
   gi_wp2
   go_end0
   exact ⟨⟨_,rfl⟩,.inl ⟨pre,by simpa [Fo.pre] using HP.out,hJs⟩⟩
  | cons k n u ps r=>
   have hpl:pre.length<f.size:=by
    have h2:=congrArg List.length HP.out
    rw [List.length_append,Fo.pre_len,Fo.pre_len] at h2
    simp only [Fo.size] at h2
    omega
   have hrs:r.len≤1000000:=by
    have h2:=congrArg List.length HP.out
    rw [List.length_append,Fo.pre_len,Fo.pre_len] at h2
    simp only [Fo.size] at h2
    have:=r.len_le_size
    omega
   dsimp only [Fo.len] at hown
   obtain ⟨g,cp,rfl,hg1,hg2⟩:=own_shape hown (by omega)
   rw [stk_cons] at hown
   have hsl:=stk_len r
   obtain ⟨hps,hLr⟩:=hL
   obtain ⟨q,hq⟩:∃q,r.len=q:=⟨_,rfl⟩
   rw [hq] at hown hsl hrs ⊢
   have c0:wr.cell? ⟨g,q*3,none⟩=some (.int .i64 k):=by rw [hown.cellAt _ (by omega),List.getElem?_append_right (by omega),hsl];simp [trC]
   have c1:wr.cell? ⟨g,q*3+1,none⟩=some (.int .i64 n):=by rw [hown.cellAt _ (by omega),List.getElem?_append_right (by omega),hsl];simp [trC]
   have c2:wr.cell? ⟨g,q*3+2,none⟩=some (slv u):=by rw [hown.cellAt _ (by omega),List.getElem?_append_right (by omega),hsl];simp [trC]
   obtain ⟨u1,u2,u3⟩:=u
   dsimp only [slv] at c2
   have HQ:=kI hq
   have HS:=kI hsl
   have HO:=kI hown
   clear hq hsl hown
   obtain ⟨W1,hW1⟩:∃W1,W1=wr.alloc (.cells #[.int .i64 k,.int .i64 n,.slice u1 u2 u3] 25):=⟨_,rfl⟩
   have hJ1:J pre W1:=by rw [hW1];exact hJ _ _ _ hJs ⟨none,World.grownBy_alloc wr _ none,fun r e=>by cases e⟩
   obtain ⟨fn,tmps,assign,body,hy,hR2⟩:=hY pre (k,n,(u1,u2,u3)) W1 hJ1 hpl
   dsimp only [trV,slv] at hy
   rw [hW1] at hy hR2
   have HW1:=kI hW1
   clear hW1
   gi_wp2
   refine hR2.mono ?_
   rintro e W3 (⟨rfl,hJ3,hk3⟩|⟨rfl,hJx3⟩)
   ·have hbx:W3.heap[wr.heap.size]? = some (Obj.cells #[.int .i64 k,.int .i64 n,.slice u1 u2 u3] 25):=hk3.kept _ _ (World.alloc_heap_new wr _)
    have x2:W3.cell? ⟨wr.heap.size,2,none⟩=some (.slice u1 u2 u3):=by
     have:=cell_of_row W3 wr.heap.size 2 _ _ (0,0) hbx
     rw [this];rfl
    have hb3:Below B W W3:=hb.trans (((Below.refl B wr).alloc (by omega) _).trans hk3.below)
    have hs3:W.heap.size≤W3.heap.size:=by have:=hk3.below.size;simp at this;omega
    have own3:W3.ownsRow W.heap.size 25 3 (.slice (some ⟨g,0,none⟩) q cp) q (stk r):=own_cut (hk3.own (HO.out.alloc _)) q (by omega) HS.out
    have hps3:TyV B W3 ps (slv (u1,u2,u3)):=hps.below (((Below.refl B wr).alloc (by omega) _).trans hk3.below)
    have hLr3:TyL B W3 r:=hLr.below (((Below.refl B wr).alloc (by omega) _).trans hk3.below)
    have hpn:ps.len≤1000000:=by
     have h2:=congrArg List.length HP.out
     rw [List.length_append,Fo.pre_len,Fo.pre_len] at h2
     simp only [Fo.size] at h2
     have:=ps.len_le_size
     omega
    have hcp:q+1≤cp:=by
     obtain ⟨_,_,hv,h1,_⟩:=own_form HO.out
     injection hv with _ _ h3
     omega
    have FB:=kI ((callsIn_wide (n:=n_-1)).2 (backs_any W3.drew W.heap.size B (.slice (some ⟨g,0,none⟩) q cp) (.slice u1 u2 u3) (stk r) q ps.top own3.drew hB hs3 (hps3.below (Below.refl B W3).drew).rd (by rw [Fo.top_len];exact hpn) (by omega)))
    have hz:decide ((q:Int)≤(cp:Int))=true:=by simp;omega
    have hz0:(0:Int)≤(q:Int):=by omega
    have fin:∀(v':Value) (w':World),w'.ownsRow W.heap.size 25 3 v' (q+ps.top.length) (stk r++ps.top.reverse.flatMap trC)→W3.drew.grownBy w' (some g)→AllInv W B f J v' w' (ps.app r).size:=by
     intro v' w' hown' hgd
     have hg':W3.grownBy w' (some g):=⟨hgd.os,hgd.tape,hgd.output,hgd.size,hgd.block⟩
     obtain ⟨_,cap,cur,hv,_,hgo,_⟩:=own3.2.resolve_left (by rintro ⟨h,_⟩;cases h)
     injection hv with hv _ _
     injection hv with hv
     injection hv with hv
     subst hv
     have hgB:Below B W3 w':=(Below.refl _ _).grown hg' (by omega) (fun k e=>by cases e;omega)
     refine ⟨ps.app r,pre ++ [(k,n,(u1,u2,u3))],rfl,?_,(hps3.list.below hgB).app (hLr3.below hgB),?_,hJ _ _ _ hJ3 ⟨_,hg',fun r e=>by cases e;exact ⟨hg1,_,hgo⟩⟩,hb3.trans hgB,Nat.le_trans hs3 hg'.size⟩
     ·rw [stk_app,Fo.len_app,HQ.out,←Fo.top_len ps,Nat.add_comm]
      exact hown'
     ·rw [←HP.out,List.append_assoc,Fo.pre_next];rfl
    have FN:=kI fin
    have hmix:Tryz.prog.follows Departure.mixedOrders=true:=by kernel_rfl
    clear hbx own3 hps3 hLr3 hb3 fin
    gi_wp2
    gi_region_with_o (refine ⟨trivial,?_⟩;gi_at_call 124;refine FB.out.mono ?_;rintro e w4 ⟨v4,rfl,hown4,hg4,_⟩)
    all_goals
     have hfin:=FN.out v4 w4 hown4 hg4
     clear hown4 hg4
     go_simp
     gi_wp2
     go_roundw
     case rel=>exact ⟨_,hfin⟩
     case measure=>
      refine Nat.lt_of_le_of_lt (least_of hfin).2 (Nat.lt_of_lt_of_le ?_ (Nat.le_of_eq (HQ.out ▸ HM.out)))
      rw [Fo.size_app]
      simp only [Fo.size]
      omega
   ·gi_wp2
    refine bodyPost_ret (results_none rfl _ _ _) rfl ?_
    exact ⟨⟨_,rfl⟩,.inr ⟨_,⟨by simp,_,by rw [List.append_assoc,←HP.out];rfl⟩,hJx3⟩⟩
theorem all_make (A:Option Addr) (n c:Nat) (w:World):
  Calls Tryz.prog 89 #[.slice A n c] w fun e w'=>e = .returned (.func (.func 123) #[] #[.pointer (some ⟨w.heap.size,0,none⟩)])∧w'=w.alloc (.cells #[.slice A n c] 23):=by
 go_enter Tryz.func89,Tryz.ntmps89
 go_wp2
 go_ret
 exact ⟨rfl,rfl⟩
theorem RdX.mono {B C:Nat}{w:World}{v:Value}{L:List Tr}(h:RdX B w v L) (hC:B≤C):RdX C w v L:=by
 obtain ⟨A,c,hv,h⟩:=h
 refine ⟨A,c,hv,fun hn=>?_⟩
 obtain ⟨b,off,hA,hlt,hc⟩:=h hn
 exact ⟨b,off,hA,by omega,hc⟩
theorem all_seq (n:Nat) (hn:1≤n) (Bs B:Nat) (vl:Value) (f:Fo) (hf:f.size≤1000000) (w:World) (hB:B≤w.heap.size) (hBs:Boxed w Bs 23 vl) (hR:RdX w.heap.size w vl f.top) (hL:TyL B w f):
  SeqC n Tryz.prog 123 #[.pointer (some ⟨Bs,0,none⟩)] 25 (fun x:Tr=>#[trV x]) (KpC B) (fun ys=>ys=f.pre) (fun pre=>pre≠[]∧∃s,pre++s=f.pre) f.size w:=by
 intro l J Jx W hW hJ _ hY h0
 exact all1 n hn l Bs B vl f hf J Jx W (Nat.le_trans hB hW.size) hJ hY ((hW.block Bs hBs.lt).trans hBs) ((hR.below hW).mono hW.size) (hL.below (hW.mono hB)) h0
end
section
open Go.RowKit
def HoleAt (T:TypeId) (rt B:Nat) (w:World) (h:Hole):Prop:=
 B≤h.b∧isT T rt w h.b∧w.cell? ⟨h.b,h.off,none⟩=some (.int .i64 h.k)∧w.cell? ⟨h.b,h.off+1,none⟩=some (.int .i64 h.n)∧w.cell? ⟨h.b,h.off+2,none⟩=some (slv h.u)∧TyV B w h.ps (slv h.u)
def ptrs (Hs:List Hole):List Value:=Hs.map fun h=>.pointer (some ⟨h.b,h.off,none⟩)
theorem ptrs_len (Hs:List Hole):(ptrs Hs).length=Hs.length:=by simp [ptrs]
theorem ptrs_app (a b:List Hole):ptrs (a++b)=ptrs a++ptrs b:=by simp [ptrs]
def rt0:Array Value:=#[.int .i64 0,.int .i64 0,.slice none 0 0]
def ChInv (num:Int→Int) (T P:TypeId) (w0:World) (rt rb:Nat) (k n:Int) (ps:Fo) (t:Value) (w:World) (s:Nat):Prop:=
 ∃Hs:List Hole,left_ Hs=s∧s≤1000000∧w.ownsRow w0.heap.size P 1 t Hs.length (ptrs Hs)∧(∀h∈Hs,HoleAt T rt w0.heap.size w h)∧Hs.Pairwise Apart∧
  Wand num T rt w0.heap.size rb k n ps w Hs∧Below w0.heap.size w0 w∧w.heap[rt]? = some (Obj.cells rt0 T)∧w0.heap.size≤rt∧isT T rt w rb
theorem own_full (w:World) (H:Nat) (hH:H≤w.heap.size) (e:TypeId) (size n:Nat) (L:List Value) (hL:L.length=n*size) (hn:n≤maxLen):(w.alloc (.cells L.toArray e)).ownsRow H e size (.slice (some ⟨w.heap.size,0,none⟩) n n) n L:=
 ⟨hL,.inr ⟨w.heap.size,n,L.toArray,rfl,hH,heap_alloc_new w _,Nat.le_refl _,hn,by simp [hL],by simp [←hL]⟩⟩
theorem frozen_cells {w:World}{b:Nat}{cs:Array Value}{T:TypeId}(h:w.heap[b]? = some (Obj.cells cs T)) (off:Nat):w.frozen? ⟨b,off,none⟩=false:=by
 simp [World.frozen?,h]
def KeepT (T:TypeId) (w w':World):Prop:=w.heap.size≤w'.heap.size∧∀(b:Nat) (cs:Array Value),w.heap[b]? = some (Obj.cells cs T)→w'.heap[b]? = some (Obj.cells cs T)
theorem KeepT.refl (T:TypeId) (w:World):KeepT T w w:=⟨Nat.le_refl _,fun _ _ h=>h⟩
theorem KeepT.trans {T:TypeId}{a b c:World}(h:KeepT T a b) (k:KeepT T b c):KeepT T a c:=⟨Nat.le_trans h.1 k.1,fun i cs hi=>k.2 i cs (h.2 i cs hi)⟩
theorem KeepT.alloc {T:TypeId}{a b:World}(h:KeepT T a b) (o:Obj):KeepT T a (b.alloc o):=
 ⟨by simp only [World.size_alloc];exact Nat.le_succ_of_le h.1,fun i cs hi=>(Below.heap_alloc _ _ _ (gL (h.2 i cs hi)).1).trans (h.2 i cs hi)⟩
theorem KeepT.grown {T:TypeId}{a b:World}{row:Option Nat}(hg:a.grownBy b row) (hr:∀(r:Nat),row=some r→∀(cs:Array Value),a.heap[r]?≠some (Obj.cells cs T)):KeepT T a b:=
 ⟨hg.size,fun i cs hi=>(hg.block i (gL hi).1 (fun e=>hr i e.symm cs hi)).trans hi⟩
theorem KeepT.isT {T:TypeId}{rt:Nat}{w w':World}(h:KeepT T w w') {b:Nat}(hb:isT T rt w b):isT T rt w' b:=by
 obtain ⟨hne,cs,hc⟩:=hb
 exact ⟨hne,cs,h.2 b cs hc⟩
theorem KeepT.cell {T:TypeId}{rt:Nat}{w w':World}(h:KeepT T w w') {b:Nat}(hb:Go.Proofs.YtmamdiggjghjkaaGreatDoor.isT T rt w b) (off:Nat):w'.cell? ⟨b,off,none⟩=w.cell? ⟨b,off,none⟩:=by
 obtain ⟨_,cs,hc⟩:=hb
 exact World.cell?_of_block ((h.2 b cs hc).trans hc.symm)
theorem row_not {w:World}{base:Nat}{e T:TypeId}{size:Nat}{v:Value}{n:Nat}{xs:List Value}(h:w.ownsRow base e size v n xs) (hne:e≠T):∀(r:Nat),v.ownBlock=some r→∀(cs:Array Value),w.heap[r]?≠some (Obj.cells cs T):=by
 intro r hr cs hc
 rcases h.2 with ⟨rfl,_⟩|⟨g,cap,cur,rfl,_,hg,_⟩
 ·cases hr
 ·obtain rfl:g=r:=by simpa [Value.ownBlock] using hr
  rw [hg] at hc
  injection hc with hc
  injection hc with _ h2 _
  exact hne h2
structure Tch (T:TypeId) (rt B:Nat) (h:Hole) (w w':World):Prop where
 below:Below B w w'
 kept:∀b,Go.Proofs.YtmamdiggjghjkaaGreatDoor.isT T rt w b→Go.Proofs.YtmamdiggjghjkaaGreatDoor.isT T rt w' b
 cell:∀b off,Go.Proofs.YtmamdiggjghjkaaGreatDoor.isT T rt w b→Aside [h] b off→w'.cell? ⟨b,off,none⟩=w.cell? ⟨b,off,none⟩
 rt:∀cs,w.heap[rt]? = some (Obj.cells cs T)→w'.heap[rt]? = some (Obj.cells cs T)
theorem Tch.refl (T:TypeId) (rt B:Nat) (h:Hole) (w:World):Tch T rt B h w w:=⟨Below.refl _ _,fun _ h=>h,fun _ _ _ _=>rfl,fun _ h=>h⟩
theorem Tch.trans {T:TypeId}{rt B:Nat}{h:Hole}{a b c:World}(x:Tch T rt B h a b) (y:Tch T rt B h b c):Tch T rt B h a c:=
 ⟨x.below.trans y.below,fun i hi=>y.kept i (x.kept i hi),fun i off hi ha=>(y.cell i off (x.kept i hi) ha).trans (x.cell i off hi ha),fun cs h=>y.rt cs (x.rt cs h)⟩
theorem Tch.keep {T:TypeId}{rt B:Nat}{h:Hole}{a b:World}(k:KeepT T a b) (hb:Below B a b):Tch T rt B h a b:=
 ⟨hb,fun _ hi=>k.isT hi,fun _ off hi _=>k.cell hi off,fun _ hc=>k.2 _ _ hc⟩
theorem Tch.set {T:TypeId}{rt B:Nat}{h:Hole}{w:World}(j:Nat) (hj:j<3) (hT:Go.Proofs.YtmamdiggjghjkaaGreatDoor.isT T rt w h.b) (hB:B≤h.b) (v:Value):Tch T rt B h w (w.setCell ⟨h.b,h.off+j,none⟩ v):=by
 obtain ⟨hne,cs,hc⟩:=hT
 refine ⟨(Below.refl B w).setCell (p:=⟨h.b,h.off+j,none⟩) hB v,fun b ⟨hb,cs2,hc2⟩=>⟨hb,?_⟩,fun b off _ ha=>?_,fun cs2 hc2=>?_⟩
 ·by_cases e:b=h.b
  ·subst e;exact ⟨_,heap_setCell_same w _ _ cs T v hc⟩
  ·exact ⟨cs2,(Below.heap_setCell _ _ _ _ e).trans hc2⟩
 ·refine World.cell?_setCell_other _ _ _ _ ?_
  intro e
  injection e with e1 e2
  rcases ha h (List.mem_singleton.2 rfl) e1 with h'|h'<;>omega
 ·exact (Below.heap_setCell _ _ _ _ (fun e=>hne e.symm)).trans hc2
theorem own_touch {T e:TypeId}{h:Hole}{w:World}{base size n:Nat}{v:Value}{xs:List Value}(ho:w.ownsRow base e size v n xs) (hT:∃cs,w.heap[h.b]? = some (Obj.cells cs T)) (hne:e≠T) (off:Nat) (u:Value):(w.setCell ⟨h.b,off,none⟩ u).ownsRow base e size v n xs:=by
 obtain ⟨cs,hc⟩:=hT
 refine ho.kept (row:=some h.b) ⟨rfl,rfl,rfl,by simp [World.setCell],fun k _ hk=>Below.heap_setCell _ _ _ k (fun e=>hk (by rw [e]))⟩ (.inr fun e=>?_)
 exact row_not ho hne _ e cs hc
theorem holes_at {T:TypeId}{rt B c:Nat}{w:World}(hB:B≤c) (hT:Go.Proofs.YtmamdiggjghjkaaGreatDoor.isT T rt w c) (f:Fo) (off:Nat) (hc:∀j u,(f.top.flatMap trC)[j]? = some u→w.cell? ⟨c,off+j,none⟩=some u) (hL:TyL B w f):∀h∈holesOf c off f,HoleAt T rt B w h:=by
 induction f generalizing off with
 | nil=>intro h hh;simp [holesOf] at hh
 | cons k n u ps r _ ih=>
  intro h hh
  simp only [holesOf,List.mem_cons] at hh
  simp only [Fo.top,List.flatMap_cons,trC,List.cons_append,List.nil_append] at hc
  rcases hh with rfl|hh
  ·exact ⟨hB,hT,hc 0 _ rfl,hc 1 _ rfl,hc 2 _ rfl,hL.1⟩
  ·refine ih (off+3) (fun j x hx=>?_) hL.2 h hh
   rw [Nat.add_assoc,Nat.add_comm 3 j]
   exact hc (j+3) x (by simpa using hx)
theorem ch_step {num:Int→Int}{T P:TypeId}{w:World}{rt rb:Nat}{k n:Int}{ps:Fo}{wr w5:World}{Hq:List Hole}{h:Hole}{t5:Value}{c m:Nat}{u2:Sl}
  (hat:∀x∈Hq ++ [h],HoleAt T rt w.heap.size wr x) (hap:(Hq ++ [h]).Pairwise Apart) (hwd:Wand num T rt w.heap.size rb k n ps wr (Hq ++ [h])) (hb:Below w.heap.size w wr) (hrt:wr.heap[rt]? = some (Obj.cells rt0 T)) (hrt2:w.heap.size≤rt) (hrb:Go.Proofs.YtmamdiggjghjkaaGreatDoor.isT T rt wr rb)
  (hsm:left_ (Hq ++ [h])≤1000000) (t:Tch T rt w.heap.size h wr w5) (hm:h.ps.len=m) (hc:wr.heap.size≤c)
  (c0:w5.cell? ⟨h.b,h.off,none⟩=some (.int .i64 h.k)) (c1:w5.cell? ⟨h.b,h.off+1,none⟩=some (.int .i64 (nm num h.k h.n))) (c2:w5.cell? ⟨h.b,h.off+2,none⟩=some (slv u2))
  (hu:(m=0∧∃A cp,u2=(A,0,cp))∨(0<m∧(∃cs,w5.heap[c]? = some (Obj.cells cs T))∧(∀j u,(h.ps.top.flatMap trC)[j]? = some u→w5.cell? ⟨c,j,none⟩=some u)∧∃cp,u2=(some ⟨c,0,none⟩,m,cp)∧m≤cp∧cp≤maxLen))
  (hown:w5.ownsRow w.heap.size P 1 t5 (Hq.length+m) (ptrs Hq++ptrs (holesOf c 0 h.ps))):ChInv num T P w rt rb k n ps t5 w5 (left_ Hq+h.ps.size):=by
 subst hm
 obtain ⟨hbB,hT,d0,d1,d2,hv⟩:=hat h (List.mem_append_right _ (List.mem_singleton.2 rfl))
 have hrl:rt<wr.heap.size:=(gL hrt).1
 have hpa:∀x∈Hq,Apart x h:=by
  intro x hx
  exact (List.pairwise_append.1 hap).2.2 x hx h (List.mem_singleton.2 rfl)
 have hlt:∀x∈Hq,x.b<wr.heap.size:=fun x hx=>(hat x (List.mem_append_left _ hx)).2.1.lt
 refine ⟨Hq++holesOf c 0 h.ps,by rw [left_app,left_holes],?_,by rw [List.length_append,holesOf_len,ptrs_app];exact hown,?_,?_,?_,hb.trans t.below,t.rt _ hrt,hrt2,t.kept _ hrb⟩
 ·rw [left_app] at hsm
  simp only [left_,List.map_cons,List.map_nil,List.sum_cons,List.sum_nil] at hsm ⊢
  omega
 ·intro x hx
  rcases List.mem_append.1 hx with hx|hx
  ·obtain ⟨xB,xT,x0,x1,x2,xv⟩:=hat x (List.mem_append_left _ hx)
   have ha:∀j,j<3→Aside [h] x.b (x.off+j):=by
    intro j hj y hy hyb
    have hyh:y=h:=by simpa using hy
    rw [hyh] at hyb ⊢
    rcases hpa x hx hyb.symm with h'|h'
    ·exact .inl (by omega)
    ·exact .inr (by omega)
   exact ⟨xB,t.kept _ xT,(t.cell _ _ xT (ha 0 (by omega))).trans x0,(t.cell _ _ xT (ha 1 (by omega))).trans x1,(t.cell _ _ xT (ha 2 (by omega))).trans x2,xv.below t.below⟩
  ·rcases hu with ⟨h0,_⟩|⟨_,hcT,hcc,_⟩
   ·exfalso
    have:=holesOf_len c 0 h.ps
    rw [h0] at this
    rw [List.eq_nil_of_length_eq_zero this] at hx
    cases hx
   ·exact holes_at (Nat.le_trans hb.size hc) ⟨by omega,hcT⟩ h.ps 0 (fun j u hj=>by rw [Nat.zero_add];exact hcc j u hj) (hv.list.below t.below) x hx
 ·refine List.pairwise_append.2 ⟨(List.pairwise_append.1 hap).1,holesOf_apart _ _ _,fun x hx y hy e=>?_⟩
  have:=hlt x hx
  have:=(holesOf_b hy).1
  omega
 ·refine hwd.step hpa hbB hT t.below.size (fun b off _ hbT=>⟨t.kept b hbT,fun ha=>t.cell b off hbT ha⟩) c0 c1 c2 hc ?_
  rcases hu with h0|⟨hp,⟨cs,hcs⟩,_,cp,e,h1,h2⟩
  ·exact .inl h0
  ·exact .inr ⟨hp,(gL hcs).1,cp,e,h1,h2⟩
theorem ptrs_take (c:Nat) (f:Fo) (off j:Nat) (hj:j<f.len):ptrs ((holesOf c off f).take (j+1))=ptrs ((holesOf c off f).take j) ++ [.pointer (some ⟨c,off+j*3,none⟩)]:=by
 induction f generalizing off j with
 | nil=>simp [Fo.len] at hj
 | cons k n u ps r _ ih=>
  cases j with
  | zero=>simp [holesOf,ptrs]
  | succ j=>
   have:=ih (off+3) j (by simp [Fo.len] at hj;omega)
   simp only [holesOf,List.take_succ_cons,ptrs,List.map_cons,List.cons_append] at this ⊢
   rw [this,show off+3+j*3=off+(j+1)*3 by omega]
def FreshT (T:TypeId) (B:Nat) (w:World) (num:Int→Int) (ps:Fo) (u:Sl):Prop:=
 ∀W:World,w.heap.size≤W.heap.size→(∀(b:Nat) (cs:Array Value),B≤b→w.heap[b]? = some (Obj.cells cs T)→W.heap[b]? = some (Obj.cells cs T))→∃g,Img num ps g∧TyV W.heap.size W g (slv u)
theorem FreshT.now {T:TypeId}{B:Nat}{w:World}{num:Int→Int}{ps:Fo}{u:Sl}(h:FreshT T B w num ps u):∃g,Img num ps g∧TyV w.heap.size w g (slv u):=h w (Nat.le_refl _) fun _ _ _ h=>h
theorem FreshT.mono {T:TypeId}{B C:Nat}{w:World}{num:Int→Int}{ps:Fo}{u:Sl}(h:FreshT T B w num ps u) (hC:C≤B):FreshT T C w num ps u:=fun W hs hc=>h W hs fun b cs hb hl=>hc b cs (Nat.le_trans hC hb) hl
theorem FreshT.to {T:TypeId}{B:Nat}{w w':World}{num:Int→Int}{ps:Fo}{u:Sl}(h:FreshT T B w num ps u) (hs:w.heap.size≤w'.heap.size) (hc:∀(b:Nat) (cs:Array Value),B≤b→w.heap[b]? = some (Obj.cells cs T)→w'.heap[b]? = some (Obj.cells cs T)):FreshT T B w' num ps u:=
 fun W hs' hc'=>h W (Nat.le_trans hs hs') fun b cs hb hl=>hc' b cs hb (hc b cs hb hl)
theorem FreshT.below {T:TypeId}{B:Nat}{w w':World}{num:Int→Int}{ps:Fo}{u:Sl}(h:FreshT T B w num ps u) (hb:Below w.heap.size w w'):FreshT T B w' num ps u:=
 h.to hb.size fun b _ _ hl=>(hb.block b (gL hl).1).trans hl
abbrev idn:Int→Int:=fun n=>n
theorem nm_id (k n:Int):nm idn k n=n:=by simp [nm]
end
section
open Go.RowKit Go.Shelf
attribute [local go_sem] Oper.semAt_some
theorem results_box {P:Program}{fn:Func}{p:Tmp}{ty:TypeId}(h:fn.results=#[.cell p ty]) (tmps:Array Value) (w:World) (g:Nat) (v:Value)
  (hp:tmps.getD p undef = .pointer (some ⟨g,0,none⟩)) (hl:(loadVar ty ⟨g,0,none⟩).run P w = .ok v w):(results fn tmps).run P w = .ok v w:=by
 have hp':tmps[p]?.getD undef = .pointer (some ⟨g,0,none⟩):=by simpa using hp
 simp [results,h,hp',asAddr,hl]
theorem load_ty {w:World}{g:Nat}{k n:Int}{u:Sl}(h0:w.cell? ⟨g,0,none⟩=some (.int .i64 k)) (h1:w.cell? ⟨g,1,none⟩=some (.int .i64 n)) (h2:w.cell? ⟨g,2,none⟩=some (slv u)):(loadVar 25 ⟨g,0,none⟩).run Tryz.prog w = .ok (tyVal k n (slv u)) w:=by
 unfold slv at h2
 unfold tyVal slv
 go_simp
theorem below_own {β:Type}{B C:Nat}{w:World}(hC:C≤B) (hw:C≤w.heap.size):OwnFrom B (fun (_:β) W=>Below C w W):=by
 intro s X Y row hs hg hr
 refine ⟨hg.os.trans hs.os,hg.tape.trans hs.tape,hg.output.trans hs.output,Nat.le_trans hs.size hg.size,fun k hk=>?_⟩
 exact (hg.block k (Nat.lt_of_lt_of_le hk (Nat.le_trans hw hs.size)) (fun e=>by have:=(hr k e.symm).1;omega)).trans (hs.block k hk)
theorem below_ab {β:Type}{B C:Nat}{t:TypeId}{w:World}(hC:C≤B) (hw:C≤w.heap.size):AbC B t (fun (_:β) W=>Below C w W):=fun _ _ _ hs hc=>hs.trans (hc.below hC (Nat.le_trans hw hs.size))
theorem box_ab {β:Type}{B b:Nat}{t u:TypeId}{f:β→Value}(hne:u≠t):AbC B t (fun s W=>Boxed W b u (f s)):=fun _ _ _ hs hc=>hc.box hne hs
theorem one_laid {B:Nat}{w:World}(k n:Int) (u:Sl) (ps:Fo) (hB:B≤w.heap.size) (hps:TyV B w ps (slv u)):
  ∃W,(w.alloc (.cells #[.int .i64 k,.int .i64 n,slv u] 25)).alloc (.cells #[.slice (some ⟨w.heap.size,0,none⟩) 1 1] 23)=W∧W.heap.size=w.heap.size+1+1∧
   Boxed W (w.heap.size+1) 23 (.slice (some ⟨w.heap.size,0,none⟩) 1 1)∧RdX W.heap.size W (.slice (some ⟨w.heap.size,0,none⟩) 1 1) (Fo.cons k n u ps .nil).top∧TyL B W (.cons k n u ps .nil)∧Below w.heap.size w W:=by
 have hb:Below w.heap.size w ((w.alloc (.cells #[.int .i64 k,.int .i64 n,slv u] 25)).alloc (.cells #[.slice (some ⟨w.heap.size,0,none⟩) 1 1] 23)):=((Below.refl _ w).alloc (Nat.le_refl _) _).alloc (by simp) _
 refine ⟨_,rfl,by simp,?_,?_,⟨hps.below (hb.mono hB),trivial⟩,hb⟩
 ·have:=Boxed.new (w.alloc (.cells #[.int .i64 k,.int .i64 n,slv u] 25)) 23 (.slice (some ⟨w.heap.size,0,none⟩) 1 1)
  rwa [World.size_alloc] at this
 ·refine ⟨_,1,rfl,fun _=>⟨w.heap.size,0,rfl,by simp only [World.size_alloc];omega,fun i hi=>?_⟩⟩
  obtain rfl:i=0:=by simp [Fo.top] at hi;omega
  simp only [Fo.top,List.getElem_cons_zero,Nat.zero_mul,Nat.add_zero,Nat.zero_add]
  have hc:∀(j:Nat) (v:Value),[Value.int .i64 k,.int .i64 n,slv u][j]? = some v→((w.alloc (.cells #[.int .i64 k,.int .i64 n,slv u] 25)).alloc (.cells #[.slice (some ⟨w.heap.size,0,none⟩) 1 1] 23)).cell? ⟨w.heap.size,j,none⟩=some v:=by
   intro j v hv
   have h1:=cells_new w [.int .i64 k,.int .i64 n,slv u] 25 j v hv
   rw [add_lit0] at h1
   exact (((Below.refl (w.heap.size+1) (w.alloc (.cells #[.int .i64 k,.int .i64 n,slv u] 25))).alloc (by simp) _).cell (p:=⟨w.heap.size,j,none⟩) (by simp)).trans h1
  exact ⟨hc 0 _ rfl,hc 1 _ rfl,hc 2 _ rfl⟩
end
section
open Go.RowKit
namespace Fo
theorem depth_app (f g:Fo):(f.app g).depth=max f.depth g.depth:=by
 induction f with
 | nil=>simp [app,depth]
 | cons k n u ps r _ ih=>simp [app,depth,ih]<;>omega
theorem depth_take_step (f:Fo) (j:Nat) (hj:j<f.len):(f.take (j+1)).depth=max (f.take j).depth (1+(f.at_ j).2.2.2.depth):=by
 rw [take_step f j hj,depth_app]
 simp [depth]
theorem depth_take_le (f:Fo) (j:Nat):(f.take j).depth≤f.depth:=by
 induction f generalizing j with
 | nil=>cases j<;>simp [take]
 | cons k n u ps r _ ih=>
  cases j with
  | zero=>simp [take,depth]
  | succ j=>have:=ih j;simp only [take,depth];omega
end Fo
end
section
open Go.RowKit
namespace Fo
end Fo
theorem TyV.rd3 {B:Nat}{w:World}{f:Fo}{v:Value}(hB:B≤w.heap.size) (h:TyV B w f v):Rd w 3 v f.len (f.top.flatMap trC):=by
 refine ⟨by rw [trC_len,Fo.top_len],?_⟩
 rcases Nat.eq_zero_or_pos f.len with h0|h0
 ·obtain ⟨A,c,hv⟩:=h.slice
  exact .inl ⟨h0,A,c,by rw [hv,h0]⟩
 ·obtain ⟨b,off,cap,hv,h1,h2,h3,hC⟩:=h.form h0
  refine .inr ⟨b,off,cap,hv,h1,h2,by omega,?_⟩
  clear hv h1 h2 h0 h
  induction f generalizing off with
  | nil=>intro j u hu;simp [Fo.top] at hu
  | cons k n u ps r _ ih=>
   obtain ⟨c0,c1,c2,_,hr⟩:=tyC_cons.1 hC
   intro j x hx
   simp only [Fo.top,List.flatMap_cons,trC,List.cons_append,List.nil_append] at hx
   match j,hx with
   | 0,hx=>simp at hx;subst hx;exact c0
   | 1,hx=>simp at hx;subst hx;exact c1
   | 2,hx=>simp at hx;subst hx;exact c2
   | j+3,hx=>
    simp only [List.getElem?_cons_succ] at hx
    have:=ih (off+3) hr j x hx
    rwa [show off+(j+3)=off+3+j by omega]
end
section
open Go.RowKit
attribute [local go_sem ↓] builtin_app
theorem trC_one (L:List Tr):∀u∈L.flatMap trC,u.oneCell'=true:=by
 intro u hu
 obtain ⟨x,_,hx⟩:=List.mem_flatMap.1 hu
 simp only [trC,List.mem_cons,List.not_mem_nil,or_false] at hx
 rcases hx with rfl|rfl|rfl<;>rfl
theorem TyL.at {B:Nat}{w:World}{F:Fo}(h:TyL B w F) (j:Nat) (hj:j<F.len):TyV B w (F.at_ j).2.2.2 (slv (F.at_ j).2.2.1):=by
 induction F generalizing j with
 | nil=>simp [Fo.len] at hj
 | cons k n u ps r _ ih=>
  cases j with
  | zero=>exact h.1
  | succ j=>exact ih h.2 j (by simp [Fo.len] at hj;omega)
end
end Go.Proofs.YtmamdiggjghjkaaGreatDoor
