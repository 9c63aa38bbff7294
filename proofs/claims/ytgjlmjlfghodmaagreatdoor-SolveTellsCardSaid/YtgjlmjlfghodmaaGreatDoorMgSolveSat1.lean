/- Texts of one proof, one behind the other. -/
import Derived.OrdersHeld
import Derived.Deep.RegionHeld3
import Derived.Below
import Derived.WalkKit
import Derived.Lib.Hide
import Derived.WalkSpells
import Derived.WalkLawsBesides
import Derived.Test.YtgjlmjlfghodmaaGreatDoorProg
import Derived.ProofKit
import Derived.OpenShut
import Derived.Deep.Slices
import Derived.Test.YtgjlmjlfghodmaaGreatDoorRows
import Derived.Deep.QuietTactic
import Derived.BigQuiet
import Derived.Deep.RegionWith
set_option linter.unusedVariables false
namespace Go.Proofs.YtgjlmjlfghodmaaGreatDoor
open Go.RowKit
variable {P:Program}{ops:Array Oper}{Q:Exit→Act→World→Prop}{md:Region.Mode}
def LS (W0:World) (w:World):Prop:=Below W0.heap.size W0 w
theorem any_take {S:World→Prop}{i:Nat}{oi:Oper}(d:Option Tmp) (v:Value) {fuel:Nat}{listed:Array Bool}{a:Act}{w:World}(hi:ops[i]? = some oi) (hd:oi.dst=d)
  (hs:Region.noSelect ops=true) (hf:Region.free md ops listed i=true) (hr:(Region.ready md ops listed).contains i=true)
  (hQ:∀c a w,Q (.panic c) (a.put d v) w→Q (.panic c) a w) (hy:YieldsIf P ops S oi v a) (hS:S w)
  (h:wpAnyH P md ops Q S fuel (listed.setIfInBounds i true) (a.put d v) w):wpAnyH P md ops Q S (fuel+1) listed a w:=by
 subst hd;exact wpAnyH_take hi hs hf hr hQ hy hS h
end Go.Proofs.YtgjlmjlfghodmaaGreatDoor
/- Short names for what claims say often. Nothing here speaks of the program. -/
namespace Go.Proofs.YtgjlmjlfghodmaaGreatDoor
open Go.RowKit
theorem aI {a b:Prop}(h:a) (k:b):a∧b:=⟨h,k⟩
theorem kI {p:Prop}(h:p):Hid p:=Lib.hid h
theorem gL {α:Type}{xs:Array α}{i:Nat}{a:α}(h:xs[i]? = some a):∃h:i<xs.size,xs[i]=a:=Array.getElem?_eq_some_iff.1 h
theorem zA {α:Type}(l:List α) (i:Nat) (a:α):l.toArray.setIfInBounds i a=(l.set i a).toArray:=List.setIfInBounds_toArray l i a
theorem zB {α:Type}{a b:α}{l:List α}:(a :: l).set 0 b=b :: l:=rfl
theorem zC {α:Type}{a b:α}{l:List α}{n:Nat}:(a :: l).set (n+1) b=a :: l.set n b:=rfl
section
variable {P:Program}{ops:Array Oper}{Q:Exit→Act→World→Prop}{md:Region.Mode}
theorem tk {S:World→Prop}{i:Nat}{oi:Oper}(d:Option Tmp) (v:Value) {fuel:Nat}{listed:Array Bool}{a:Act}{w:World}(hi:ops[i]? = some oi)
  (hg:∀w,S w→(execOp a.eval oi).run P w = .ok (.value v) w) (hS:S w)
  (h:wpAnyH P md ops Q S fuel (listed.setIfInBounds i true) (a.put d v) w) (hd:oi.dst=d:=by rfl)
  (hs:Region.noSelect ops=true:=by kernel_rfl) (hf:Region.free md ops listed i=true:=by kernel_rfl) (hr:(Region.ready md ops listed).contains i=true:=by kernel_rfl)
  (hQ:∀c a w,Q (.panic c) (a.put d v) w→Q (.panic c) a w:=by exact fun _ _ _ h=>h) (hw:Region.wanted oi (yielded ops a.tmps)=true:=by kernel_rfl):wpAnyH P md ops Q S (fuel+1) listed a w:=
 any_take d v hi hd hs hf hr hQ (Or.inl ⟨hw,hg⟩) hS h
theorem tj {S:World→Prop}{i:Nat}{oi:Oper}(d:Option Tmp) (v:Value) {fuel:Nat}{listed:Array Bool}{a:Act}{w:World}(hi:ops[i]? = some oi) (hS:S w)
  (h:wpAnyH P md ops Q S fuel (listed.setIfInBounds i true) (a.put d v) w) (hg:∀w,S w→(execOp a.eval oi).run P w = .ok (.value v) w:=by exact fun w hw=>by clear hw;go_simp) (hd:oi.dst=d:=by rfl)
  (hs:Region.noSelect ops=true:=by kernel_rfl) (hf:Region.free md ops listed i=true:=by kernel_rfl) (hr:(Region.ready md ops listed).contains i=true:=by kernel_rfl)
  (hQ:∀c a w,Q (.panic c) (a.put d v) w→Q (.panic c) a w:=by exact fun _ _ _ h=>h) (hw:Region.wanted oi (yielded ops a.tmps)=true:=by kernel_rfl):wpAnyH P md ops Q S (fuel+1) listed a w:=
 any_take d v hi hd hs hf hr hQ (Or.inl ⟨hw,hg⟩) hS h
theorem aK {S:World→Prop}(i:Nat) {fuel:Nat}{listed:Array Bool}{a:Act}{w:World}(h:wpOp P ops Q i (fun a' w'=>S w'∧wpAnyH P md ops Q S fuel (listed.setIfInBounds i true) a' w') a w) (hr:Region.ready md ops listed=[i]:=by kernel_rfl):wpAnyH P md ops Q S (fuel+1) listed a w:=
 wpAnyH_all (rs:=[i]) hr (by simp) fun q hq=>by
  obtain rfl:q=i:=by simpa using hq
  exact h
end
end Go.Proofs.YtgjlmjlfghodmaaGreatDoor
namespace Go.Proofs.YtgjlmjlfghodmaaGreatDoor
abbrev Sl:=Option Addr×Nat×Nat
def slv (s:Sl):Value:=.slice s.1 s.2.1 s.2.2
inductive Fo where
 | nil:Fo
 | cons (k n:Int) (v:Sl) (ps rest:Fo):Fo
namespace Fo
def len:Fo→Nat
 | nil=>0
 | cons _ _ _ _ r=>r.len+1
def size:Fo→Nat
 | nil=>0
 | cons _ _ _ ps r=>1+ps.size+r.size
def depth:Fo→Nat
 | nil=>0
 | cons _ _ _ ps r=>max (1+ps.depth) r.depth
def app:Fo→Fo→Fo
 | nil,g=>g
 | cons k n v ps r,g=>cons k n v ps (r.app g)
def drop:Nat→Fo→Fo
 | 0,f=>f
 | _+1,nil=>nil
 | j+1,cons _ _ _ _ r=>r.drop j
def take:Nat→Fo→Fo
 | 0,_=>nil
 | _+1,nil=>nil
 | j+1,cons k n v ps r=>cons k n v ps (r.take j)
def at_:Nat→Fo→Int×Int×Sl×Fo
 | _,nil=>(0,0,(none,0,0),nil)
 | 0,cons k n v ps _=>(k,n,v,ps)
 | j+1,cons _ _ _ _ r=>r.at_ j
theorem size_app (f g:Fo):(f.app g).size=f.size+g.size:=by
 induction f with
 | nil=>simp [app,size]
 | cons k n v ps r _ ih=>simp [app,size,ih];omega
theorem len_app (f g:Fo):(f.app g).len=f.len+g.len:=by
 induction f with
 | nil=>simp [app,len]
 | cons k n v ps r _ ih=>simp [app,len,ih];omega
theorem len_le_size (f:Fo):f.len≤f.size:=by
 induction f with
 | nil=>simp [len]
 | cons k n v ps r _ ih=>simp [len,size];omega
theorem drop_step (f:Fo) (j:Nat) (hj:j<f.len):f.drop j=cons (f.at_ j).1 (f.at_ j).2.1 (f.at_ j).2.2.1 (f.at_ j).2.2.2 (f.drop (j+1)):=by
 induction f generalizing j with
 | nil=>simp [len] at hj
 | cons k n v ps r _ ih=>
  cases j with
  | zero=>simp [drop,at_]
  | succ j=>simp only [drop,at_];exact ih j (by simp [len] at hj;omega)
theorem drop_len (f:Fo):f.drop f.len=nil:=by
 induction f with
 | nil=>rfl
 | cons k n v ps r _ ih=>simpa [len,drop] using ih
theorem drop_zero (f:Fo):f.drop 0=f:=by cases f<;>rfl
theorem take_zero (f:Fo):f.take 0=nil:=by cases f<;>rfl
theorem take_len (f:Fo):f.take f.len=f:=by
 induction f with
 | nil=>rfl
 | cons k n v ps r _ ih=>simp [len,take,ih]
theorem take_step (f:Fo) (j:Nat) (hj:j<f.len):f.take (j+1)=(f.take j).app (cons (f.at_ j).1 (f.at_ j).2.1 (f.at_ j).2.2.1 (f.at_ j).2.2.2 nil):=by
 induction f generalizing j with
 | nil=>simp [len] at hj
 | cons k n v ps r _ ih=>
  cases j with
  | zero=>simp [take,at_,app]
  | succ j=>simp only [take,at_,app];rw [ih j (by simp [len] at hj;omega)]
theorem at_size (f:Fo) (j:Nat) (hj:j<f.len):(f.at_ j).2.2.2.size<f.size:=by
 induction f generalizing j with
 | nil=>simp [len] at hj
 | cons k n v ps r _ ih=>
  cases j with
  | zero=>simp [at_,size];omega
  | succ j=>have:=ih j (by simp [len] at hj;omega);simp [at_,size];omega
theorem size_take_step (f:Fo) (j:Nat) (hj:j<f.len):(f.take (j+1)).size=(f.take j).size+(1+(f.at_ j).2.2.2.size):=by
 rw [take_step f j hj,size_app]
 simp [size]
theorem size_take_le (f:Fo) (j:Nat):(f.take j).size≤f.size:=by
 induction f generalizing j with
 | nil=>cases j<;>simp [take]
 | cons k n v ps r _ ih=>
  cases j with
  | zero=>simp [take,size]
  | succ j=>have:=ih j;simp [take,size];omega
end Fo
end Go.Proofs.YtgjlmjlfghodmaaGreatDoor
namespace Go.Proofs.YtgjlmjlfghodmaaGreatDoor
open Go.RowKit
def TyV (B:Nat) (w:World):Fo→Value→Prop
 | .nil,v=>∃A c,v = .slice A 0 c
 | .cons k n u ps r,v=>∃b off cap,v = .slice (some ⟨b,off,none⟩) (r.len+1) cap∧r.len+1≤cap∧cap≤maxLen∧b<B∧
   TyC B w (.cons k n u ps r) b off
where
 TyC (B:Nat) (w:World):Fo→Nat→Nat→Prop
 | .nil,_,_=>True
 | .cons k n u ps r,b,off=>w.cell? ⟨b,off,none⟩=some (.int .i64 k)∧w.cell? ⟨b,off+1,none⟩=some (.int .i64 n)∧
   w.cell? ⟨b,off+2,none⟩=some (slv u)∧TyV B w ps (slv u)∧TyC B w r b (off+3)
abbrev TyC:=@TyV.TyC
theorem tyV_nil {B:Nat}{w:World}{v:Value}:TyV B w .nil v↔∃A c,v = .slice A 0 c:=by rw [TyV]
theorem tyV_cons {B:Nat}{w:World}{k n:Int}{u:Sl}{ps r:Fo}{v:Value}:TyV B w (.cons k n u ps r) v↔∃b off cap,v = .slice (some ⟨b,off,none⟩) (r.len+1) cap∧r.len+1≤cap∧cap≤maxLen∧b<B∧
   TyC B w (.cons k n u ps r) b off:=by rw [TyV]
theorem tyC_cons {B:Nat}{w:World}{k n:Int}{u:Sl}{ps r:Fo}{b off:Nat}:TyC B w (.cons k n u ps r) b off↔w.cell? ⟨b,off,none⟩=some (.int .i64 k)∧w.cell? ⟨b,off+1,none⟩=some (.int .i64 n)∧
   w.cell? ⟨b,off+2,none⟩=some (slv u)∧TyV B w ps (slv u)∧TyC B w r b (off+3):=by unfold TyC;rw [TyV.TyC]
theorem tyC_nil {B:Nat}{w:World}{b off:Nat}:TyC B w .nil b off:=by unfold TyC;rw [TyV.TyC];trivial
theorem TyV.slice {B:Nat}{w:World}{f:Fo}{v:Value}(h:TyV B w f v):∃A c,v = .slice A f.len c:=by
 cases f with
 | nil=>exact tyV_nil.1 h
 | cons k n u ps r=>
  obtain ⟨b,off,cap,rfl,_⟩:=tyV_cons.1 h
  exact ⟨_,_,rfl⟩
theorem TyV.form {B:Nat}{w:World}{f:Fo}{v:Value}(h:TyV B w f v) (hn:0<f.len):∃b off cap,v = .slice (some ⟨b,off,none⟩) f.len cap∧f.len≤cap∧cap≤maxLen∧b<B∧TyC B w f b off:=by
 cases f with
 | nil=>simp [Fo.len] at hn
 | cons k n u ps r=>exact tyV_cons.1 h
theorem tyC_at {B:Nat}{w:World}{f:Fo}{b off:Nat}(h:TyC B w f b off) (j:Nat) (hj:j<f.len):
  w.cell? ⟨b,off+j*3,none⟩=some (.int .i64 (f.at_ j).1)∧w.cell? ⟨b,off+j*3+1,none⟩=some (.int .i64 (f.at_ j).2.1)∧
   w.cell? ⟨b,off+j*3+2,none⟩=some (slv (f.at_ j).2.2.1)∧TyV B w (f.at_ j).2.2.2 (slv (f.at_ j).2.2.1):=by
 induction f generalizing off j with
 | nil=>simp [Fo.len] at hj
 | cons k n u ps r _ ih=>
  obtain ⟨h1,h2,h3,h3',h4⟩:=tyC_cons.1 h
  cases j with
  | zero=>simpa [Fo.at_] using ⟨h1,h2,h3,h3'⟩
  | succ j=>
   have:=ih h4 j (by simp [Fo.len] at hj;omega)
   rw [show off+(j+1)*3=off+3+j*3 by omega]
   exact this
theorem ty_keep {B B':Nat}{w w':World}(hB:B≤B') (hk:∀b off,b<B→w'.cell? ⟨b,off,none⟩=w.cell? ⟨b,off,none⟩) (f:Fo):
  (∀v,TyV B w f v→TyV B' w' f v)∧(∀b off,b<B→TyC B w f b off→TyC B' w' f b off):=by
 induction f with
 | nil=>exact ⟨fun v h=>tyV_nil.2 (tyV_nil.1 h),fun _ _ _ _=>tyC_nil⟩
 | cons k n u ps r ih1 ih2=>
  have hc:∀b off,b<B→TyC B w (.cons k n u ps r) b off→TyC B' w' (.cons k n u ps r) b off:=by
   intro b off hb h
   obtain ⟨h1,h2,h3,h4,h5⟩:=tyC_cons.1 h
   exact tyC_cons.2 ⟨(hk _ _ hb).trans h1,(hk _ _ hb).trans h2,(hk _ _ hb).trans h3,ih1.1 (slv u) h4,ih2.2 _ _ hb h5⟩
  refine ⟨fun v h=>?_,hc⟩
  obtain ⟨b,off,cap,hv,h1,h2,h3,h4⟩:=tyV_cons.1 h
  exact tyV_cons.2 ⟨b,off,cap,hv,h1,h2,by omega,hc b off h3 h4⟩
theorem TyV.keep {B B':Nat}{w w':World}{f:Fo}{v:Value}(h:TyV B w f v) (hB:B≤B') (hk:∀b off,b<B→w'.cell? ⟨b,off,none⟩=w.cell? ⟨b,off,none⟩):TyV B' w' f v:=(ty_keep hB hk f).1 v h
theorem TyV.below {B:Nat}{w w':World}{f:Fo}{v:Value}(h:TyV B w f v) (hb:Below B w w'):TyV B w' f v:=h.keep (Nat.le_refl _) fun b off hlt=>hb.cell (p:=⟨b,off,none⟩) hlt
def tyVal (k n:Int) (v:Value):Value:=.agg #[.int .i64 k,.int .i64 n,v]
end Go.Proofs.YtgjlmjlfghodmaaGreatDoor
namespace Go.Proofs.YtgjlmjlfghodmaaGreatDoor
open Go.RowKit Go.ChangeShapes Go.WideShapes Go.ChangeAt Go.Deep
namespace Fo
def wf:Fo→Prop
 | nil=>True
 | cons _ n _ ps r=>(Lit.int .i64 n).wf=true∧ps.wf∧r.wf
end Fo
theorem listOf {α:Type}(P:Nat→α→Prop) (n:Nat) (h:∀i,i<n→∃t,P i t):∃ts:List α,ts.length=n∧∀i (hi:i<ts.length),P i ts[i]:=by
 induction n with
 | zero=>exact ⟨[],rfl,by simp⟩
 | succ n ih=>
  obtain ⟨ts,hl,hP⟩:=ih (fun i hi=>h i (by omega))
  obtain ⟨t,ht⟩:=h n (by omega)
  refine ⟨ts ++ [t],by simp [hl],fun i hi=>?_⟩
  rcases Nat.lt_or_ge i ts.length with hlt|hge
  ·rw [List.getElem_append_left hlt];exact hP i hlt
  ·have:i=ts.length:=by simp at hi;omega
   subst this
   have e:(ts ++ [t])[ts.length]=t:=by simp
   rw [e,hl]
   exact ht
def foOf:List (Int×Int×Sl×Fo)→Fo
 | []=>.nil
 | t :: r=>.cons t.1 t.2.1 t.2.2.1 t.2.2.2 (foOf r)
theorem foOf_len (ts:List (Int×Int×Sl×Fo)):(foOf ts).len=ts.length:=by
 induction ts with
 | nil=>rfl
 | cons t r ih=>simp [foOf,Fo.len,ih]
theorem foOf_wf (ts:List (Int×Int×Sl×Fo)) (h:∀i (hi:i<ts.length),(Lit.int .i64 ts[i].2.1).wf=true∧ts[i].2.2.2.wf):(foOf ts).wf:=by
 induction ts with
 | nil=>trivial
 | cons t r ih=>
  have h0:=h 0 (by simp)
  exact ⟨h0.1,h0.2,ih fun i hi=>by have:=h (i+1) (by simp;omega);simpa using this⟩
theorem foOf_cells {B:Nat}{w:World}{b:Nat}(ts:List (Int×Int×Sl×Fo)) (off:Nat)
  (h:∀i (hi:i<ts.length),w.cell? ⟨b,off+i*3,none⟩=some (.int .i64 ts[i].1)∧w.cell? ⟨b,off+i*3+1,none⟩=some (.int .i64 ts[i].2.1)∧w.cell? ⟨b,off+i*3+2,none⟩=some (slv ts[i].2.2.1)∧TyV B w ts[i].2.2.2 (slv ts[i].2.2.1)):TyC B w (foOf ts) b off:=by
 induction ts generalizing off with
 | nil=>exact tyC_nil
 | cons t r ih=>
  have h0:=h 0 (by simp)
  simp only [Nat.zero_mul,Nat.add_zero,List.getElem_cons_zero] at h0
  refine tyC_cons.2 ⟨h0.1,h0.2.1,h0.2.2.1,h0.2.2.2,ih (off+3) fun i hi=>?_⟩
  have h1:=h (i+1) (by simp;omega)
  simp only [List.getElem_cons_succ] at h1
  rw [show off+3+i*3=off+(i+1)*3 by omega]
  exact h1
set_option maxRecDepth 100000 in
theorem types_read {H:Type}{enc:TypeId×Value→H}{W:World}(fuel:Nat):∀(v:Value) (x:DataW H×List MemPlace),DataW.trod enc Tryz.prog W 0 (fun _=>true) true fuel 26 [v]=some x→∃(F:Fo) (u:Sl),v=slv u∧TyV W.heap.size W F v∧F.wf:=by
 induction fuel using Nat.strongRecOn with
 | ind fuel ih=>
  intro v x h
  rcases DataW.trod_slice Tryz.underlying26 h with ⟨hcs,_⟩|⟨a,len,cap,elems,rest,n,hfu,hcs,_,_,hl,hm,hlen,hel,_,_⟩
  ·simp at hcs
   subst hcs
   exact ⟨.nil,(none,0,0),rfl,tyV_nil.2 ⟨none,0,rfl⟩,trivial⟩
  ·simp at hcs
   subst hcs
   have hC:Tryz.prog.cellsOf 28=3:=by kernel_rfl
   have hI:Tryz.prog.cellsOf 3=1:=by kernel_rfl
   have hS:Tryz.prog.cellsOf 26=1:=by kernel_rfl
   rw [hC] at hel
   have key:∀i,i<len→∃t:Int×Int×Sl×Fo,W.cell? (a.add (i*3))=some (.int .i64 t.1)∧W.cell? ((a.add (i*3)).add 1)=some (.int .i64 t.2.1)∧W.cell? ((a.add (i*3)).add 2)=some (slv t.2.2.1)∧TyV W.heap.size W t.2.2.2 (slv t.2.2.1)∧(Lit.int .i64 t.2.1).wf=true∧t.2.2.2.wf:=by
    intro i hil
    have he:=hel i hil
    rw [List.getElem?_eq_getElem (by omega)] at he
    obtain ⟨cs',hc,ht'⟩:=Option.bind_eq_some_iff.1 he
    obtain ⟨ys,n',hn',_,hlen2,hyl,hfld⟩:=DataW.trod_struct Tryz.underlying28 ht'
    rw [hC] at hlen2
    obtain ⟨_,hcl,hat⟩:=World.cells?_some hc
    have q0:DataW.trod enc Tryz.prog W 0 (fun _=>true) true n' 3 ((cs'.drop 0).take (Tryz.prog.cellsOf 3))=ys[0]?:=hfld 0 _ rfl
    have q1:DataW.trod enc Tryz.prog W 0 (fun _=>true) true n' 3 ((cs'.drop 1).take (Tryz.prog.cellsOf 3))=ys[1]?:=hfld 1 _ rfl
    have q2:DataW.trod enc Tryz.prog W 0 (fun _=>true) true n' 26 ((cs'.drop 2).take (Tryz.prog.cellsOf 26))=ys[2]?:=hfld 2 _ rfl
    have hyl':ys.length=3:=hyl
    rw [hI,List.getElem?_eq_getElem (by omega)] at q0
    rw [hI,List.getElem?_eq_getElem (by omega)] at q1
    rw [hS,List.getElem?_eq_getElem (by omega)] at q2
    obtain ⟨k0,hk0,_,_⟩:=DataW.trod_int Tryz.underlying3 q0
    obtain ⟨k1,hk1,_,hw1⟩:=DataW.trod_int Tryz.underlying3 q1
    match cs',hlen2 with
    | [c0,c1,c2],_=>
     obtain ⟨F,u,hu,hF,hFw⟩:=ih n' (by omega) c2 _ q2
     simp at hk0 hk1
     subst hk0;subst hk1;subst hu
     refine ⟨(k0,k1,u,F),?_,?_,?_,hF,hw1,hFw⟩
     ·have:=hat 0 (by omega)
      simpa [Addr.add] using this
     ·exact hat 1 (by omega)
     ·exact hat 2 (by omega)
   by_cases h0:len=0
   ·subst h0
    exact ⟨.nil,(some a,0,cap),rfl,tyV_nil.2 ⟨_,_,rfl⟩,trivial⟩
   ·obtain ⟨b,off,spot⟩:=a
    obtain ⟨t0,hc0,_⟩:=key 0 (by omega)
    have hspot:spot=none:=by simpa [Addr.add] using World.cell?_spot hc0
    subst hspot
    have hb:b<W.heap.size:=by simpa [Addr.add] using World.block_lt_of_cell? _ _ hc0
    obtain ⟨ts,htl,hP⟩:=listOf _ len key
    have hTC:TyC W.heap.size W (foOf ts) b off:=foOf_cells ts off fun i hi=>by
     have hP2:=hP i hi
     simp only [Addr.add_lit] at hP2
     exact ⟨hP2.1,hP2.2.1,hP2.2.2.1,hP2.2.2.2.1⟩
    have hWF:(foOf ts).wf:=foOf_wf ts fun i hi=>(hP i hi).2.2.2.2
    cases ts with
    | nil=>simp at htl;omega
    | cons t r=>
     refine ⟨foOf (t :: r),(some ⟨b,off,none⟩,len,cap),rfl,tyV_cons.2 ⟨b,off,cap,?_,?_,hm,hb,hTC⟩,hWF⟩
     ·rw [foOf_len,←htl];rfl
     ·rw [foOf_len];simp at htl;omega
end Go.Proofs.YtgjlmjlfghodmaaGreatDoor
namespace Go.Proofs.YtgjlmjlfghodmaaGreatDoor
open Go.RowKit Go.ChangeShapes Go.WideShapes Go.ChangeAt Go.Deep
end Go.Proofs.YtgjlmjlfghodmaaGreatDoor
namespace Go.Proofs.YtgjlmjlfghodmaaGreatDoor
open Go.RowKit Go.ChangeShapes Go.WideShapes Go.ChangeAt Go.Deep
set_option maxRecDepth 100000
theorem TyV.onward {w w':World}{f:Fo}{v:Value}(h:TyV w.heap.size w f v) (hb:Below w.heap.size w w'):TyV w'.heap.size w' f v:=h.keep hb.size fun b off hlt=>hb.cell (p:=⟨b,off,none⟩) hlt
abbrev Ty1:=Int×Int×Sl×Fo
abbrev Eqn:=Ty1×Ty1×(Int×Int)
def t1V (t:Ty1):Value:=tyVal t.1 t.2.1 (slv t.2.2.1)
def eqC (x:Eqn):List Value:=[.int .i64 x.1.1,.int .i64 x.1.2.1,slv x.1.2.2.1,.int .i64 x.2.1.1,.int .i64 x.2.1.2.1,slv x.2.1.2.2.1,.int .i64 x.2.2.1,.int .i64 x.2.2.2]
def EqAt (w:World) (b off:Nat) (x:Eqn):Prop:=
 w.cell? ⟨b,off,none⟩=some (.int .i64 x.1.1)∧w.cell? ⟨b,off+1,none⟩=some (.int .i64 x.1.2.1)∧w.cell? ⟨b,off+2,none⟩=some (slv x.1.2.2.1)∧
 w.cell? ⟨b,off+3,none⟩=some (.int .i64 x.2.1.1)∧w.cell? ⟨b,off+4,none⟩=some (.int .i64 x.2.1.2.1)∧w.cell? ⟨b,off+5,none⟩=some (slv x.2.1.2.2.1)∧
 w.cell? ⟨b,off+6,none⟩=some (.int .i64 x.2.2.1)∧w.cell? ⟨b,off+7,none⟩=some (.int .i64 x.2.2.2)
def EqT (B:Nat) (w:World) (x:Eqn):Prop:=TyV B w x.1.2.2.2 (slv x.1.2.2.1)∧TyV B w x.2.1.2.2.2 (slv x.2.1.2.2.1)
def EqV (B:Nat) (w:World) (l:List Eqn) (v:Value):Prop:=
 ∃A c,v = .slice A l.length c∧(0<l.length→∃b off,A=some ⟨b,off,none⟩∧b<B∧l.length≤c∧c≤maxLen∧∀i (h:i<l.length),EqAt w b (off+i*8) l[i])∧∀x∈l,EqT B w x
def TyW (t:Ty1):Prop:=(Lit.int .i64 t.2.1).wf=true∧t.2.2.2.wf
def EqW (l:List Eqn):Prop:=∀x∈l,TyW x.1∧TyW x.2.1
theorem EqAt.keep {w w':World}{b off:Nat}{x:Eqn}(h:EqAt w b off x) (hk:∀off,w'.cell? ⟨b,off,none⟩=w.cell? ⟨b,off,none⟩):EqAt w' b off x:=by
 obtain ⟨h0,h1,h2,h3,h4,h5,h6,h7⟩:=h
 exact ⟨(hk _).trans h0,(hk _).trans h1,(hk _).trans h2,(hk _).trans h3,(hk _).trans h4,(hk _).trans h5,(hk _).trans h6,(hk _).trans h7⟩
theorem EqT.keep {B B':Nat}{w w':World}{x:Eqn}(h:EqT B w x) (hB:B≤B') (hk:∀b off,b<B→w'.cell? ⟨b,off,none⟩=w.cell? ⟨b,off,none⟩):EqT B' w' x:=⟨h.1.keep hB hk,h.2.keep hB hk⟩
theorem EqV.keep {B B':Nat}{w w':World}{l:List Eqn}{v:Value}(h:EqV B w l v) (hB:B≤B') (hk:∀b off,b<B→w'.cell? ⟨b,off,none⟩=w.cell? ⟨b,off,none⟩):EqV B' w' l v:=by
 obtain ⟨A,c,hv,h1,h2⟩:=h
 refine ⟨A,c,hv,fun hn=>?_,fun x hx=>(h2 x hx).keep hB hk⟩
 obtain ⟨b,off,hA,hb,hc,hm,hat⟩:=h1 hn
 exact ⟨b,off,hA,by omega,hc,hm,fun i hi=>(hat i hi).keep fun o=>hk b o hb⟩
theorem EqV.below {B:Nat}{w w':World}{l:List Eqn}{v:Value}(h:EqV B w l v) (hb:Below B w w'):EqV B w' l v:=h.keep (Nat.le_refl _) fun b off hlt=>hb.cell (p:=⟨b,off,none⟩) hlt
theorem EqV.later {w w':World}{l:List Eqn}{v:Value}(h:EqV w.heap.size w l v) (hb:Below w.heap.size w w'):EqV w'.heap.size w' l v:=h.keep hb.size fun b off hlt=>hb.cell (p:=⟨b,off,none⟩) hlt
theorem EqV.form {B:Nat}{w:World}{l:List Eqn}{v:Value}(h:EqV B w l v):∃A c,v = .slice A l.length c:=by obtain ⟨A,c,hv,_⟩:=h;exact ⟨A,c,hv⟩
theorem EqV.at {B:Nat}{w:World}{l:List Eqn}{A:Option Addr}{n c:Nat}(h:EqV B w l (.slice A n c)) (j:Nat) (hj:j<l.length):∃b off,A=some ⟨b,off,none⟩∧b<B∧EqAt w b (off+j*8) l[j]:=by
 obtain ⟨A',c',hv,h1,_⟩:=h
 injection hv with e1 e2 e3
 obtain ⟨b,off,hA,hb,_,_,hat⟩:=h1 (by omega)
 exact ⟨b,off,by rw [e1,hA],hb,hat j hj⟩
theorem EqV.ty {B:Nat}{w:World}{l:List Eqn}{v:Value}(h:EqV B w l v) (j:Nat) (hj:j<l.length):EqT B w l[j]:=by
 obtain ⟨_,_,_,_,h2⟩:=h
 exact h2 _ (List.getElem_mem hj)
theorem ty_read {H:Type}{enc:TypeId×Value→H}{W:World}{fuel:Nat}{c1 c2 c3:Value}{x:DataW H×List MemPlace}(h:DataW.trod enc Tryz.prog W 0 (fun _=>true) true fuel 28 [c1,c2,c3]=some x):
  ∃t:Ty1,c1 = .int .i64 t.1∧c2 = .int .i64 t.2.1∧c3=slv t.2.2.1∧TyV W.heap.size W t.2.2.2 (slv t.2.2.1)∧TyW t:=by
 have hI:Tryz.prog.cellsOf 3=1:=by kernel_rfl
 have hS:Tryz.prog.cellsOf 26=1:=by kernel_rfl
 obtain ⟨zs,n2,hn2,_,hlen3,hzl,hfld2⟩:=DataW.trod_struct Tryz.underlying28 h
 have p0:DataW.trod enc Tryz.prog W 0 (fun _=>true) true n2 3 (([c1,c2,c3].drop 0).take (Tryz.prog.cellsOf 3))=zs[0]?:=hfld2 0 _ rfl
 have p1:DataW.trod enc Tryz.prog W 0 (fun _=>true) true n2 3 (([c1,c2,c3].drop 1).take (Tryz.prog.cellsOf 3))=zs[1]?:=hfld2 1 _ rfl
 have p2:DataW.trod enc Tryz.prog W 0 (fun _=>true) true n2 26 (([c1,c2,c3].drop 2).take (Tryz.prog.cellsOf 26))=zs[2]?:=hfld2 2 _ rfl
 have hzl':zs.length=3:=hzl
 rw [hI,List.getElem?_eq_getElem (by omega)] at p0
 rw [hI,List.getElem?_eq_getElem (by omega)] at p1
 rw [hS,List.getElem?_eq_getElem (by omega)] at p2
 obtain ⟨k1,hk1,_,_⟩:=DataW.trod_int Tryz.underlying3 p0
 obtain ⟨k2,hk2,_,hw2⟩:=DataW.trod_int Tryz.underlying3 p1
 obtain ⟨F,u,hu,hF,hFw⟩:=types_read n2 c3 _ p2
 simp at hk1 hk2
 subst hu
 exact ⟨(k1,k2,u,F),hk1,hk2,rfl,hF,hw2,hFw⟩
theorem span_read {H:Type}{enc:TypeId×Value→H}{W:World}{fuel:Nat}{c1 c2:Value}{x:DataW H×List MemPlace}(h:DataW.trod enc Tryz.prog W 0 (fun _=>true) true fuel 30 [c1,c2]=some x):
  ∃t:Int×Int,c1 = .int .i64 t.1∧c2 = .int .i64 t.2:=by
 have hI:Tryz.prog.cellsOf 3=1:=by kernel_rfl
 obtain ⟨zs,n2,hn2,_,hlen3,hzl,hfld2⟩:=DataW.trod_struct Tryz.underlying30 h
 have p0:DataW.trod enc Tryz.prog W 0 (fun _=>true) true n2 3 (([c1,c2].drop 0).take (Tryz.prog.cellsOf 3))=zs[0]?:=hfld2 0 _ rfl
 have p1:DataW.trod enc Tryz.prog W 0 (fun _=>true) true n2 3 (([c1,c2].drop 1).take (Tryz.prog.cellsOf 3))=zs[1]?:=hfld2 1 _ rfl
 have hzl':zs.length=2:=hzl
 rw [hI,List.getElem?_eq_getElem (by omega)] at p0
 rw [hI,List.getElem?_eq_getElem (by omega)] at p1
 obtain ⟨k1,hk1,_,_⟩:=DataW.trod_int Tryz.underlying3 p0
 obtain ⟨k2,hk2,_,_⟩:=DataW.trod_int Tryz.underlying3 p1
 simp at hk1 hk2
 exact ⟨(k1,k2),hk1,hk2⟩
theorem eqs_read {H:Type}{enc:TypeId×Value→H}{W:World}(fuel:Nat) (v:Value) (x:DataW H×List MemPlace) (h:DataW.trod enc Tryz.prog W 0 (fun _=>true) true fuel 22 [v]=some x):∃(l:List Eqn),EqV W.heap.size W l v∧EqW l:=by
 rcases DataW.trod_slice Tryz.underlying22 h with ⟨hcs,_⟩|⟨a,len,cap,elems,rest,n,hfu,hcs,_,_,hl,hm,hlen,hel,_,_⟩
 ·simp at hcs
  subst hcs
  exact ⟨[],⟨none,0,rfl,fun h=>by simp at h,fun x hx=>by cases hx⟩,fun x hx=>by cases hx⟩
 ·simp at hcs
  subst hcs
  have hC:Tryz.prog.cellsOf 32=8:=by kernel_rfl
  have hT:Tryz.prog.cellsOf 28=3:=by kernel_rfl
  have hP:Tryz.prog.cellsOf 30=2:=by kernel_rfl
  rw [hC] at hel
  have key:∀i,i<len→∃t:Eqn,(W.cell? (a.add (i*8))=some (.int .i64 t.1.1)∧W.cell? ((a.add (i*8)).add 1)=some (.int .i64 t.1.2.1)∧W.cell? ((a.add (i*8)).add 2)=some (slv t.1.2.2.1)∧W.cell? ((a.add (i*8)).add 3)=some (.int .i64 t.2.1.1)∧W.cell? ((a.add (i*8)).add 4)=some (.int .i64 t.2.1.2.1)∧W.cell? ((a.add (i*8)).add 5)=some (slv t.2.1.2.2.1)∧W.cell? ((a.add (i*8)).add 6)=some (.int .i64 t.2.2.1)∧W.cell? ((a.add (i*8)).add 7)=some (.int .i64 t.2.2.2))∧EqT W.heap.size W t∧TyW t.1∧TyW t.2.1:=by
   intro i hil
   have he:=hel i hil
   rw [List.getElem?_eq_getElem (by omega)] at he
   obtain ⟨cs',hc,ht'⟩:=Option.bind_eq_some_iff.1 he
   obtain ⟨ys,n',hn',_,hlen2,hyl,hfld⟩:=DataW.trod_struct Tryz.underlying32 ht'
   rw [hC] at hlen2
   obtain ⟨_,hcl,hat⟩:=World.cells?_some hc
   have q0:DataW.trod enc Tryz.prog W 0 (fun _=>true) true n' 28 ((cs'.drop 0).take (Tryz.prog.cellsOf 28))=ys[0]?:=hfld 0 _ rfl
   have q1:DataW.trod enc Tryz.prog W 0 (fun _=>true) true n' 28 ((cs'.drop 3).take (Tryz.prog.cellsOf 28))=ys[1]?:=hfld 1 _ rfl
   have q2:DataW.trod enc Tryz.prog W 0 (fun _=>true) true n' 30 ((cs'.drop 6).take (Tryz.prog.cellsOf 30))=ys[2]?:=hfld 2 _ rfl
   have hyl':ys.length=3:=hyl
   rw [hT,List.getElem?_eq_getElem (by omega)] at q0
   rw [hT,List.getElem?_eq_getElem (by omega)] at q1
   rw [hP,List.getElem?_eq_getElem (by omega)] at q2
   match cs',hlen2 with
   | [c0,c1,c2,c3,c4,c5,c6,c7],_=>
    obtain ⟨tl,a0,a1,a2,aT,aW⟩:=ty_read (c1:=c0) (c2:=c1) (c3:=c2) q0
    obtain ⟨tr,b0,b1,b2,bT,bW⟩:=ty_read (c1:=c3) (c2:=c4) (c3:=c5) q1
    obtain ⟨sp,s0,s1⟩:=span_read (c1:=c6) (c2:=c7) q2
    subst a0 a1 a2 b0 b1 b2 s0 s1
    refine ⟨(tl,tr,sp),⟨?_,?_,?_,?_,?_,?_,?_,?_⟩,⟨aT,bT⟩,aW,bW⟩
    ·have:=hat 0 (by omega)
     simpa [Addr.add] using this
    ·exact hat 1 (by omega)
    ·exact hat 2 (by omega)
    ·exact hat 3 (by omega)
    ·exact hat 4 (by omega)
    ·exact hat 5 (by omega)
    ·exact hat 6 (by omega)
    ·exact hat 7 (by omega)
  by_cases h0:len=0
  ·subst h0
   exact ⟨[],⟨_,_,rfl,fun h=>by simp at h,fun x hx=>by cases hx⟩,fun x hx=>by cases hx⟩
  ·obtain ⟨b,off,spot⟩:=a
   obtain ⟨t0,⟨hc0,_⟩,_⟩:=key 0 (by omega)
   have hspot:spot=none:=by simpa [Addr.add] using World.cell?_spot hc0
   subst hspot
   have hb:b<W.heap.size:=by simpa [Addr.add] using World.block_lt_of_cell? _ _ hc0
   obtain ⟨ts,htl,hP⟩:=listOf _ len key
   subst htl
   simp only [Addr.add_lit] at hP
   refine ⟨ts,⟨_,_,rfl,fun _=>⟨b,off,rfl,hb,hl,hm,fun i hi=>(hP i hi).1⟩,fun x hx=>?_⟩,fun x hx=>?_⟩
   ·obtain ⟨i,hi,rfl⟩:=List.mem_iff_getElem.1 hx
    exact (hP i hi).2.1
   ·obtain ⟨i,hi,rfl⟩:=List.mem_iff_getElem.1 hx
    exact (hP i hi).2.2
def ArgE (W:World) (v:Value) (l:List Eqn):Prop:=EqV W.heap.size W l v∧EqW l
theorem ArgE_open {H:Type}{enc:TypeId×Value→H}{W:World}{r:Reach}{b0:Nat}{v:Value}{d:DataW H}{p:List MemPlace}(hval:Value.okWide Tryz.prog W r b0 22 v)
  (h:DataW.Trod enc Tryz.prog W 0 (fun _=>true) true 22 v d p):∃l,ArgE W v l:=by
 obtain ⟨a0,len,cap,rfl⟩:=okWide_slice Tryz.underlying22 hval
 obtain ⟨fuel,hf⟩:=h
 exact eqs_read fuel _ _ hf
end Go.Proofs.YtgjlmjlfghodmaaGreatDoor
namespace Go.Proofs.YtgjlmjlfghodmaaGreatDoor
open Go.RowKit
section
variable {P:Program}{ops:Array Oper}{Q:Exit→Act→World→Prop}{md:Region.Mode}{S:World→Prop}
theorem ops_val {o:Oper}{i:Nat}{d:Option Tmp}{v:Value}{a:Act}{w w':World}{K:Act→World→Prop}
  (hi:ops[i]? = some o) (hd:o.dst=d) (hw:Region.wanted o (yielded ops a.tmps)=true) (he:(execOp a.eval o).run P w = .ok (.value v) w') (hS:S w')
  (hk:K (a.put d v) w'):wpOp P ops Q i (fun a' w'=>S w'∧K a' w') a w:=by
 subst hd
 unfold wpOp
 simp only [hi]
 rw [if_pos hw]
 refine .inl ?_
 unfold Oper.wp
 rw [he]
 simp only [Oper.upon]
 exact ⟨hS,hk⟩
theorem ops_skip {o:Oper}{i:Nat}{a:Act}{w w':World}{K:Act→World→Prop}
  (hi:ops[i]? = some o) (hw:Region.wanted o (yielded ops a.tmps)=true) (he:(execOp a.eval o).run P w = .ok .skip w') (hS:S w')
  (hd:o.dst=none) (hk:K a w'):wpOp P ops Q i (fun a' w'=>S w'∧K a' w') a w:=by
 unfold wpOp
 simp only [hi]
 rw [if_pos hw]
 refine .inl ?_
 unfold Oper.wp
 rw [he]
 simp only [Oper.upon]
 rw [hd]
 exact ⟨hS,hk⟩
theorem ops_call {o:Oper}{i:Nat}{d:Option Tmp}{f:FuncId}{args:Array Value}{a:Act}{w:World}{K:Act→World→Prop}
  (hi:ops[i]? = some o) (hd:o.dst=d) (hw:Region.wanted o (yielded ops a.tmps)=true) (he:(execOp a.eval o).run P w = .ok (.enter f args) w)
  (hc:Calls P f args w fun e w'=>∃v,e = .returned v∧S w'∧K (a.put d v) w'):wpOp P ops Q i (fun a' w'=>S w'∧K a' w') a w:=by
 subst hd
 unfold wpOp
 simp only [hi]
 rw [if_pos hw]
 refine .inl ?_
 unfold Oper.wp
 rw [he]
 simp only [Oper.upon]
 refine hc.mono fun e w' ⟨v,hv,hS,hk⟩=>?_
 subst hv
 exact ⟨hS,hk⟩
end
end Go.Proofs.YtgjlmjlfghodmaaGreatDoor
namespace Go.Proofs.YtgjlmjlfghodmaaGreatDoor
open Go.RowKit
theorem ret_int {k:IntKind}{a b:Int}(h:a=b):Ending.returned (.int k a) = .returned (.int k b):=by rw [h]
theorem ret_bool {a b:Bool}(h:a=b):Ending.returned (.bool a) = .returned (.bool b):=by rw [h]
set_option maxHeartbeats 1000000 in
set_option maxRecDepth 100000 in
theorem rsize_any (m:Nat):∀(f:Fo) (k n:Int) (v:Value) (w:World),f.size<m→f.size≤1000000→TyV w.heap.size w f v→
  Calls Tryz.prog 12 #[tyVal k n v] w fun e w'=>e = .returned (.int .i64 (1+f.size))∧Below w.heap.size w w':=by
 induction m with
 | zero=>intro f k n v w h;omega
 | succ m ih=>
  intro f k n v w hm hs h
  obtain ⟨A,c,rfl⟩:=h.slice
  have H:=kI h
  have IH:=kI ih
  have hll:=f.len_le_size
  clear h ih
  unfold tyVal
  go_enter Tryz.func12,Tryz.ntmps12
  go_wp2_with fail
  go_loopw [3,4] (fun t3 t4 wr=>∃j:Nat,j≤f.len∧t4 = .int .i64 j∧t3 = .int .i64 (1+(f.take j).size)∧Below (w.heap.size+1) (w.alloc (.cells #[.int .i64 k,.int .i64 n,.slice A f.len c] 28)) wr) (fun _ t _=>f.len-(intOf t).toNat)
  case atStart=>exact ⟨0,Nat.zero_le _,rfl,by simp [Fo.take_zero,Fo.size],Below.refl _ _⟩
  case round=>
   obtain ⟨j,hj,rfl,rfl,hb⟩:=hrel
   have e2:wr.cell? ⟨w.heap.size,2,none⟩=some (.slice A f.len c):=(hb.cell (p:=⟨w.heap.size,2,none⟩) (by simp)).trans (by go_simp)
   have HB:Hid (Below w.heap.size w wr):=kI (((Below.refl _ _).alloc (Nat.le_refl _) _).trans (hb.mono (by omega)))
   have hz:=hb.size
   simp only [World.size_alloc] at hz
   have hts:=f.size_take_le j
   by_cases hjl:j<f.len
   ·obtain ⟨b,off,cap,hv,_,_,hlt,hC⟩:=H.out.form (by omega)
    injection hv with hA _ hcc
    subst hA;subst hcc
    obtain ⟨d0,d1,d2,hch⟩:=tyC_at hC j hjl
    have c0:=(HB.out.cell (p:=⟨b,off+j*3,none⟩) hlt).trans d0
    have c1:=(HB.out.cell (p:=⟨b,off+j*3+1,none⟩) hlt).trans d1
    have c2:=(HB.out.cell (p:=⟨b,off+j*3+2,none⟩) hlt).trans d2
    have hch':TyV wr.heap.size wr (f.at_ j).2.2.2 (slv (f.at_ j).2.2.1):=(hch.keep HB.out.size fun b off hb'=>HB.out.cell (p:=⟨b,off,none⟩) hb')
    have hsz:=f.at_size j hjl
    have hst:=f.size_take_step j hjl
    have hle:=f.size_take_le (j+1)
    clear d0 d1 d2 hC hch
    have hrec:=IH.out (f.at_ j).2.2.2 (f.at_ j).1 (f.at_ j).2.1 (slv (f.at_ j).2.2.1) wr (by omega) (by omega) hch'
    unfold tyVal at hrec
    generalize f.at_ j=p at *
    obtain ⟨pk,pn,pv,pf⟩:=p
    have HREC:=kI hrec
    have HST:=kI hst
    have hb1:0≤(pf.size:Int)∧(pf.size:Int)≤1000000:=by simp only at hsz;omega
    have hb2:((f.take j).size:Int)≤1000000:=by omega
    clear hrec hst hch'
    go_wp2_with fail
    refine HREC.out.mono ?_
    rintro e w2 ⟨rfl,hb3⟩
    go_wp2_with fail
    go_roundw
    case rel=>exact ⟨j+1,by omega,by go_num,by rw [HST.out];congr 1;omega,hb.trans (hb3.mono hz)⟩
    case measure=>simp [intOf];omega
   ·obtain rfl:j=f.len:=by omega
    have HT:Hid (f.take f.len=f):=kI f.take_len
    go_wp2_with fail
    go_ret
    exact ⟨ret_int (by rw [HT.out]),HB.out⟩
end Go.Proofs.YtgjlmjlfghodmaaGreatDoor
namespace Go.Proofs.YtgjlmjlfghodmaaGreatDoor
open Go.RowKit
namespace Fo
theorem depth_app (f g:Fo):(f.app g).depth=max f.depth g.depth:=by
 induction f with
 | nil=>simp [app,depth]
 | cons k n u ps r _ ih=>simp [app,depth,ih]<;>omega
theorem depth_take_step (f:Fo) (j:Nat) (hj:j<f.len):(f.take (j+1)).depth=max (f.take j).depth (1+(f.at_ j).2.2.2.depth):=by
 rw [take_step f j hj,depth_app]
 simp [depth]
theorem depth_take_le (f:Fo) (j:Nat):(f.take j).depth≤f.depth:=by
 induction f generalizing j with
 | nil=>cases j<;>simp [take]
 | cons k n u ps r _ ih=>
  cases j with
  | zero=>simp [take,depth]
  | succ j=>have:=ih j;simp only [take,depth];omega
end Fo
end Go.Proofs.YtgjlmjlfghodmaaGreatDoor
namespace Go.Proofs.YtgjlmjlfghodmaaGreatDoor
open Go.RowKit
def RoomIs (n deep:Nat) (f:Fo) (r:Int):Prop:=
 -1≤r∧r≤n∧(0≤r→1+(f.size:Int)+r=n∧1+f.depth≤deep)∧(1+f.size≤n→1+f.depth≤deep→r=(n:Int)-(1+f.size))
theorem RoomIs.zero (n:Nat) (f:Fo):RoomIs n 0 f (-1):=⟨by omega,by omega,by omega,by omega⟩
end Go.Proofs.YtgjlmjlfghodmaaGreatDoor
namespace Go.Proofs.YtgjlmjlfghodmaaGreatDoor
open Go.RowKit
set_option maxHeartbeats 1000000 in
set_option maxRecDepth 100000 in
theorem room12 (deep:Nat):∀(f:Fo) (k n0:Int) (v:Value) (n:Nat) (w:World),deep≤40→n≤300→TyV w.heap.size w f v→
  Calls Tryz.prog 69 #[tyVal k n0 v,.int .i64 n,.int .i64 deep] w fun e w'=>∃r,e = .returned (.int .i64 r)∧Below w.heap.size w w'∧RoomIs n deep f r:=by
 induction deep with
 | zero=>
  intro f k n0 v n w hd hn h
  obtain ⟨A,c,rfl⟩:=h.slice
  clear h
  unfold tyVal
  go_enter Tryz.func69,Tryz.ntmps69
  go_wp2_with fail
  go_ret
  exact ⟨_,rfl,(Below.refl _ _).alloc (Nat.le_refl _) _,RoomIs.zero n f⟩
 | succ deep ih=>
  intro f k n0 v n w hd hn h
  obtain ⟨A,c,rfl⟩:=h.slice
  have H:=kI h
  have IH:=kI ih
  have hml:f.len≤maxLen:=by
   rcases Nat.eq_zero_or_pos f.len with h0|h0
   ·omega
   ·obtain ⟨_,_,cap,_,h1,h2,_⟩:=h.form h0
    exact Nat.le_trans h1 h2
  replace hml:f.len≤9223372036854775807:=by unfold maxLen at hml;omega
  clear h ih
  rw [show (((deep+1:Nat)):Int)=(deep:Int)+1 from by omega]
  unfold tyVal
  go_enter Tryz.func69,Tryz.ntmps69
  have HB0:=kI (show ∀(cs:Array Value) (t:TypeId),Below w.heap.size w (w.alloc (Obj.cells cs t)) from fun cs t=>(Below.refl _ w).alloc (Nat.le_refl _) _)
  have f1:((deep:Int)+1 == 0)=false:=beq_eq_false_iff_ne.2 (by omega)
  go_wp2_with fail
  go_loopw [1,7] (fun t1 t7 wr=>∃(j:Nat) (r:Int),j≤f.len∧t7 = .int .i64 j∧t1 = .int .i64 r∧RoomIs n (deep+1) (f.take j) r∧wr.cell? ⟨w.heap.size,2,none⟩=some (.slice A f.len c)∧Below w.heap.size w wr∧w.heap.size+1≤wr.heap.size) (fun _ t _=>f.len-(intOf t).toNat)
  case atStart=>
   refine ⟨0,(n:Int)-1,Nat.zero_le _,rfl,by go_num,?_,by go_simp,HB0.out _ _,by simp⟩
   unfold RoomIs
   simp only [Fo.take_zero,Fo.size,Fo.depth]
   omega
  case round=>
   obtain ⟨j,r,hj,rfl,rfl,hr,e2,hb,hz⟩:=hrel
   have HB:=kI hb
   have HR:=kI hr
   have hr0:-1≤r∧r≤n:=⟨hr.1,hr.2.1⟩
   clear hb hr
   by_cases hjl:j<f.len
   ·by_cases hr1:0≤r
    ·obtain ⟨rn,rfl⟩:=Int.eq_ofNat_of_zero_le hr1
     obtain ⟨b,off,cap,hv,_,_,hlt,hC⟩:=H.out.form (by omega)
     injection hv with hA _ hcc
     subst hA;subst hcc
     obtain ⟨d0,d1,d2,hch⟩:=tyC_at hC j hjl
     have c0:=(HB.out.cell (p:=⟨b,off+j*3,none⟩) hlt).trans d0
     have c1:=(HB.out.cell (p:=⟨b,off+j*3+1,none⟩) hlt).trans d1
     have c2:=(HB.out.cell (p:=⟨b,off+j*3+2,none⟩) hlt).trans d2
     have hch':TyV wr.heap.size wr (f.at_ j).2.2.2 (slv (f.at_ j).2.2.1):=hch.keep HB.out.size fun b off hb'=>HB.out.cell (p:=⟨b,off,none⟩) hb'
     have HST:=kI (f.size_take_step j hjl)
     have HDT:=kI (f.depth_take_step j hjl)
     have hrec:=IH.out (f.at_ j).2.2.2 (f.at_ j).1 (f.at_ j).2.1 (slv (f.at_ j).2.2.1) rn wr (by omega) (by omega) hch'
     clear d0 d1 d2 hC hch hch'
     unfold tyVal at hrec
     generalize f.at_ j=p at *
     obtain ⟨pk,pn,pv,pf⟩:=p
     dsimp only [slv] at hrec c0 c1 c2
     have HREC:=kI hrec
     clear hrec
     have f2:decide ((0:Int)≤rn)=true:=decide_eq_true hr1
     go_wp2_with fail
     refine HREC.out.mono ?_
     rintro e w2 ⟨r2,rfl,hb3,hr2⟩
     have e2':=(hb3.cell (p:=⟨w.heap.size,2,none⟩) (by show w.heap.size<wr.heap.size;omega)).trans e2
     have HB3:=kI hb3
     have HR2:=kI hr2
     clear hb3 hr2
     go_wp2_with fail
     go_roundw
     case rel=>
      refine ⟨j+1,r2,by omega,by go_num,rfl,?_,e2',HB.out.trans (HB3.out.mono (by omega)),Nat.le_trans hz HB3.out.size⟩
      have h1:=HR.out
      have h2:=HR2.out
      have h3:=HST.out
      have h4:=HDT.out
      unfold RoomIs at h1 h2 ⊢
      omega
     case measure=>simp [intOf];omega
    ·have f2:decide ((0:Int)≤r)=false:=decide_eq_false hr1
     have HTL:=kI (f.size_take_le j)
     have HDL:=kI (f.depth_take_le j)
     go_wp2_with fail
     go_ret
     refine ⟨_,rfl,HB.out,?_⟩
     have h1:=HR.out
     have h3:=HTL.out
     have h4:=HDL.out
     unfold RoomIs at h1 ⊢
     omega
   ·obtain rfl:j=f.len:=by omega
    have HT:Hid (f.take f.len=f):=kI f.take_len
    go_wp2_with fail
    go_ret
    refine ⟨_,rfl,HB.out,?_⟩
    have h1:=HR.out
    rwa [HT.out] at h1
set_option maxHeartbeats 1000000 in
theorem big12 (f:Fo) (k n0:Int) (v:Value) (w:World) (h:TyV w.heap.size w f v):
  Calls Tryz.prog 37 #[tyVal k n0 v] w fun e w'=>e = .returned (.bool (!(decide (1+f.size≤100) && decide (1+f.depth≤30))))∧Below w.heap.size w w':=by
 obtain ⟨A,c,rfl⟩:=h.slice
 obtain ⟨w1,hw1⟩:∃w1,w.alloc (Obj.cells #[.int .i64 k,.int .i64 n0,.slice A f.len c] 28)=w1:=⟨_,rfl⟩
 have hb1:Below w.heap.size w w1:=by rw [←hw1];exact (Below.refl _ _).alloc (Nat.le_refl _) _
 have hs1:=hb1.size
 have hc:=room12 30 f k n0 (.slice A f.len c) 100 w1 (by omega) (by omega) (h.keep hs1 fun b off hb'=>hb1.cell (p:=⟨b,off,none⟩) hb')
 rw [←hw1] at hc
 have HC:=kI hc
 have HB1:=kI hb1
 have HW1:=kI hw1
 clear h hc hs1 hb1 hw1
 unfold tyVal at HC ⊢
 go_enter Tryz.func37,Tryz.ntmps37
 go_wp2_with fail
 refine HC.out.mono ?_
 rintro e w' ⟨r,rfl,hb,hr⟩
 have hd:decide (r<0) = !(decide (1+f.size≤100) && decide (1+f.depth≤30)):=by
  unfold RoomIs at hr
  by_cases h1:r<0
  ·have:¬ (1+f.size≤100∧1+f.depth≤30):=by omega
   rw [decide_eq_true h1]
   simp only [←Bool.decide_and,decide_eq_false this]
   rfl
  ·have:1+f.size≤100∧1+f.depth≤30:=by omega
   rw [decide_eq_false h1]
   simp only [←Bool.decide_and,decide_eq_true this]
   rfl
 have HD:=kI hd
 rw [HW1.out] at hb
 have HB:=kI (show Below w.heap.size w w' from HB1.out.trans (hb.mono HB1.out.size))
 clear hd hr hb
 go_wp2_with fail
 go_ret
 exact ⟨ret_bool HD.out,HB.out⟩
end Go.Proofs.YtgjlmjlfghodmaaGreatDoor
