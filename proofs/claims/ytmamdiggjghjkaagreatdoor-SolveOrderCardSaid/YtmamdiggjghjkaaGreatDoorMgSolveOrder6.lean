/- Texts of one proof, one behind the other. -/
import Derived.Test.YtmamdiggjghjkaaGreatDoorMgSolveOrder1
import Derived.Test.YtmamdiggjghjkaaGreatDoorProg
import Derived.ProofKit
import Derived.OpenShut
import Derived.Deep.Slices
import Derived.Test.YtmamdiggjghjkaaGreatDoorMgSolveOrder5
import Derived.Test.YtmamdiggjghjkaaGreatDoorMgSolveOrder3
import Derived.Test.YtmamdiggjghjkaaGreatDoorMgSolveOrder4
import Derived.Maps.Own
import Derived.Maps.Views
import Derived.Maps.OwnSet
import Derived.Test.YtmamdiggjghjkaaGreatDoorMgSolveOrder2
import Derived.Deep.DeepCutAuto
import Derived.Deep.RegionWith
import Derived.Deep.RegionHeld3
set_option linter.unusedVariables false
namespace Go.Proofs.YtmamdiggjghjkaaGreatDoor
section
open Go.RowKit Go.ChangeShapes Go.WideShapes Go.ChangeAt Go.Deep
namespace Fo
def wf:Fo→Prop
 | nil=>True
 | cons _ n _ ps r=>(Lit.int .i64 n).wf=true∧ps.wf∧r.wf
end Fo
theorem listOf {α:Type}(P:Nat→α→Prop) (n:Nat) (h:∀i,i<n→∃t,P i t):∃ts:List α,ts.length=n∧∀i (hi:i<ts.length),P i ts[i]:=by
 induction n with
 | zero=>exact ⟨[],rfl,by simp⟩
 | succ n ih=>
  obtain ⟨ts,hl,hP⟩:=ih (fun i hi=>h i (by omega))
  obtain ⟨t,ht⟩:=h n (by omega)
  refine ⟨ts ++ [t],by simp [hl],fun i hi=>?_⟩
  rcases Nat.lt_or_ge i ts.length with hlt|hge
  ·rw [List.getElem_append_left hlt];exact hP i hlt
  ·have:i=ts.length:=by simp at hi;omega
   subst this
   have e:(ts ++ [t])[ts.length]=t:=by simp
   rw [e,hl]
   exact ht
def foOf:List (Int×Int×Sl×Fo)→Fo
 | []=>.nil
 | t :: r=>.cons t.1 t.2.1 t.2.2.1 t.2.2.2 (foOf r)
theorem foOf_len (ts:List (Int×Int×Sl×Fo)):(foOf ts).len=ts.length:=by
 induction ts with
 | nil=>rfl
 | cons t r ih=>simp [foOf,Fo.len,ih]
theorem foOf_wf (ts:List (Int×Int×Sl×Fo)) (h:∀i (hi:i<ts.length),(Lit.int .i64 ts[i].2.1).wf=true∧ts[i].2.2.2.wf):(foOf ts).wf:=by
 induction ts with
 | nil=>trivial
 | cons t r ih=>
  have h0:=h 0 (by simp)
  exact ⟨h0.1,h0.2,ih fun i hi=>by have:=h (i+1) (by simp;omega);simpa using this⟩
theorem foOf_cells {B:Nat}{w:World}{b:Nat}(ts:List (Int×Int×Sl×Fo)) (off:Nat)
  (h:∀i (hi:i<ts.length),w.cell? ⟨b,off+i*3,none⟩=some (.int .i64 ts[i].1)∧w.cell? ⟨b,off+i*3+1,none⟩=some (.int .i64 ts[i].2.1)∧w.cell? ⟨b,off+i*3+2,none⟩=some (slv ts[i].2.2.1)∧TyV B w ts[i].2.2.2 (slv ts[i].2.2.1)):TyC B w (foOf ts) b off:=by
 induction ts generalizing off with
 | nil=>exact tyC_nil
 | cons t r ih=>
  have h0:=h 0 (by simp)
  simp only [Nat.zero_mul,Nat.add_zero,List.getElem_cons_zero] at h0
  refine tyC_cons.2 ⟨h0.1,h0.2.1,h0.2.2.1,h0.2.2.2,ih (off+3) fun i hi=>?_⟩
  have h1:=h (i+1) (by simp;omega)
  simp only [List.getElem_cons_succ] at h1
  rw [show off+3+i*3=off+(i+1)*3 by omega]
  exact h1
set_option maxRecDepth 100000 in
theorem types_read {H:Type}{enc:TypeId×Value→H}{W:World}(fuel:Nat):∀(v:Value) (x:DataW H×List MemPlace),DataW.trod enc Tryz.prog W 0 (fun _=>true) true fuel 23 [v]=some x→∃(F:Fo) (u:Sl),v=slv u∧TyV W.heap.size W F v∧F.wf:=by
 induction fuel using Nat.strongRecOn with
 | ind fuel ih=>
  intro v x h
  rcases DataW.trod_slice Tryz.underlying23 h with ⟨hcs,_⟩|⟨a,len,cap,elems,rest,n,hfu,hcs,_,_,hl,hm,hlen,hel,_,_⟩
  ·simp at hcs
   subst hcs
   exact ⟨.nil,(none,0,0),rfl,tyV_nil.2 ⟨none,0,rfl⟩,trivial⟩
  ·simp at hcs
   subst hcs
   have hC:Tryz.prog.cellsOf 25=3:=by kernel_rfl
   have hI:Tryz.prog.cellsOf 3=1:=by kernel_rfl
   have hS:Tryz.prog.cellsOf 23=1:=by kernel_rfl
   rw [hC] at hel
   have key:∀i,i<len→∃t:Int×Int×Sl×Fo,W.cell? (a.add (i*3))=some (.int .i64 t.1)∧W.cell? ((a.add (i*3)).add 1)=some (.int .i64 t.2.1)∧W.cell? ((a.add (i*3)).add 2)=some (slv t.2.2.1)∧TyV W.heap.size W t.2.2.2 (slv t.2.2.1)∧(Lit.int .i64 t.2.1).wf=true∧t.2.2.2.wf:=by
    intro i hil
    have he:=hel i hil
    rw [List.getElem?_eq_getElem (by omega)] at he
    obtain ⟨cs',hc,ht'⟩:=Option.bind_eq_some_iff.1 he
    obtain ⟨ys,n',hn',_,hlen2,hyl,hfld⟩:=DataW.trod_struct Tryz.underlying25 ht'
    rw [hC] at hlen2
    obtain ⟨_,hcl,hat⟩:=World.cells?_some hc
    have q0:DataW.trod enc Tryz.prog W 0 (fun _=>true) true n' 3 ((cs'.drop 0).take (Tryz.prog.cellsOf 3))=ys[0]?:=hfld 0 _ rfl
    have q1:DataW.trod enc Tryz.prog W 0 (fun _=>true) true n' 3 ((cs'.drop 1).take (Tryz.prog.cellsOf 3))=ys[1]?:=hfld 1 _ rfl
    have q2:DataW.trod enc Tryz.prog W 0 (fun _=>true) true n' 23 ((cs'.drop 2).take (Tryz.prog.cellsOf 23))=ys[2]?:=hfld 2 _ rfl
    have hyl':ys.length=3:=hyl
    rw [hI,List.getElem?_eq_getElem (by omega)] at q0
    rw [hI,List.getElem?_eq_getElem (by omega)] at q1
    rw [hS,List.getElem?_eq_getElem (by omega)] at q2
    obtain ⟨k0,hk0,_,_⟩:=DataW.trod_int Tryz.underlying3 q0
    obtain ⟨k1,hk1,_,hw1⟩:=DataW.trod_int Tryz.underlying3 q1
    match cs',hlen2 with
    | [c0,c1,c2],_=>
     obtain ⟨F,u,hu,hF,hFw⟩:=ih n' (by omega) c2 _ q2
     simp at hk0 hk1
     subst hk0;subst hk1;subst hu
     refine ⟨(k0,k1,u,F),?_,?_,?_,hF,hw1,hFw⟩
     ·have:=hat 0 (by omega)
      simpa [Addr.add] using this
     ·exact hat 1 (by omega)
     ·exact hat 2 (by omega)
   by_cases h0:len=0
   ·subst h0
    exact ⟨.nil,(some a,0,cap),rfl,tyV_nil.2 ⟨_,_,rfl⟩,trivial⟩
   ·obtain ⟨b,off,spot⟩:=a
    obtain ⟨t0,hc0,_⟩:=key 0 (by omega)
    have hspot:spot=none:=by simpa [Addr.add] using World.cell?_spot hc0
    subst hspot
    have hb:b<W.heap.size:=by simpa [Addr.add] using World.block_lt_of_cell? _ _ hc0
    obtain ⟨ts,htl,hP⟩:=listOf _ len key
    have hTC:TyC W.heap.size W (foOf ts) b off:=foOf_cells ts off fun i hi=>by
     have hP2:=hP i hi
     simp only [Addr.add_lit] at hP2
     exact ⟨hP2.1,hP2.2.1,hP2.2.2.1,hP2.2.2.2.1⟩
    have hWF:(foOf ts).wf:=foOf_wf ts fun i hi=>(hP i hi).2.2.2.2
    cases ts with
    | nil=>simp at htl;omega
    | cons t r=>
     refine ⟨foOf (t :: r),(some ⟨b,off,none⟩,len,cap),rfl,tyV_cons.2 ⟨b,off,cap,?_,?_,hm,hb,hTC⟩,hWF⟩
     ·rw [foOf_len,←htl];rfl
     ·rw [foOf_len];simp at htl;omega
end
section
open Go.RowKit Go.Shelf
end
section
open Go.RowKit Go.Shelf Go.Maps Go.WideShapes
theorem lawI:Keyed Tryz.prog 3:=int_keyed Tryz.underlying3
end
section
open Go.RowKit Go.Shelf Go.Maps Go.WideShapes Go.ChangeMaps Go.MapKept
def heldE (v:Value):Option (DataW Value×List MemPlace):=some (.held v,[])
structure MapTy (mt e:TypeId) (z:Value):Prop where
 und:Tryz.prog.underlying mt=some (.map 3 e)
 zero:∀w,(zeroValue e).run Tryz.prog w = .ok z w
def upd (f:Int→Option Value) (n:Int) (v:Value):Int→Option Value:=fun m=>if m=n then some v else f m
def MapF (f:Int→Option Value) (S L b:Nat) (W:World):Prop:=
 ∃(k:Nat) (D:DataW Value),W.ownsMap Tryz.prog 3 heldE b k D∧k≤L∧Tidy D∧Maps.size D=S∧∀n:Int,(Lit.int .i64 n).wf=true→has D (.int .i64 n)=(f n).isSome∧∀z,D.atKey (.int .i64 n) (.held z) = .held ((f n).getD z)
theorem MapF.made (w:World):MapF (fun _=>none) 0 0 w.heap.size (w.alloc (.map #[] 0)):=⟨0,.map [],World.ownsMap_made _ _ _ _,Nat.le_refl _,tidy_empty,rfl,fun _ _=>⟨rfl,fun _=>rfl⟩⟩
theorem MapF.kept {f:Int→Option Value}{S L b:Nat}{W W':World}{row:Option Nat}(h:MapF f S L b W) (hg:W.grownBy W' row) (hne:some b≠row):MapF f S L b W':=by
 obtain ⟨k,D,h1,h2⟩:=h
 exact ⟨k,D,h1.kept hg hne,h2⟩
theorem MapF.block {f:Int→Option Value}{S L b:Nat}{W W':World}(h:MapF f S L b W) (hb:W'.heap[b]? = W.heap[b]?):MapF f S L b W':=by
 obtain ⟨k,D,⟨es,ck,h1,h3⟩,h2⟩:=h
 exact ⟨k,D,⟨es,ck,hb.trans h1,h3⟩,h2⟩
theorem MapF.lt {f:Int→Option Value}{S L b:Nat}{W:World}(h:MapF f S L b W):b<W.heap.size:=by obtain ⟨_,_,h1,_⟩:=h;exact h1.lt
theorem MapF.below {f:Int→Option Value}{S L b:Nat}{W W':World}(h:MapF f S L b W) (hb:Below W.heap.size W W'):MapF f S L b W':=h.block (hb.block b h.lt)
theorem MapF.le {f:Int→Option Value}{S L L' b:Nat}{W:World}(h:MapF f S L b W) (hl:L≤L'):MapF f S L' b W:=by
 obtain ⟨k,D,h1,h2,h3⟩:=h
 exact ⟨k,D,h1,Nat.le_trans h2 hl,h3⟩
theorem MapF.ext {f g:Int→Option Value}{S L b:Nat}{W:World}(h:MapF f S L b W) (he:∀n,(Lit.int .i64 n).wf=true→f n=g n):MapF g S L b W:=by
 obtain ⟨k,D,h1,h2,h3,h4,h5⟩:=h
 exact ⟨k,D,h1,h2,h3,h4,fun n hn=>by rw [←he n hn];exact h5 n hn⟩
theorem MapF.look {f:Int→Option Value}{S L b:Nat}{W:World}(h:MapF f S L b W) {mt e:TypeId}{z:Value}(M:MapTy mt e z) (n:Int) (hn:(Lit.int .i64 n).wf=true):(Instr.lookup mt (.map (some b)) (.int .i64 n) false).run Tryz.prog W = .ok ((f n).getD z) W:=by
 obtain ⟨k,D,h1,_,_,_,h3⟩:=h
 obtain ⟨v,ps,hrun,hv⟩:=h1.lookup lawI M.und (M.zero W) (zd:=.held z) (zp:=[]) rfl (keyOf_int_mk Tryz.underlying3 hn)
 rw [(h3 n hn).2] at hv
 simp only [heldE,Option.some.injEq,Prod.mk.injEq,DataW.held.injEq] at hv
 rw [hrun,hv.1]
theorem MapF.look_ok {f:Int→Option Value}{S L b:Nat}{W:World}(h:MapF f S L b W) {mt e:TypeId}{z:Value}(M:MapTy mt e z) (n:Int) (hn:(Lit.int .i64 n).wf=true):(Instr.lookup mt (.map (some b)) (.int .i64 n) true).run Tryz.prog W = .ok (.tuple #[(f n).getD z,.bool (f n).isSome]) W:=by
 obtain ⟨k,D,h1,_,_,_,h3⟩:=h
 obtain ⟨v,ps,hrun,hv⟩:=h1.look_ok lawI M.und (M.zero W) (zd:=.held z) (zp:=[]) rfl (keyOf_int_mk Tryz.underlying3 hn)
 rw [(h3 n hn).2] at hv
 simp only [heldE,Option.some.injEq,Prod.mk.injEq,DataW.held.injEq] at hv
 rw [hrun,hv.1,(h3 n hn).1]
theorem MapF.put {f:Int→Option Value}{S L b:Nat}{W:World}(h:MapF f S L b W) {mt e:TypeId}{z:Value}(M:MapTy mt e z) (hl:L≤1000000000) (n:Int) (hn:(Lit.int .i64 n).wf=true) (v:Value):
  ∃W',(Instr.mapUpdate mt (.map (some b)) (.int .i64 n) v).run Tryz.prog W = .ok () W'∧MapF (upd f n v) (if (f n).isSome then S else S+1) (L+1) b W'∧W.grownBy W' (some b)∧(∀i,i≠b→W'.heap[i]? = W.heap[i]?)∧W'.heap.size=W.heap.size:=by
 obtain ⟨k,D,h1,h2,ht,hs,h3⟩:=h
 obtain ⟨w',hrun,ho,hg⟩:=h1.store lawI M.und (by unfold maxLen;omega) (keyOf_int_mk Tryz.underlying3 hn) (val:=v) (d:=.held v) (ps:=[]) rfl
 refine ⟨w',hrun,⟨k+1,_,ho,by omega,ht.put (by trivial) _,?_,fun m hm2=>?_⟩,hg.grown,?_,?_⟩
 ·rw [size_put ht,(h3 n hn).1,hs]
 ·by_cases e:m=n
  ·subst e
   exact ⟨by rw [has_put_same ht.isMap (by trivial)];simp [upd],fun z=>by rw [atKey_put_same ht.isMap (by trivial)];simp [upd]⟩
  ·have hne:(Lit.int .i64 m)≠.int .i64 n:=by simpa using e
   exact ⟨by rw [has_put_other hne,(h3 m hm2).1];simp [upd,e],fun z=>by rw [atKey_put_other hne,(h3 m hm2).2];simp [upd,e]⟩
 ·obtain ⟨es,ck,es',ck',hb,rfl⟩:=hg
  exact fun i hi=>heap_setBlock_other hb _ hi
 ·obtain ⟨es,ck,es',ck',hb,rfl⟩:=hg
  simp [setBlock]
theorem zeroInt (w:World):(zeroValue 3).run Tryz.prog w = .ok (.int .i64 0) w:=by kernel_rfl
theorem intsTy:MapTy 145 3 (.int .i64 0):=⟨Tryz.underlying145,zeroInt⟩
end
section
open Go.RowKit Go.ChangeShapes Go.WideShapes Go.ChangeAt Go.Deep
end
section
open Go.RowKit Go.ChangeShapes Go.WideShapes Go.ChangeAt Go.Deep
def bdC (b:Bnd):List Value:=[.int .i64 b.1,.int .i64 b.2.1,.int .i64 b.2.2.1,slv b.2.2.2.1]
def bdT (b:Bnd):Value:=tyVal b.2.1 b.2.2.1 (slv b.2.2.2.1)
def BdV (B:Nat) (w:World) (l:List Bnd) (v:Value):Prop:=
 ∃A c,v = .slice A l.length c∧(0<l.length→∃b off,A=some ⟨b,off,none⟩∧b<B∧l.length≤c∧c≤maxLen∧
  ∀i (h:i<l.length),w.cell? ⟨b,off+i*4,none⟩=some (.int .i64 l[i].1)∧w.cell? ⟨b,off+i*4+1,none⟩=some (.int .i64 l[i].2.1)∧w.cell? ⟨b,off+i*4+2,none⟩=some (.int .i64 l[i].2.2.1)∧w.cell? ⟨b,off+i*4+3,none⟩=some (slv l[i].2.2.2.1))∧
  ∀x∈l,TyV B w x.2.2.2.2 (slv x.2.2.2.1)
def BdW (l:List Bnd):Prop:=∀x∈l,(Lit.int .i64 x.1).wf=true∧(Lit.int .i64 x.2.2.1).wf=true∧x.2.2.2.2.wf
theorem BdV.keep {B B':Nat}{w w':World}{l:List Bnd}{v:Value}(h:BdV B w l v) (hB:B≤B') (hk:∀b off,b<B→w'.cell? ⟨b,off,none⟩=w.cell? ⟨b,off,none⟩):BdV B' w' l v:=by
 obtain ⟨A,c,hv,h1,h2⟩:=h
 refine ⟨A,c,hv,fun hn=>?_,fun x hx=>(h2 x hx).keep hB hk⟩
 obtain ⟨b,off,hA,hb,hc,hm,hat⟩:=h1 hn
 exact ⟨b,off,hA,by omega,hc,hm,fun i hi=>⟨(hk _ _ hb).trans (hat i hi).1,(hk _ _ hb).trans (hat i hi).2.1,(hk _ _ hb).trans (hat i hi).2.2.1,(hk _ _ hb).trans (hat i hi).2.2.2⟩⟩
theorem BdV.below {B:Nat}{w w':World}{l:List Bnd}{v:Value}(h:BdV B w l v) (hb:Below B w w'):BdV B w' l v:=h.keep (Nat.le_refl _) fun b off hlt=>hb.cell (p:=⟨b,off,none⟩) hlt
theorem BdV.later {w w':World}{l:List Bnd}{v:Value}(h:BdV w.heap.size w l v) (hb:Below w.heap.size w w'):BdV w'.heap.size w' l v:=h.keep hb.size fun b off hlt=>hb.cell (p:=⟨b,off,none⟩) hlt
theorem BdV.form {B:Nat}{w:World}{l:List Bnd}{v:Value}(h:BdV B w l v):∃A c,v = .slice A l.length c:=by obtain ⟨A,c,hv,_⟩:=h;exact ⟨A,c,hv⟩
theorem BdV.at {B:Nat}{w:World}{l:List Bnd}{A:Option Addr}{n c:Nat}(h:BdV B w l (.slice A n c)) (j:Nat) (hj:j<l.length):∃b off,A=some ⟨b,off,none⟩∧b<B∧
  w.cell? ⟨b,off+j*4,none⟩=some (.int .i64 l[j].1)∧w.cell? ⟨b,off+j*4+1,none⟩=some (.int .i64 l[j].2.1)∧w.cell? ⟨b,off+j*4+2,none⟩=some (.int .i64 l[j].2.2.1)∧w.cell? ⟨b,off+j*4+3,none⟩=some (slv l[j].2.2.2.1):=by
 obtain ⟨A',c',hv,h1,_⟩:=h
 injection hv with e1 e2 e3
 obtain ⟨b,off,hA,hb,_,_,hat⟩:=h1 (by omega)
 exact ⟨b,off,by rw [e1,hA],hb,hat j hj⟩
set_option maxRecDepth 100000 in
theorem binds_read {H:Type}{enc:TypeId×Value→H}{W:World}(fuel:Nat) (v:Value) (x:DataW H×List MemPlace) (h:DataW.trod enc Tryz.prog W 0 (fun _=>true) true fuel 30 [v]=some x):∃(l:List Bnd),BdV W.heap.size W l v∧BdW l:=by
 rcases DataW.trod_slice Tryz.underlying30 h with ⟨hcs,_⟩|⟨a,len,cap,elems,rest,n,hfu,hcs,_,_,hl,hm,hlen,hel,_,_⟩
 ·simp at hcs
  subst hcs
  exact ⟨[],⟨none,0,rfl,fun h=>by simp at h,fun x hx=>by cases hx⟩,fun x hx=>by cases hx⟩
 ·simp at hcs
  subst hcs
  have hC:Tryz.prog.cellsOf 44=4:=by kernel_rfl
  have hT:Tryz.prog.cellsOf 25=3:=by kernel_rfl
  have hI:Tryz.prog.cellsOf 3=1:=by kernel_rfl
  have hS:Tryz.prog.cellsOf 23=1:=by kernel_rfl
  rw [hC] at hel
  have key:∀i,i<len→∃t:Bnd,W.cell? (a.add (i*4))=some (.int .i64 t.1)∧W.cell? ((a.add (i*4)).add 1)=some (.int .i64 t.2.1)∧W.cell? ((a.add (i*4)).add 2)=some (.int .i64 t.2.2.1)∧W.cell? ((a.add (i*4)).add 3)=some (slv t.2.2.2.1)∧TyV W.heap.size W t.2.2.2.2 (slv t.2.2.2.1)∧(Lit.int .i64 t.1).wf=true∧(Lit.int .i64 t.2.2.1).wf=true∧t.2.2.2.2.wf:=by
   intro i hil
   have he:=hel i hil
   rw [List.getElem?_eq_getElem (by omega)] at he
   obtain ⟨cs',hc,ht'⟩:=Option.bind_eq_some_iff.1 he
   obtain ⟨ys,n',hn',_,hlen2,hyl,hfld⟩:=DataW.trod_struct Tryz.underlying44 ht'
   rw [hC] at hlen2
   obtain ⟨_,hcl,hat⟩:=World.cells?_some hc
   have q0:DataW.trod enc Tryz.prog W 0 (fun _=>true) true n' 3 ((cs'.drop 0).take (Tryz.prog.cellsOf 3))=ys[0]?:=hfld 0 _ rfl
   have q1:DataW.trod enc Tryz.prog W 0 (fun _=>true) true n' 25 ((cs'.drop 1).take (Tryz.prog.cellsOf 25))=ys[1]?:=hfld 1 _ rfl
   have hyl':ys.length=2:=hyl
   rw [hI,List.getElem?_eq_getElem (by omega)] at q0
   rw [hT,List.getElem?_eq_getElem (by omega)] at q1
   obtain ⟨k0,hk0,_,hw0⟩:=DataW.trod_int Tryz.underlying3 q0
   match cs',hlen2 with
   | [c0,c1,c2,c3],_=>
    obtain ⟨zs,n2,hn2,_,hlen3,hzl,hfld2⟩:=DataW.trod_struct Tryz.underlying25 q1
    have p0:DataW.trod enc Tryz.prog W 0 (fun _=>true) true n2 3 (([c1,c2,c3].drop 0).take (Tryz.prog.cellsOf 3))=zs[0]?:=hfld2 0 _ rfl
    have p1:DataW.trod enc Tryz.prog W 0 (fun _=>true) true n2 3 (([c1,c2,c3].drop 1).take (Tryz.prog.cellsOf 3))=zs[1]?:=hfld2 1 _ rfl
    have p2:DataW.trod enc Tryz.prog W 0 (fun _=>true) true n2 23 (([c1,c2,c3].drop 2).take (Tryz.prog.cellsOf 23))=zs[2]?:=hfld2 2 _ rfl
    have hzl':zs.length=3:=hzl
    rw [hI,List.getElem?_eq_getElem (by omega)] at p0
    rw [hI,List.getElem?_eq_getElem (by omega)] at p1
    rw [hS,List.getElem?_eq_getElem (by omega)] at p2
    obtain ⟨k1,hk1,_,_⟩:=DataW.trod_int Tryz.underlying3 p0
    obtain ⟨k2,hk2,_,hw2⟩:=DataW.trod_int Tryz.underlying3 p1
    obtain ⟨F,u,hu,hF,hFw⟩:=types_read n2 c3 _ p2
    simp at hk0 hk1 hk2
    subst hk0;subst hk1;subst hk2;subst hu
    refine ⟨(k0,k1,k2,u,F),?_,?_,?_,?_,hF,hw0,hw2,hFw⟩
    ·have:=hat 0 (by omega)
     simpa [Addr.add] using this
    ·exact hat 1 (by omega)
    ·exact hat 2 (by omega)
    ·exact hat 3 (by omega)
  by_cases h0:len=0
  ·subst h0
   exact ⟨[],⟨_,_,rfl,fun h=>by simp at h,fun x hx=>by cases hx⟩,fun x hx=>by cases hx⟩
  ·obtain ⟨b,off,spot⟩:=a
   obtain ⟨t0,hc0,_⟩:=key 0 (by omega)
   have hspot:spot=none:=by simpa [Addr.add] using World.cell?_spot hc0
   subst hspot
   have hb:b<W.heap.size:=by simpa [Addr.add] using World.block_lt_of_cell? _ _ hc0
   obtain ⟨ts,htl,hP⟩:=listOf _ len key
   subst htl
   simp only [Addr.add_lit] at hP
   refine ⟨ts,⟨_,_,rfl,fun _=>⟨b,off,rfl,hb,hl,hm,fun i hi=>⟨(hP i hi).1,(hP i hi).2.1,(hP i hi).2.2.1,(hP i hi).2.2.2.1⟩⟩,fun x hx=>?_⟩,fun x hx=>?_⟩
   ·obtain ⟨i,hi,rfl⟩:=List.mem_iff_getElem.1 hx
    exact (hP i hi).2.2.2.2.1
   ·obtain ⟨i,hi,rfl⟩:=List.mem_iff_getElem.1 hx
    exact (hP i hi).2.2.2.2.2
theorem ArgB_open {H:Type}{enc:TypeId×Value→H}{W:World}{v:Value}{d:DataW H}{p:List MemPlace}
  (h:DataW.Trod enc Tryz.prog W 0 (fun _=>true) true 30 v d p) (hc:v.cells=#[v]):∃l,BdV W.heap.size W l v∧BdW l:=by
 obtain ⟨fuel,hf⟩:=h
 rw [hc] at hf
 exact binds_read fuel v _ hf
end
section
open Go.RowKit Go.Shelf
attribute [local go_sem] Oper.semAt_some
end
section
open Go.RowKit Go.Shelf
attribute [local go_sem] Oper.semAt_some
end
section
open Go.RowKit
theorem Fo.pre_split (f:Fo) (j:Nat) (hj:j<f.len):f.pre=(f.take j).pre++(((f.at_ j).1,(f.at_ j).2.1,(f.at_ j).2.2.1) :: (f.at_ j).2.2.2.pre)++(f.drop (j+1)).pre:=by
 induction f generalizing j with
 | nil=>simp [Fo.len] at hj
 | cons k n v ps r _ ih=>
  cases j with
  | zero=>simp [Fo.at_,Fo.pre,Fo.take,Fo.drop]
  | succ j=>
   have:=ih j (by simp [Fo.len] at hj;omega)
   simp only [Fo.pre,Fo.take,Fo.at_,Fo.drop]
   rw [this]
   simp
theorem Fo.pre_take (f:Fo) (j:Nat) (hj:j<f.len):(f.take (j+1)).pre=(f.take j).pre++(((f.at_ j).1,(f.at_ j).2.1,(f.at_ j).2.2.1) :: (f.at_ j).2.2.2.pre):=by
 rw [Fo.take_step f j hj,Fo.pre_app]
 simp [Fo.pre]
theorem allAlone_appJ (a b:List Tr):allAlone (a++b)=(allAlone a && allAlone b):=by simp [allAlone]
theorem allAlone_cons (x:Tr) (b:List Tr):allAlone (x :: b)=(alone x.1 x.2.1 x.2.2.2.1 && allAlone b):=by simp [allAlone]
theorem TyV.len {B:Nat}{w:World}{f:Fo}{u:Sl}(h:TyV B w f (slv u)):u.2.1=f.len:=by
 obtain ⟨A,c,hv⟩:=h.slice
 unfold slv at hv
 injection hv
set_option maxHeartbeats 2000000 in
set_option maxRecDepth 100000 in
theorem rright_any (m:Nat):∀(f:Fo) (k n:Int) (v:Value) (w:World),f.size<m→f.size≤1000000→TyV w.heap.size w f v→
  Calls Tryz.prog 14 #[tyVal k n v] w fun e w'=>e = .returned (.bool (alone k n f.len && allAlone f.pre))∧Below w.heap.size w w':=by
 induction m with
 | zero=>intro f k n v w h;omega
 | succ m ih=>
  intro f k n v w hm hs h
  obtain ⟨A,c,rfl⟩:=h.slice
  have H:=kI h
  have IH:=kI ih
  have hll:=f.len_le_size
  clear h ih
  unfold tyVal
  go_enter Tryz.func14,Tryz.ntmps14
  obtain ⟨q,hq⟩:∃q,f.len=q:=⟨_,rfl⟩
  rw [hq] at hll ⊢
  have HB0:=kI (show ∀(cs:Array Value) (t:TypeId),Below w.heap.size w (w.alloc (Obj.cells cs t)) from fun cs t=>(Below.refl _ w).alloc (Nat.le_refl _) _)
  have HQ:=kI hq
  clear hq
  have done:alone k n q=false→∀(cs:Array Value) (t:TypeId),(Ending.returned (.bool false) = .returned (.bool (alone k n q && allAlone f.pre))∧Below w.heap.size w (w.alloc (Obj.cells cs t))):=by
   intro h1 cs t
   rw [h1]
   exact ⟨rfl,HB0.out _ _⟩
  have DONE:=kI done
  clear done
  by_cases h1:k=1
  case' pos=>
   subst h1
   by_cases h2:n<0
   ·have f2:decide (n<0)=true:=decide_eq_true h2
    go_wp2_with fail
    go_ret
    exact DONE.out (by unfold alone;rw [if_pos rfl,decide_eq_false (by omega:¬ 0≤n)];rfl) _ _
   have f2:decide (n<0)=false:=decide_eq_false h2
   by_cases h3:1073741824≤n
   ·have f3:decide (1073741824≤n)=true:=decide_eq_true h3
    go_wp2_with fail
    go_ret
    exact DONE.out (by unfold alone;rw [if_pos rfl,decide_eq_false (by omega:¬ n<1073741824)];simp) _ _
   have f3:decide (1073741824≤n)=false:=decide_eq_false h3
   by_cases h4:0<q
   ·have f5:decide (0<q)=true:=decide_eq_true h4
    go_wp2_with fail
    go_ret
    exact DONE.out (by unfold alone;rw [if_pos rfl,beq_eq_false_iff_ne.2 (by omega:(q:Int)≠0)];simp) _ _
   have hal:alone 1 n q=true:=by
    obtain rfl:q=0:=by omega
    unfold alone
    rw [if_pos rfl,decide_eq_true (by omega:0≤n),decide_eq_true (by omega:n<1073741824)]
    rfl
   have HA:=kI hal
   have f5:decide (0<q)=false:=decide_eq_false h4
   clear hal h2 h3 h4
   go_wp2_with fail
  case' neg=>
   by_cases h2:n=0
   case neg=>
    have f1:(k == 1)=false:=beq_eq_false_iff_ne.2 h1
    have f2:(n != 0)=true:=bne_iff_ne.2 h2
    go_wp2_with fail
    go_ret
    refine DONE.out ?_ _ _
    unfold alone
    simp [h1,h2]
   subst h2
   by_cases h2:k=2
   case' pos=>
    subst h2
    by_cases h4:0<q
    ·have f5:decide (0<q)=true:=decide_eq_true h4
     go_wp2_with fail
     go_ret
     exact DONE.out (by unfold alone;simp;omega) _ _
    have hal:alone 2 0 q=true:=by
     obtain rfl:q=0:=by omega
     rfl
    have HA:=kI hal
    have f5:decide (0<q)=false:=decide_eq_false h4
    clear hal h4 h1
    go_wp2_with fail
   case' neg=>
    by_cases h3:k=3
    case' pos=>
     subst h3
     by_cases h4:0<q
     ·have f5:decide (0<q)=true:=decide_eq_true h4
      go_wp2_with fail
      go_ret
      exact DONE.out (by unfold alone;simp;omega) _ _
     have hal:alone 3 0 q=true:=by
      obtain rfl:q=0:=by omega
      rfl
     have HA:=kI hal
     have f5:decide (0<q)=false:=decide_eq_false h4
     clear hal h4 h1 h2
     go_wp2_with fail
    case' neg=>
     by_cases h4:k=4
     case' pos=>
      subst h4
      by_cases h5:q=2
      case neg=>
       have f5:((q:Int) != 2)=true:=bne_iff_ne.2 (by omega)
       go_wp2_with fail
       go_ret
       exact DONE.out (by unfold alone;simp;omega) _ _
      have f5:((q:Int) != 2)=false:=by rw [h5];rfl
      have hal:alone 4 0 q=true:=by rw [h5];rfl
      have HA:=kI hal
      clear hal h5 h1 h2 h3
      go_wp2_with fail
     case' neg=>
      by_cases h5:k=5
      case' pos=>
       subst h5
       by_cases h6:q<2
       ·have f5:decide (q<2)=true:=decide_eq_true h6
        go_wp2_with fail
        go_ret
        exact DONE.out (by unfold alone;simp;omega) _ _
       have f5:decide (q<2)=false:=decide_eq_false h6
       by_cases h7:8<q
       ·have f6:decide (8<q)=true:=decide_eq_true h7
        go_wp2_with fail
        go_ret
        exact DONE.out (by unfold alone;simp;omega) _ _
       have f6:decide (8<q)=false:=decide_eq_false h7
       have hal:alone 5 0 q=true:=by unfold alone;simp;omega
       have HA:=kI hal
       clear hal h1 h2 h3 h4
       go_wp2_with fail
       all_goals try (exfalso;omega)
      case' neg=>
       have f1:(k == 1)=false:=beq_eq_false_iff_ne.2 h1
       have f2:(k == 2)=false:=beq_eq_false_iff_ne.2 h2
       have f3:(k == 3)=false:=beq_eq_false_iff_ne.2 h3
       have f4:(k == 4)=false:=beq_eq_false_iff_ne.2 h4
       have f5:(k == 5)=false:=beq_eq_false_iff_ne.2 h5
       by_cases h6:k<1
       ·have f6:decide (k<1)=true:=decide_eq_true h6
        go_wp2_with fail
        go_ret
        exact DONE.out (by unfold alone;simp [h1,h2,h3,h4,h5]) _ _
       ·have f6:decide (k<1)=false:=decide_eq_false h6
        have f7:decide (5<k)=true:=decide_eq_true (by omega)
        go_wp2_with fail
        go_ret
        exact DONE.out (by unfold alone;simp [h1,h2,h3,h4,h5]) _ _
  all_goals
   go_loopw [4] (fun t4 wr=>∃j:Nat,j≤q∧t4 = .int .i64 j∧allAlone (f.take j).pre=true∧wr.cell? ⟨w.heap.size,2,none⟩=some (.slice A q c)∧Below w.heap.size w wr∧w.heap.size+1≤wr.heap.size) (fun t _=>q-(intOf t).toNat)
   case atStart=>exact ⟨0,Nat.zero_le _,rfl,by simp [Fo.take_zero,Fo.pre,allAlone],by go_simp,HB0.out _ _,by simp⟩
   case round=>
    obtain ⟨j,hj,rfl,hja,e2,hb,hz⟩:=hrel
    have HB:=kI hb
    have HJA:=kI hja
    clear hja hb
    by_cases hjl:j<q
    ·have hjf:j<f.len:=by rw [HQ.out];exact hjl
     obtain ⟨b,off,cap,hv,_,_,hlt,hC⟩:=H.out.form (by omega)
     injection hv with hA _ hcc
     subst hA;subst hcc
     obtain ⟨d0,d1,d2,hch⟩:=tyC_at hC j hjf
     have c0:=(HB.out.cell (p:=⟨b,off+j*3,none⟩) hlt).trans d0
     have c1:=(HB.out.cell (p:=⟨b,off+j*3+1,none⟩) hlt).trans d1
     have c2:=(HB.out.cell (p:=⟨b,off+j*3+2,none⟩) hlt).trans d2
     have hch':TyV wr.heap.size wr (f.at_ j).2.2.2 (slv (f.at_ j).2.2.1):=(hch.keep HB.out.size fun b off hb'=>HB.out.cell (p:=⟨b,off,none⟩) hb')
     have hsz:=f.at_size j hjf
     have hsp:=f.pre_split j hjf
     have htk:=f.pre_take j hjf
     have hpl:=hch.len
     have hrec:=IH.out (f.at_ j).2.2.2 (f.at_ j).1 (f.at_ j).2.1 (slv (f.at_ j).2.2.1) wr (by omega) (by omega) hch'
     clear d0 d1 d2 hC hch hch' hsz
     unfold tyVal at hrec
     generalize f.at_ j=p at *
     obtain ⟨pk,pn,pv,pf⟩:=p
     dsimp only at hsp htk hpl hrec c0 c1 c2
     obtain ⟨x,hx⟩:∃x,(alone pk pn pf.len && allAlone pf.pre)=x:=⟨_,rfl⟩
     rw [hx] at hrec
     have hxa:allAlone ((pk,pn,pv) :: pf.pre)=x:=by rw [allAlone_cons,←hx,hpl]
     have HREC:=kI hrec
     have HSP:=kI (show allAlone f.pre=(x && allAlone (f.drop (j+1)).pre) by rw [hsp,allAlone_appJ,allAlone_appJ,HJA.out,hxa];rfl)
     have HTK:=kI (show allAlone (f.take (j+1)).pre=x by rw [htk,allAlone_appJ,HJA.out,hxa];rfl)
     clear hrec hsp htk hpl hx hxa hjf
     go_wp2_with fail
     refine HREC.out.mono ?_
     rintro e w2 ⟨rfl,hb3⟩
     have e2':=(hb3.cell (p:=⟨w.heap.size,2,none⟩) (by simp only;omega)).trans e2
     have HB3:=kI hb3
     clear hb3
     cases x
     ·go_wp2_with fail
      go_ret
      exact ⟨ret_bool (by rw [HA.out,HSP.out];rfl),HB.out.trans (HB3.out.mono (by omega))⟩
     ·go_wp2_with fail
      go_roundw
      case rel=>exact ⟨j+1,by omega,by go_num,HTK.out,e2',HB.out.trans (HB3.out.mono (by omega)),Nat.le_trans hz HB3.out.size⟩
      case measure=>simp [intOf];omega
    ·obtain rfl:j=q:=by omega
     have HT:Hid (f.take j=f):=kI (by rw [←HQ.out];exact f.take_len)
     go_wp2_with fail
     go_ret
     exact ⟨ret_bool (by rw [HA.out,←HT.out,HJA.out];rfl),HB.out⟩
end
section
open Go.RowKit
set_option maxHeartbeats 1000000 in
theorem rin_any (L:List Int) (vl:Value) (v:Int) (w:World) (hR:Rd w 1 vl L.length (L.map (Value.int .i64))) (hl:L.length≤1000000):
  Calls Tryz.prog 52 #[vl,.int .i64 v] w fun e w'=>e = .returned (.bool (decide (v∈L)))∧Below w.heap.size w w':=by
 obtain ⟨A,c,rfl⟩:∃A c,vl = .slice A L.length c:=by
  rcases hR.2 with ⟨h0,A,c,h⟩|⟨b,off,cap,h,_⟩
  ·exact ⟨A,c,by rw [h,h0]⟩
  ·exact ⟨_,cap,h⟩
 obtain ⟨q,hq⟩:∃q,L.length=q:=⟨_,rfl⟩
 have H:=kI hR
 have HQ:=kI hq
 rw [hq] at hl ⊢
 clear hR hq
 go_enter Tryz.func52,Tryz.ntmps52
 go_wp2_with fail
 go_loopw [5] (fun t wr=>∃j:Nat,j≤q∧t = .int .i64 j∧(L.take j).contains v=false∧Below w.heap.size w wr) (fun t _=>q-(intOf t).toNat)
 case atStart=>exact ⟨0,Nat.zero_le _,rfl,by simp,Below.refl _ _⟩
 case round=>
  obtain ⟨j,hj,rfl,hja,hb⟩:=hrel
  have HB:=kI hb
  have HJA:=kI hja
  clear hja hb
  by_cases hjl:j<q
  ·have hjL:j<L.length:=by rw [HQ.out];exact hjl
   obtain ⟨b,off,cap,hv,_,_,hlt,hc⟩:=H.out.2.resolve_left (by rintro ⟨h,_⟩;omega)
   injection hv with hA _ hcc
   subst hA;subst hcc
   obtain ⟨x,hx⟩:∃x,L[j]=x:=⟨_,rfl⟩
   have c0:wr.cell? ⟨b,off+j,none⟩=some (.int .i64 x):=(HB.out.cell (p:=⟨b,off+j,none⟩) hlt).trans (hc j _ (by rw [List.getElem?_map,List.getElem?_eq_getElem hjL,hx];rfl))
   have htk:L.take (j+1)=L.take j ++ [x]:=by rw [←hx];exact (List.take_append_getElem hjL).symm
   by_cases hxv:x=v
   ·have f1:(x == v)=true:=by simp [hxv]
    have hmem:decide (v∈L)=true:=by
     refine decide_eq_true ?_
     rw [←hxv,←hx]
     exact List.getElem_mem hjL
    have HM:=kI hmem
    clear htk hx hc hxv hmem
    go_wp2_with fail
    go_ret
    exact ⟨ret_bool HM.out.symm,HB.out⟩
   ·have f1:(x == v)=false:=beq_eq_false_iff_ne.2 hxv
    have hnm:(L.take (j+1)).contains v=false:=by
     rw [htk]
     have h1:=HJA.out
     simp only [List.contains_eq_mem,decide_eq_false_iff_not,List.mem_append,List.mem_singleton,not_or] at h1 ⊢
     exact ⟨h1,fun e=>hxv e.symm⟩
    have HM:=kI hnm
    clear htk hx hc hxv hnm
    go_wp2_with fail
    go_roundw
    case rel=>exact ⟨j+1,by omega,by go_num,HM.out,HB.out⟩
    case measure=>simp [intOf];omega
  ·obtain rfl:j=q:=by omega
   have hT:decide (v∈L)=false:=by
    have:=HJA.out
    rw [←HQ.out,List.take_length] at this
    simpa using this
   have HT:=kI hT
   clear hT
   go_wp2_with fail
   go_ret
   exact ⟨ret_bool HT.out.symm,HB.out⟩
end
section
open Go.RowKit Go.Shelf
attribute [local go_sem ↓] builtin_app
theorem intInfo:(Tryz.prog.info? 3).map (fun i=>(i.zero,i.size,i.bytes))=some (some (.int .i64 0),1,8):=by kernel_rfl
def ints (L:List Int):List Value:=L.map (Value.int .i64)
theorem ints_len (L:List Int):(ints L).length=L.length:=by simp [ints]
theorem ints_app (a b:List Int):ints (a++b)=ints a++ints b:=by simp [ints]
theorem ints_one (L:List Int):∀u∈ints L,u.oneCell'=true:=by
 intro u hu
 obtain ⟨x,_,rfl⟩:=List.mem_map.1 hu
 rfl
theorem app_int (W:World) (base:Nat) (v:Value) (L:List Int) (own:W.ownsRow base 3 1 v L.length (ints L)) (vx:Value) (L2:List Int) (rd:Rd W 1 vx L2.length (ints L2)) (hl:L.length+L2.length≤100000000) (hbase:base≤W.heap.size):
  ∃v' W',(app_ #[41,41] 41 #[v,vx]).run Tryz.prog W = .ok v' W'∧W'.ownsRow base 3 1 v' (L++L2).length (ints (L++L2))∧Below base W W'∧KeepT 25 W W'∧W.grownBy W' v.ownBlock∧(v'.ownBlock=v.ownBlock∨v'.ownBlock=some W.heap.size):=by
 obtain ⟨i0,hi0,hz0,hz1,hz2⟩:=info_parts intInfo
 obtain ⟨v1,w1,hrun,hown,hg,hat⟩:=run_append_rd (P:=Tryz.prog) W base 41 41 3 i0 _ 1 8 Tryz.underlying41 hi0 hz0 hz1 hz2 rfl (by omega) v _ _ own vx _ _ rd (ints_one _) (by unfold maxLen;omega) (by omega) hbase
 refine ⟨v1,w1,hrun,?_,(Below.refl _ _).grown hg hbase (fun k e=>(own.lt k e).1),KeepT.grown hg (row_not own (by decide)),hg,hat⟩
 rw [List.length_append,ints_app]
 exact hown
theorem Rd.form {w:World}{size:Nat}{v:Value}{n:Nat}{xs:List Value}(h:Rd w size v n xs):∃A c,v = .slice A n c:=by
 rcases h.2 with ⟨h0,A,c,h⟩|⟨b,off,cap,h,_⟩
 ·exact ⟨A,c,by rw [h,h0]⟩
 ·exact ⟨_,cap,h⟩
end
section
open Go.RowKit Go.Shelf Go.Maps Go.WideShapes
attribute [local go_sem] Oper.semAt_some
attribute [local go_sem ↓] builtin_app
end
section
open Go.RowKit Go.Shelf Go.Maps Go.WideShapes
attribute [local go_sem] Oper.semAt_some
def mv (l:List Bnd):Int→Option Value:=fun v=>(fnd l v).map bdT
end
section
open Go.RowKit Go.Shelf Go.Maps Go.WideShapes
attribute [local go_sem] Oper.semAt_some
end
section
open Go.RowKit Go.Shelf
attribute [local go_sem ↓] builtin_app
end
section
open Go.RowKit Go.Shelf
structure BdG (w:World) (l:List Bnd) (v:Value) (S:Nat):Prop where
 at_:BdV w.heap.size w l v
 wf:BdW l
 len:l.length≤100000
 size:∀b∈l,1+b.2.2.2.2.size≤S
structure TyG (w:World) (k n:Int) (u:Sl) (ps:Fo):Prop where
 at_:TyV w.heap.size w ps (slv u)
 size:ps.size<1000000
 n:(Lit.int .i64 n).wf=true
 wf:ps.wf
end
section
open Go.RowKit Go.Shelf
attribute [local go_sem ↓] builtin_app
namespace Fo
theorem last (F:Fo) (q:Nat) (h:F.len=q+1):∃(F':Fo) (k n:Int) (u:Sl) (ps:Fo),F=F'.app (.cons k n u ps .nil)∧F'.len=q:=by
 induction F generalizing q with
 | nil=>simp [len] at h
 | cons k n u ps r _ ih=>
  cases r with
  | nil=>exact ⟨.nil,k,n,u,ps,rfl,by simp [len] at h ⊢;omega⟩
  | cons k' n' u' ps' r'=>
   cases q with
   | zero=>simp [len] at h
   | succ q=>
    obtain ⟨F',a,b,c,d,h1,h2⟩:=ih q (by simp [len] at h ⊢;omega)
    exact ⟨.cons k n u ps F',a,b,c,d,by rw [h1];rfl,by simp [len,h2]⟩
end Fo
theorem TyL.unapp {B:Nat}{w:World}{f g:Fo}(h:TyL B w (f.app g)):TyL B w f∧TyL B w g:=by
 induction f with
 | nil=>exact ⟨trivial,h⟩
 | cons _ _ _ _ r _ ih=>exact ⟨⟨h.1,(ih h.2).1⟩,(ih h.2).2⟩
theorem top_len3 (f:Fo):(f.top.flatMap trC).length=f.len*3:=by rw [trC_len,Fo.top_len]
theorem last_cells {w:World}{base a c q:Nat}{F:Fo}{k n:Int}{u:Sl}{ps:Fo}(hq:F.len=q) (h:w.ownsRow base 25 3 (.slice (some ⟨a,0,none⟩) (q+1) c) (q+1) ((F.app (.cons k n u ps .nil)).top.flatMap trC)):
  w.cell? ⟨a,q*3,none⟩=some (.int .i64 k)∧w.cell? ⟨a,q*3+1,none⟩=some (.int .i64 n)∧w.cell? ⟨a,q*3+2,none⟩=some (slv u)∧
   w.ownsRow base 25 3 (.slice (some ⟨a,0,none⟩) q c) F.len (F.top.flatMap trC):=by
 have hsl:=top_len3 F
 rw [Fo.top_app,List.flatMap_append] at h
 rw [hq] at hsl ⊢
 refine ⟨?_,?_,?_,own_cut h q (by omega) hsl⟩
 ·rw [h.cellAt _ (by omega),List.getElem?_append_right (by omega),hsl];simp [trC,Fo.top]
 ·rw [h.cellAt _ (by omega),List.getElem?_append_right (by omega),hsl];simp [trC,Fo.top]
 ·rw [h.cellAt _ (by omega),List.getElem?_append_right (by omega),hsl];simp [trC,Fo.top]
theorem app_ty (W:World) (base:Nat) (v:Value) (F:Fo) (own:W.ownsRow base 25 3 v F.len (F.top.flatMap trC)) (vx:Value) (G:Fo) (rd:Rd W 3 vx G.len (G.top.flatMap trC)) (hl:F.len+G.len≤100000000) (hbase:base≤W.heap.size):
  ∃v' W',(app_ #[23,23] 23 #[v,vx]).run Tryz.prog W = .ok v' W'∧W'.ownsRow base 25 3 v' (F.app G).len ((F.app G).top.flatMap trC)∧Below base W W'∧W.grownBy W' v.ownBlock∧(v'.ownBlock=v.ownBlock∨v'.ownBlock=some W.heap.size):=by
 obtain ⟨i0,hi0,hz0,hz1,hz2⟩:=info_parts tyInfo
 obtain ⟨v1,w1,hrun,hown,hg,hat⟩:=run_append_rd (P:=Tryz.prog) W base 23 23 25 i0 _ 3 40 Tryz.underlying23 hi0 hz0 hz1 hz2 rfl (by omega) v _ _ own vx _ _ rd (trC_one _) (by unfold maxLen;omega) (by omega) hbase
 refine ⟨v1,w1,hrun,?_,(Below.refl _ _).grown hg hbase (fun k e=>(own.lt k e).1),hg,hat⟩
 rw [Fo.len_app,Fo.top_app,List.flatMap_append]
 exact hown
theorem own_one {w:World}{H g:Nat}{k n:Int}{u:Sl}(hH:H≤g) (h:w.heap[g]? = some (Obj.cells #[.int .i64 k,.int .i64 n,slv u] 25)) (ps:Fo):w.ownsRow H 25 3 (.slice (some ⟨g,0,none⟩) 1 1) (Fo.cons k n u ps .nil).len ((Fo.cons k n u ps .nil).top.flatMap trC):=
 ⟨rfl,.inr ⟨g,1,_,rfl,hH,h,Nat.le_refl _,by unfold maxLen;omega,by simp,by simp [Fo.len,Fo.top,trC]⟩⟩
end
section
open Go.RowKit Go.Shelf Go.Maps Go.WideShapes
attribute [local go_sem ↓] builtin_app
theorem bdInfo:(Tryz.prog.info? 44).map (fun i=>(i.zero,i.size,i.bytes))=some (some (.agg #[.int .i64 0,.int .i64 0,.int .i64 0,.slice none 0 0]),4,48):=by kernel_rfl
def bds (L:List Bnd):List Value:=L.flatMap bdC
theorem bds_app (a b:List Bnd):bds (a++b)=bds a++bds b:=by simp [bds]
theorem bds_one (L:List Bnd):∀u∈bds L,u.oneCell'=true:=by
 intro u hu
 obtain ⟨b,_,hu⟩:=List.mem_flatMap.1 hu
 simp only [bdC,List.mem_cons,List.not_mem_nil,or_false] at hu
 rcases hu with rfl|rfl|rfl|rfl<;>rfl
theorem bds_get (L:List Bnd) (i:Nat) (hi:i<L.length):(bds L)[i*4]? = some (.int .i64 L[i].1)∧(bds L)[i*4+1]? = some (.int .i64 L[i].2.1)∧(bds L)[i*4+2]? = some (.int .i64 L[i].2.2.1)∧(bds L)[i*4+3]? = some (slv L[i].2.2.2.1):=by
 induction L generalizing i with
 | nil=>simp at hi
 | cons x L ih=>
  cases i with
  | zero=>simp [bds,bdC]
  | succ i=>
   have:=ih i (by simpa using hi)
   have e:∀j,(bds (x :: L))[(i+1)*4+j]? = (bds L)[i*4+j]?:=by
    intro j
    rw [show bds (x :: L)=bdC x++bds L by simp [bds],List.getElem?_append_right (by simp [bdC];omega)]
    congr 1
    simp [bdC];omega
   have e0:=e 0
   simp only [Nat.add_zero] at e0
   simp only [List.getElem_cons_succ]
   exact ⟨e0.trans this.1,(e 1).trans this.2.1,(e 2).trans this.2.2.1,(e 3).trans this.2.2.2⟩
theorem app_bd (W:World) (base:Nat) (v:Value) (L:List Bnd) (own:W.ownsRow base 44 4 v L.length (bds L)) (vx:Value) (L2:List Bnd) (rd:Rd W 4 vx L2.length (bds L2)) (hl:L.length+L2.length≤10000000) (hbase:base≤W.heap.size):
  ∃v' W',(app_ #[30,30] 30 #[v,vx]).run Tryz.prog W = .ok v' W'∧W'.ownsRow base 44 4 v' (L++L2).length (bds (L++L2))∧Below base W W'∧KeepT 25 W W'∧W.grownBy W' v.ownBlock∧(v'.ownBlock=v.ownBlock∨v'.ownBlock=some W.heap.size):=by
 obtain ⟨i0,hi0,hz0,hz1,hz2⟩:=info_parts bdInfo
 obtain ⟨v1,w1,hrun,hown,hg,hat⟩:=run_append_rd (P:=Tryz.prog) W base 30 30 44 i0 _ 4 48 Tryz.underlying30 hi0 hz0 hz1 hz2 rfl (by omega) v _ _ own vx _ _ rd (bds_one _) (by unfold maxLen;omega) (by omega) hbase
 refine ⟨v1,w1,hrun,?_,(Below.refl _ _).grown hg hbase (fun k e=>(own.lt k e).1),KeepT.grown hg (row_not own (by decide)),hg,hat⟩
 rw [List.length_append,bds_app]
 exact hown
theorem own_bdV {W:World}{base:Nat}{v:Value}{L:List Bnd}(own:W.ownsRow base 44 4 v L.length (bds L)) (ht:∀x∈L,TyV W.heap.size W x.2.2.2.2 (slv x.2.2.2.1)):BdV W.heap.size W L v:=by
 obtain ⟨_,hr⟩:=Rd.of_own own
 rcases hr with ⟨h0,A,c,rfl⟩|⟨b,off,cap,rfl,hnc,hcm,hb,hat⟩
 ·exact ⟨A,c,by rw [h0],fun h=>by omega,ht⟩
 ·refine ⟨_,cap,rfl,fun _=>⟨b,off,rfl,hb,hnc,hcm,fun i hi=>?_⟩,ht⟩
  obtain ⟨g0,g1,g2,g3⟩:=bds_get L i hi
  exact ⟨hat _ _ g0,by rw [Nat.add_assoc];exact hat _ _ g1,by rw [Nat.add_assoc];exact hat _ _ g2,by rw [Nat.add_assoc];exact hat _ _ g3⟩
end
section
open Go.RowKit Go.Shelf
def Std (S:Nat→Prop) (w:World) (P:Fo) (u:Sl):Prop:=
 ∀W:World,w.heap.size≤W.heap.size→(∀b,b<w.heap.size→S b→W.heap[b]? = w.heap[b]?)→∃g,g.pure=P∧TyV W.heap.size W g (slv u)
def Elems (S:Nat→Prop) (w:World):List Tr→Fo→Prop
 | [],.nil=>True
 | x :: L,.cons k n _ ps r=>x.1=k∧x.2.1=n∧Std S w ps x.2.2∧Elems S w L r
 | _,_=>False
structure RaInv (B0:Nat) (s:Sg) (f:Fo) (k n:Int) (wx:World) (j:Nat) (wr:World):Prop where
 row:∃(v:Sl) (L:List Tr),wr.heap[wx.heap.size]? = some (Obj.cells #[.int .i64 k,.int .i64 n,slv v] 25)∧wr.ownsRow (wx.heap.size+1) 25 3 (slv v) L.length (L.flatMap trC)∧L.length=j∧
  Elems (fun b=>(b<B0∨wx.heap.size+1≤b)∧some b≠(slv v).ownBlock) wr L ((f.take j).sub s)
 below:Below wx.heap.size wx wr
 size:wx.heap.size+1≤wr.heap.size
end
section
open Go.RowKit
def RoomIs (n deep:Nat) (f:Fo) (r:Int):Prop:=
 -1≤r∧r≤n∧(0≤r→1+(f.size:Int)+r=n∧1+f.depth≤deep)∧(1+f.size≤n→1+f.depth≤deep→r=(n:Int)-(1+f.size))
theorem RoomIs.zero (n:Nat) (f:Fo):RoomIs n 0 f (-1):=⟨by omega,by omega,by omega,by omega⟩
end
section
open Go.RowKit Go.Shelf Go.Maps Go.WideShapes
def big (b:Bnd):Bool:=!(decide (1+b.2.2.2.2.size≤300) && decide (1+b.2.2.2.2.depth≤40))
end
section
open Go.RowKit Go.Shelf Go.Maps Go.WideShapes
end
section
open Go.RowKit Go.Shelf Go.Maps Go.WideShapes
end
section
open Go.RowKit Go.Shelf Go.Maps Go.WideShapes
inductive All2 {α β:Type} (R:α→β→Prop):List α→List β→Prop
 | nil:All2 R [] []
 | cons {a:α} {b:β} {l:List α} {m:List β} (h:R a b) (t:All2 R l m):All2 R (a :: l) (b :: m)
abbrev Pb:=Int×Int×Int×Fo
def pb (x:Bnd):Pb:=(x.1,x.2.1,x.2.2.1,x.2.2.2.2.pure)
end
section
open Go.RowKit Go.Shelf Go.Maps Go.WideShapes
end
section
open Go.RowKit Go.Shelf Go.Maps Go.WideShapes
attribute [local go_sem ↓] builtin_app
end
section
open Go.RowKit Go.Shelf Go.Maps Go.WideShapes
set_option maxHeartbeats 4000000 in
set_option maxRecDepth 100000 in
theorem rsame_bind (w:World) (a b:List Bnd) (va vb:Value) (ha:BdV w.heap.size w a va) (hb:BdV w.heap.size w b vb) (he:a.map pb=b.map pb) (hs:∀x∈a,x.2.2.2.2.size≤1000000) (hl:a.length≤1000000):
  Calls Tryz.prog 20 #[va,vb] w fun e w'=>e = .returned (.bool true)∧Below w.heap.size w w':=by
 obtain ⟨A,c,rfl⟩:=ha.form
 obtain ⟨B,d,rfl⟩:=hb.form
 have hlen:b.length=a.length:=by
  have:=congrArg List.length he
  simpa using this.symm
 rw [hlen] at hb ⊢
 have HA:=kI ha
 have HB:=kI hb
 have HE:=kI he
 have HS:=kI hs
 have f0:(((a.length:Nat):Int) != (a.length:Nat))=false:=by simp
 have HLN:=kI hlen
 clear ha hb he hs hlen
 go_enter Tryz.func20,Tryz.ntmps20
 go_wp2_with fail
 go_loopw [5] (fun s5 wr=>∃j:Nat,s5 = .int .i64 j∧j≤a.length∧Below w.heap.size w wr) (fun s _=>a.length-(intOf s).toNat)
 case atStart=>exact ⟨0,rfl,Nat.zero_le _,Below.refl _ _⟩
 case round=>
  obtain ⟨j,rfl,hj,hb⟩:=hrel
  by_cases hjl:j<a.length
  ·obtain ⟨ba,oa,rfl,hlta,c0,c1,c2,c3⟩:=(HA.out.below hb).at j hjl
   obtain ⟨bb,ob,rfl,hltb,d0,d1,d2,d3⟩:=(HB.out.below hb).at j (by rw [HLN.out];exact hjl)
   have hpe:pb a[j]=pb (b[j]'(by rw [HLN.out];exact hjl)):=by
    have:=congrArg (fun l=>l[j]?) HE.out
    simp only [List.getElem?_map] at this
    rw [List.getElem?_eq_getElem hjl,List.getElem?_eq_getElem (by rw [HLN.out];exact hjl)] at this
    simpa using this
   have hta:TyV w.heap.size wr a[j].2.2.2.2 (slv a[j].2.2.2.1):=by
    obtain ⟨_,_,_,_,h2⟩:=HA.out
    exact (h2 _ (List.getElem_mem hjl)).below hb
   have htb:TyV w.heap.size wr (b[j]'(by rw [HLN.out];exact hjl)).2.2.2.2 (slv (b[j]'(by rw [HLN.out];exact hjl)).2.2.2.1):=by
    obtain ⟨_,_,_,_,h2⟩:=HB.out
    exact (h2 _ (List.getElem_mem _)).below hb
   have hsz:=HS.out _ (List.getElem_mem hjl)
   obtain ⟨x,hx⟩:∃x,a[j]=x:=⟨_,rfl⟩
   obtain ⟨y,hy⟩:∃y,(b[j]'(by rw [HLN.out];exact hjl))=y:=⟨_,rfl⟩
   rw [hx] at c0 c1 c2 c3 hpe hta hsz
   rw [hy] at d0 d1 d2 d3 hpe htb
   obtain ⟨x0,x1,x2,⟨xa,xb,xc⟩,x4⟩:=x
   obtain ⟨y0,y1,y2,⟨ya,yb,yc⟩,y4⟩:=y
   simp only [pb,Prod.mk.injEq] at hpe
   obtain ⟨rfl,rfl,rfl,hpp⟩:=hpe
   dsimp only [slv] at c0 c1 c2 c3 d0 d1 d2 d3 hta htb hsz
   have hsm:=rsame_any (x4.size+1) x4 y4 x1 x2 x1 x2 (.slice xa xb xc) (.slice ya yb yc) wr.drew (by omega) hsz (by rw [←Fo.pure_size,←hpp,Fo.pure_size];exact hsz) ((hta.keep hb.size fun _ _ _=>rfl).below (Below.refl _ _).drew) ((htb.keep hb.size fun _ _ _=>rfl).below (Below.refl _ _).drew)
   have hev:(x1 == x1 && x2 == x2 && x4.same y4)=true:=by
    rw [(Fo.same_iff x4 y4).2 hpp];simp
   rw [hev] at hsm
   have kc:∀W,Below w.heap.size w W→W.cell? ⟨ba,oa+j*4,none⟩=some (.int .i64 x0)∧W.cell? ⟨ba,oa+j*4+1,none⟩=some (.int .i64 x1)∧W.cell? ⟨ba,oa+j*4+2,none⟩=some (.int .i64 x2)∧W.cell? ⟨ba,oa+j*4+3,none⟩=some (.slice xa xb xc)∧
     W.cell? ⟨bb,ob+j*4,none⟩=some (.int .i64 x0)∧W.cell? ⟨bb,ob+j*4+1,none⟩=some (.int .i64 x1)∧W.cell? ⟨bb,ob+j*4+2,none⟩=some (.int .i64 x2)∧W.cell? ⟨bb,ob+j*4+3,none⟩=some (.slice ya yb yc):=fun W h=>by
    obtain ⟨_,_,h1,_,q0,q1,q2,q3⟩:=(HA.out.below h).at j hjl
    obtain ⟨_,_,h2,_,r0,r1,r2,r3⟩:=(HB.out.below h).at j (by rw [HLN.out];exact hjl)
    injection h1 with h1
    injection h1 with e1 e2
    subst e1;subst e2
    injection h2 with h2
    injection h2 with e1 e2
    subst e1;subst e2
    rw [hx] at q0 q1 q2 q3
    rw [hy] at r0 r1 r2 r3
    exact ⟨q0,q1,q2,q3,r0,r1,r2,r3⟩
   have kd:=kc wr.drew hb.drew
   have f1:(x0 != x0)=false:=by simp
   have HSM:=kI hsm
   have KC:=kI kc
   have HBB:=kI hb
   have HX:=kI (aI hx hy)
   clear hsm kc hb hx hy hta htb hpp hev c0 c1 c2 c3 d0 d1 d2 d3
   dsimp only [tyVal] at HSM
   go_wp2_with fail
   go_region_held3 (fun W=>W.cell? ⟨ba,oa+j*4,none⟩=some (.int .i64 x0)∧W.cell? ⟨ba,oa+j*4+1,none⟩=some (.int .i64 x1)∧W.cell? ⟨ba,oa+j*4+2,none⟩=some (.int .i64 x2)∧W.cell? ⟨ba,oa+j*4+3,none⟩=some (.slice xa xb xc)∧W.cell? ⟨bb,ob+j*4,none⟩=some (.int .i64 x0)∧W.cell? ⟨bb,ob+j*4+1,none⟩=some (.int .i64 x1)∧W.cell? ⟨bb,ob+j*4+2,none⟩=some (.int .i64 x2)∧W.cell? ⟨bb,ob+j*4+3,none⟩=some (.slice ya yb yc))
    (first|exact kd|exact kx1)
    (first|(go_at_call 15;with_reducible refine HSM.out.mono ?_;rintro e z1 ⟨rfl,hz1⟩;have hz2:=HBB.out.drew.trans (hz1.mono HBB.out.drew.size);have kx1:=KC.out _ hz2))
   clear kd kx1
   go_wp2_with fail
   go_roundw
   case rel=>exact ⟨j+1,by go_num,by omega,hz2⟩
   case measure=>simp [intOf];omega
  ·obtain rfl:j=a.length:=by omega
   go_wp2_with fail
   go_ret
   exact ⟨rfl,hb⟩
end
end Go.Proofs.YtmamdiggjghjkaaGreatDoor
