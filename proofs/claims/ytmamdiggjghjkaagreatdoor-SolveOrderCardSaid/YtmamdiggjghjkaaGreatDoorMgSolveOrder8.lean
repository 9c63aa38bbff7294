/- Texts of one proof, one behind the other. -/
import Derived.Test.YtmamdiggjghjkaaGreatDoorMgSolveOrder7
import Derived.Test.YtmamdiggjghjkaaGreatDoorMgSolveOrder6
import Derived.Test.YtmamdiggjghjkaaGreatDoorMgSolveOrder1
import Derived.Lib.SliceRun
import Derived.Test.YtmamdiggjghjkaaGreatDoorMgSolveOrder2
set_option linter.unusedVariables false
namespace Go.Proofs.YtmamdiggjghjkaaGreatDoor
section
open Go.RowKit Go.Shelf Go.Maps Go.WideShapes
abbrev Gn:=Int×Int×Nat×List Nat
def gvar:List Gn→Int→Option Nat
 | [],_=>none
 | x :: G,n=>if x.1=1∧x.2.1=n then some 0 else (gvar G n).map (· + 1)
theorem gvar_snoc (G:List Gn) (x:Gn) (n:Int):gvar (G ++ [x]) n=match gvar G n with
  | some i=>some i
  | none=>if x.1=1∧x.2.1=n then some G.length else none:=by
 induction G with
 | nil=>
  simp only [List.nil_append,gvar,Option.map_none,List.length_nil]
 | cons y G ih=>
  simp only [List.cons_append,gvar]
  split
  ·rfl
  ·rw [ih]
   cases gvar G n with
   | some i=>rfl
   | none=>
    simp only [Option.map_none,List.length_cons]
    split<;>rfl
theorem gvar_lt {G:List Gn}{n:Int}{i:Nat}(h:gvar G n=some i):i<G.length:=by
 induction G generalizing i with
 | nil=>cases h
 | cons x G ih=>
  simp only [gvar] at h
  split at h
  ·cases h;simp
  ·obtain ⟨j,hj,rfl⟩:=Option.map_eq_some_iff.1 h
   have:=ih hj
   simp;omega
def gvf (G:List Gn):Int→Option Value:=fun n=>(gvar G n).map fun i=>.int .i64 i
theorem gvf_snoc_var (G:List Gn) (n:Int) (s:Nat) (P:List Nat) (h:gvar G n=none):gvf (G ++ [(1,n,s,P)])=upd (gvf G) n (.int .i64 G.length):=by
 funext m
 simp only [gvf,upd,gvar_snoc]
 by_cases e:m=n
 ·subst e;rw [h];simp
 ·cases gvar G m with
  | some i=>simp [e]
  | none=>simp [Ne.symm e];intro h;exact absurd h e
theorem gvf_snoc_other (G:List Gn) (k n:Int) (s:Nat) (P:List Nat) (h:k≠1):gvf (G ++ [(k,n,s,P)])=gvf G:=by
 funext m
 simp only [gvf,gvar_snoc]
 cases gvar G m with
 | some i=>rfl
 | none=>simp [h]
def gsum (G:List Gn) (P:List Nat):Nat:=(P.map fun p=>(G[p]?.map (·.2.2.1)).getD 0).sum
def gnode (G:List Gn) (k n:Int) (P:List Nat):List Gn×Nat:=
 match (if k=1 then gvar G n else none) with
 | some i=>(G,i)
 | none=>(G ++ [(k,n,1+gsum G P,P)],G.length)
mutual
def gadd1 (G:List Gn) (k n:Int) (ps:Fo):List Gn×Nat:=let r:=gadd G ps;gnode r.1 k n r.2
def gadd (G:List Gn):Fo→List Gn×List Nat
 | .nil=>(G,[])
 | .cons k n _ ps r=>let x:=gadd1 G k n ps;let y:=gadd x.1 r;(y.1,x.2 :: y.2)
end
def gstep (s:List Gn×List Nat) (x:Tr):List Gn×List Nat:=
 let m:=s.2.length-x.2.2.2.1
 let r:=gnode s.1 x.1 x.2.1 (s.2.drop m)
 (r.1,s.2.take m ++ [r.2])
end
section
open Go.RowKit Go.Shelf Go.Maps Go.WideShapes
abbrev Nd:=Int×Int×Int×Sl
def ndC (x:Nd):List Value:=[.int .i64 x.1,.int .i64 x.2.1,.int .i64 x.2.2.1,slv x.2.2.2]
def toI (P:List Nat):List Int:=P.map fun p:Nat=>(p:Int)
theorem toI_len (P:List Nat):(toI P).length=P.length:=by simp [toI]
def nums (P:List Nat):List Value:=ints (toI P)
theorem nums_len (P:List Nat):(nums P).length=P.length:=by simp [nums,ints_len,toI_len]
def NdR (B:Nat) (w:World) (x:Nd) (y:Gn):Prop:=x.1=y.1∧x.2.1=y.2.1∧x.2.2.1=(y.2.2.1:Int)∧w.ownsRow B 3 1 (slv x.2.2.2) y.2.2.2.length (nums y.2.2.2)
def NdL (B:Nat) (w:World):List Nd→List Gn→Prop
 | [],[]=>True
 | x :: L,y :: G=>NdR B w x y∧NdL B w L G
 | _,_=>False
theorem NdL.len {B:Nat}{w:World}{L:List Nd}{G:List Gn}(h:NdL B w L G):L.length=G.length:=by
 induction L generalizing G with
 | nil=>cases G with
  | nil=>rfl
  | cons=>exact h.elim
 | cons x L ih=>cases G with
  | nil=>exact h.elim
  | cons y G=>simp [ih h.2]
theorem NdL.snoc {B:Nat}{w:World}{L:List Nd}{G:List Gn}{x:Nd}{y:Gn}(h:NdL B w L G) (hx:NdR B w x y):NdL B w (L ++ [x]) (G ++ [y]):=by
 induction L generalizing G with
 | nil=>cases G with
  | nil=>exact ⟨hx,trivial⟩
  | cons=>exact h.elim
 | cons z L ih=>cases G with
  | nil=>exact h.elim
  | cons y G=>exact ⟨h.1,ih h.2⟩
theorem NdL.at {B:Nat}{w:World}{L:List Nd}{G:List Gn}(h:NdL B w L G) (i:Nat) (hi:i<L.length) (hj:i<G.length):NdR B w L[i] G[i]:=by
 induction L generalizing G i with
 | nil=>simp at hi
 | cons z L ih=>cases G with
  | nil=>exact h.elim
  | cons y G=>
   cases i with
   | zero=>exact h.1
   | succ i=>exact ih h.2 i (by simpa using hi) (by simpa using hj)
theorem NdL.to {B:Nat}{w w':World}{L:List Nd}{G:List Gn}(h:NdL B w L G) (hk:∀(b:Nat) (cs:Array Value),B≤b→w.heap[b]? = some (Obj.cells cs 3)→w'.heap[b]? = some (Obj.cells cs 3)):NdL B w' L G:=by
 induction L generalizing G with
 | nil=>cases G with
  | nil=>trivial
  | cons=>exact h.elim
 | cons x L ih=>cases G with
  | nil=>exact h.elim
  | cons y G=>
   obtain ⟨⟨h1,h2,h3,h4⟩,h5⟩:=h
   refine ⟨⟨h1,h2,h3,h4.1,?_⟩,ih h5⟩
   rcases h4.2 with h|⟨g,cap,cur,hv,hb,hg,hr⟩
   ·exact .inl h
   ·exact .inr ⟨g,cap,cur,hv,hb,hk _ _ hb hg,hr⟩
structure GrM (B:Nat) (w:World) (g:Nat) (v:Value) (mb:Nat) (L:List Nd) (G:List Gn):Prop where
 cell:w.heap[g]? = some (Obj.cells #[v,.map (some mb)] 197)
 row:w.ownsRow B 210 4 v L.length (L.flatMap ndC)
 nodes:NdL B w L G
 vars:∃S,MapF (gvf G) S G.length mb w
 ge:B≤g∧B≤mb
theorem GrM.lt {B:Nat}{w:World}{g:Nat}{v:Value}{mb:Nat}{L:List Nd}{G:List Gn}(h:GrM B w g v mb L G):g<w.heap.size∧mb<w.heap.size:=
 ⟨(gL h.cell).1,by obtain ⟨_,hm⟩:=h.vars;exact hm.lt⟩
theorem GrM.to {B:Nat}{w w':World}{g:Nat}{v:Value}{mb:Nat}{L:List Nd}{G:List Gn}(h:GrM B w g v mb L G)
  (hg:w'.heap[g]? = w.heap[g]?) (hm:w'.heap[mb]? = w.heap[mb]?) (hr:∀b,v.ownBlock=some b→w'.heap[b]? = w.heap[b]?)
  (hk:∀(b:Nat) (cs:Array Value),B≤b→w.heap[b]? = some (Obj.cells cs 3)→w'.heap[b]? = some (Obj.cells cs 3)):GrM B w' g v mb L G:=by
 refine ⟨hg.trans h.cell,⟨h.row.1,?_⟩,h.nodes.to hk,?_,h.ge⟩
 ·rcases h.row.2 with h2|⟨b,cap,cur,hv,hb,hh,hr2⟩
  ·exact .inl h2
  ·exact .inr ⟨b,cap,cur,hv,hb,(hr b (by rw [hv];rfl)).trans hh,hr2⟩
 ·obtain ⟨S,hv⟩:=h.vars
  exact ⟨S,hv.block hm⟩
theorem GrM.below {B:Nat}{w w':World}{g:Nat}{v:Value}{mb:Nat}{L:List Nd}{G:List Gn}(h:GrM B w g v mb L G) (hb:Below w.heap.size w w'):GrM B w' g v mb L G:=
 h.to (hb.block _ h.lt.1) (hb.block _ h.lt.2) (fun b e=>hb.block _ (h.row.lt b e).2) fun b _ _ hc=>(hb.block b (gL hc).1).trans hc
set_option maxRecDepth 100000 in
set_option maxHeartbeats 1000000 in
theorem new_graph (w:World):Calls Tryz.prog 108 #[] w fun e w'=>∃g mb,e = .returned (.pointer (some ⟨g,0,none⟩))∧GrM w.heap.size w' g (.slice none 0 0) mb [] []∧Below w.heap.size w w':=by
 have hmm:=@run_makeMap Tryz.prog
 go_enter Tryz.func108,Tryz.ntmps108
 go_wp2_with fail
 refine bodyPost_ret (results_tmp rfl _ _ _) rfl ?_
 have hb1:Below w.heap.size w (w.alloc (Obj.map #[] 0)):=(Below.refl _ _).alloc (Nat.le_refl _) _
 refine ⟨_,_,rfl,⟨?_,World.ownsRow_nil _ _ _ _,trivial,⟨0,?_⟩,⟨by omega,Nat.le_refl _⟩⟩,hb1.alloc (by simp) _⟩
 ·have:=heap_alloc_new (w.alloc (Obj.map #[] 0)) (Obj.cells #[.slice none 0 0,.map (some w.heap.size)] 197)
  rwa [World.size_alloc] at this
 ·exact (MapF.made w).kept (World.grownBy_alloc _ _ none) (by simp)
end
section
open Go.RowKit Go.Shelf
attribute [local go_sem ↓] builtin_app
set_option maxRecDepth 100000 in
set_option maxHeartbeats 1000000 in
theorem clone_ints (w:World) (v:Value) (L:List Int) (hR:Rd w 1 v L.length (ints L)) (hl:L.length≤10000000):
  Calls Tryz.prog 146 #[v] w fun e w'=>∃v',e = .returned v'∧w'.ownsRow w.heap.size 3 1 v' L.length (ints L)∧Below w.heap.size w w':=by
 obtain ⟨A,c,rfl⟩:=hR.form
 have hnil:=fun (w:World) (a:Option Addr) (n c n' c':Nat)=>Lib.run_eql_slice_nil (P:=Tryz.prog) w 41 3 a n c n' c' Tryz.underlying41
 cases A with
 | none=>
  have h0:L.length=0:=by
   rcases hR.2 with ⟨h,_⟩|⟨_,_,_,h,_⟩
   ·exact h
   ·cases h
  have hL:L=[]:=List.eq_nil_of_length_eq_zero h0
  subst hL
  go_enter Tryz.func146,Tryz.ntmps146
  go_wp2_with fail
  exact bodyPost_ret (results_tmp rfl _ _ _) rfl ⟨_,rfl,World.ownsRow_nil _ _ _ _,Below.refl _ _⟩
 | some a=>
  obtain ⟨w1,hw1⟩:∃w1,w.alloc (.cells #[] 3)=w1:=⟨_,rfl⟩
  have hb1:Below w.heap.size w w1:=by rw [←hw1];exact (Below.refl _ _).alloc (Nat.le_refl _) _
  have hs1:w1.heap.size=w.heap.size+1:=by rw [←hw1];simp
  have h1:w1.heap[w.heap.size]? = some (.cells #[] 3):=by rw [←hw1];exact heap_alloc_new _ _
  have own0:w1.ownsRow w.heap.size 3 1 (.slice (some ⟨w.heap.size,0,none⟩) 0 0) ([]:List Int).length (ints []):=⟨rfl,.inr ⟨w.heap.size,0,_,rfl,Nat.le_refl _,h1,Nat.le_refl _,by unfold maxLen;omega,by simp,by simp [ints]⟩⟩
  obtain ⟨v2,w2,run2,own2,b2,_,_,_⟩:=app_int w1 w.heap.size _ [] own0 _ L (hR.below hb1) (by simp;omega) (by omega)
  rw [List.nil_append] at own2
  have H2:=kI (aI own2 (hb1.trans b2))
  clear hR hb1 hs1 h1 own0 own2 b2
  go_enter Tryz.func146,Tryz.ntmps146
  go_wp2_with fail
  exact bodyPost_ret (results_tmp rfl _ _ _) rfl ⟨v2,rfl,H2.out⟩
end
section
open Go.RowKit Go.Shelf
set_option maxRecDepth 100000
theorem results_tmp2 {fn:Func}{p q:Tmp}(h:fn.results=#[.tmp p,.tmp q]) (tmps:Array Value) (P:Program) (w:World):(results fn tmps).run P w = .ok (.tuple #[tmps.getD p undef,tmps.getD q undef]) w:=by
 simp [results,h]
theorem results_cell_tmp {P:Program}{fn:Func}{p q:Tmp}{ty:TypeId}(h:fn.results=#[.cell p ty,.tmp q]) (tmps:Array Value) (w:World) (g:Nat) (v:Value)
  (hp:tmps.getD p undef = .pointer (some ⟨g,0,none⟩)) (hl:(loadVar ty ⟨g,0,none⟩).run P w = .ok v w):(results fn tmps).run P w = .ok (.tuple #[v,tmps.getD q undef]) w:=by
 have hp':tmps[p]?.getD undef = .pointer (some ⟨g,0,none⟩):=by simpa using hp
 simp [results,h,hp',asAddr,hl]
theorem len_graph (w:World) (B g mb:Nat) (v:Value) (L:List Nd) (G:List Gn) (hG:GrM B w g v mb L G):Calls Tryz.prog 132 #[.pointer (some ⟨g,0,none⟩)] w fun e w'=>e = .returned (.int .i64 (G.length:Nat))∧w'=w:=by
 obtain ⟨A,c,rfl,_,_⟩:=own_form hG.row
 have g0:w.cell? ⟨g,0,none⟩=some (.slice A L.length c):=cell_of_row w _ 0 _ _ (0,0) hG.cell
 have hl:=hG.nodes.len
 have HL:=kI hl
 clear hl hG
 go_enter Tryz.func132,Tryz.ntmps132
 go_wp2_with fail
 exact bodyPost_ret (results_tmp rfl _ _ _) rfl ⟨by rw [←HL.out];rfl,rfl⟩
end
end Go.Proofs.YtmamdiggjghjkaaGreatDoor
