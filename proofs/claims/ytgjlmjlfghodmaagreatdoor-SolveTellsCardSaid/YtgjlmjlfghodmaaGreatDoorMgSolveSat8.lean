/- Texts of one proof, one behind the other. -/
import Derived.Test.YtgjlmjlfghodmaaGreatDoorMgSolveSat7
import Derived.Test.YtgjlmjlfghodmaaGreatDoorMgSolveSat2
import Derived.Test.YtgjlmjlfghodmaaGreatDoorMgSolveSat3
import Derived.Deep.DeepCutAuto
import Derived.Deep.RegionWith
import Derived.Test.YtgjlmjlfghodmaaGreatDoorMgSolveSat5
import Derived.Test.YtgjlmjlfghodmaaGreatDoorMgSolveSat1
import Derived.Maps.Own
import Derived.Maps.Views
import Derived.Maps.OwnSet
import Derived.Deep.RegionHeld3
import Derived.Test.YtgjlmjlfghodmaaGreatDoorMgSolveSat4
import Derived.Lib.Hide
import Derived.RangeFuncFrom
import Derived.Lib.SliceRun
set_option linter.unusedVariables false
namespace Go.Proofs.YtgjlmjlfghodmaaGreatDoor
open Go.RowKit Go.Shelf
attribute [local go_sem ↓] builtin_app
theorem intInfo:(Tryz.prog.info? 3).map (fun i=>(i.zero,i.size,i.bytes))=some (some (.int .i64 0),1,8):=by kernel_rfl
def ints (L:List Int):List Value:=L.map (Value.int .i64)
theorem ints_len (L:List Int):(ints L).length=L.length:=by simp [ints]
theorem ints_app (a b:List Int):ints (a++b)=ints a++ints b:=by simp [ints]
theorem ints_one (L:List Int):∀u∈ints L,u.oneCell'=true:=by
 intro u hu
 obtain ⟨x,_,rfl⟩:=List.mem_map.1 hu
 rfl
theorem app_int (W:World) (base:Nat) (v:Value) (L:List Int) (own:W.ownsRow base 3 1 v L.length (ints L)) (vx:Value) (L2:List Int) (rd:Rd W 1 vx L2.length (ints L2)) (hl:L.length+L2.length≤100000000) (hbase:base≤W.heap.size):
  ∃v' W',(app_ #[49,49] 49 #[v,vx]).run Tryz.prog W = .ok v' W'∧W'.ownsRow base 3 1 v' (L++L2).length (ints (L++L2))∧Below base W W'∧KeepT 28 W W'∧W.grownBy W' v.ownBlock∧(v'.ownBlock=v.ownBlock∨v'.ownBlock=some W.heap.size):=by
 obtain ⟨i0,hi0,hz0,hz1,hz2⟩:=info_parts intInfo
 obtain ⟨v1,w1,hrun,hown,hg,hat⟩:=run_append_rd (P:=Tryz.prog) W base 49 49 3 i0 _ 1 8 Tryz.underlying49 hi0 hz0 hz1 hz2 rfl (by omega) v _ _ own vx _ _ rd (ints_one _) (by unfold maxLen;omega) (by omega) hbase
 refine ⟨v1,w1,hrun,?_,(Below.refl _ _).grown hg hbase (fun k e=>(own.lt k e).1),KeepT.grown hg (row_not own (by decide)),hg,hat⟩
 rw [List.length_append,ints_app]
 exact hown
theorem Rd.form {w:World}{size:Nat}{v:Value}{n:Nat}{xs:List Value}(h:Rd w size v n xs):∃A c,v = .slice A n c:=by
 rcases h.2 with ⟨h0,A,c,h⟩|⟨b,off,cap,h,_⟩
 ·exact ⟨A,c,by rw [h,h0]⟩
 ·exact ⟨_,cap,h⟩
end Go.Proofs.YtgjlmjlfghodmaaGreatDoor
namespace Go.Proofs.YtgjlmjlfghodmaaGreatDoor
open Go.RowKit Go.Shelf Go.Maps Go.WideShapes
attribute [local go_sem] Oper.semAt_some
attribute [local go_sem ↓] builtin_app
end Go.Proofs.YtgjlmjlfghodmaaGreatDoor
namespace Go.Proofs.YtgjlmjlfghodmaaGreatDoor
open Go.RowKit Go.Shelf Go.Maps Go.WideShapes
attribute [local go_sem] Oper.semAt_some
def mv (l:List Bnd):Int→Option Value:=fun v=>(fnd l v).map bdT
end Go.Proofs.YtgjlmjlfghodmaaGreatDoor
namespace Go.Proofs.YtgjlmjlfghodmaaGreatDoor
open Go.RowKit Go.Shelf Go.Maps Go.WideShapes
attribute [local go_sem] Oper.semAt_some
end Go.Proofs.YtgjlmjlfghodmaaGreatDoor
namespace Go.Proofs.YtgjlmjlfghodmaaGreatDoor
open Go.RowKit Go.Shelf
attribute [local go_sem ↓] builtin_app
end Go.Proofs.YtgjlmjlfghodmaaGreatDoor
namespace Go.Proofs.YtgjlmjlfghodmaaGreatDoor
open Go.RowKit Go.Shelf
structure BdG (w:World) (l:List Bnd) (v:Value) (S:Nat):Prop where
 at_:BdV w.heap.size w l v
 wf:BdW l
 len:l.length≤100000
 size:∀b∈l,1+b.2.2.2.2.size≤S
structure TyG (w:World) (k n:Int) (u:Sl) (ps:Fo):Prop where
 at_:TyV w.heap.size w ps (slv u)
 size:ps.size<1000000
 n:(Lit.int .i64 n).wf=true
 wf:ps.wf
end Go.Proofs.YtgjlmjlfghodmaaGreatDoor
namespace Go.Proofs.YtgjlmjlfghodmaaGreatDoor
open Go.RowKit Go.Shelf
attribute [local go_sem ↓] builtin_app
namespace Fo
theorem last (F:Fo) (q:Nat) (h:F.len=q+1):∃(F':Fo) (k n:Int) (u:Sl) (ps:Fo),F=F'.app (.cons k n u ps .nil)∧F'.len=q:=by
 induction F generalizing q with
 | nil=>simp [len] at h
 | cons k n u ps r _ ih=>
  cases r with
  | nil=>exact ⟨.nil,k,n,u,ps,rfl,by simp [len] at h ⊢;omega⟩
  | cons k' n' u' ps' r'=>
   cases q with
   | zero=>simp [len] at h
   | succ q=>
    obtain ⟨F',a,b,c,d,h1,h2⟩:=ih q (by simp [len] at h ⊢;omega)
    exact ⟨.cons k n u ps F',a,b,c,d,by rw [h1];rfl,by simp [len,h2]⟩
end Fo
theorem TyL.unapp {B:Nat}{w:World}{f g:Fo}(h:TyL B w (f.app g)):TyL B w f∧TyL B w g:=by
 induction f with
 | nil=>exact ⟨trivial,h⟩
 | cons _ _ _ _ r _ ih=>exact ⟨⟨h.1,(ih h.2).1⟩,(ih h.2).2⟩
theorem top_len3 (f:Fo):(f.top.flatMap trC).length=f.len*3:=by rw [trC_len,Fo.top_len]
theorem last_cells {w:World}{base a c q:Nat}{F:Fo}{k n:Int}{u:Sl}{ps:Fo}(hq:F.len=q) (h:w.ownsRow base 28 3 (.slice (some ⟨a,0,none⟩) (q+1) c) (q+1) ((F.app (.cons k n u ps .nil)).top.flatMap trC)):
  w.cell? ⟨a,q*3,none⟩=some (.int .i64 k)∧w.cell? ⟨a,q*3+1,none⟩=some (.int .i64 n)∧w.cell? ⟨a,q*3+2,none⟩=some (slv u)∧
   w.ownsRow base 28 3 (.slice (some ⟨a,0,none⟩) q c) F.len (F.top.flatMap trC):=by
 have hsl:=top_len3 F
 rw [Fo.top_app,List.flatMap_append] at h
 rw [hq] at hsl ⊢
 refine ⟨?_,?_,?_,own_cut h q (by omega) hsl⟩
 ·rw [h.cellAt _ (by omega),List.getElem?_append_right (by omega),hsl];simp [trC,Fo.top]
 ·rw [h.cellAt _ (by omega),List.getElem?_append_right (by omega),hsl];simp [trC,Fo.top]
 ·rw [h.cellAt _ (by omega),List.getElem?_append_right (by omega),hsl];simp [trC,Fo.top]
theorem app_ty (W:World) (base:Nat) (v:Value) (F:Fo) (own:W.ownsRow base 28 3 v F.len (F.top.flatMap trC)) (vx:Value) (G:Fo) (rd:Rd W 3 vx G.len (G.top.flatMap trC)) (hl:F.len+G.len≤100000000) (hbase:base≤W.heap.size):
  ∃v' W',(app_ #[26,26] 26 #[v,vx]).run Tryz.prog W = .ok v' W'∧W'.ownsRow base 28 3 v' (F.app G).len ((F.app G).top.flatMap trC)∧Below base W W'∧W.grownBy W' v.ownBlock∧(v'.ownBlock=v.ownBlock∨v'.ownBlock=some W.heap.size):=by
 obtain ⟨i0,hi0,hz0,hz1,hz2⟩:=info_parts tyInfo
 obtain ⟨v1,w1,hrun,hown,hg,hat⟩:=run_append_rd (P:=Tryz.prog) W base 26 26 28 i0 _ 3 40 Tryz.underlying26 hi0 hz0 hz1 hz2 rfl (by omega) v _ _ own vx _ _ rd (trC_one _) (by unfold maxLen;omega) (by omega) hbase
 refine ⟨v1,w1,hrun,?_,(Below.refl _ _).grown hg hbase (fun k e=>(own.lt k e).1),hg,hat⟩
 rw [Fo.len_app,Fo.top_app,List.flatMap_append]
 exact hown
theorem own_one {w:World}{H g:Nat}{k n:Int}{u:Sl}(hH:H≤g) (h:w.heap[g]? = some (Obj.cells #[.int .i64 k,.int .i64 n,slv u] 28)) (ps:Fo):w.ownsRow H 28 3 (.slice (some ⟨g,0,none⟩) 1 1) (Fo.cons k n u ps .nil).len ((Fo.cons k n u ps .nil).top.flatMap trC):=
 ⟨rfl,.inr ⟨g,1,_,rfl,hH,h,Nat.le_refl _,by unfold maxLen;omega,by simp,by simp [Fo.len,Fo.top,trC]⟩⟩
end Go.Proofs.YtgjlmjlfghodmaaGreatDoor
namespace Go.Proofs.YtgjlmjlfghodmaaGreatDoor
open Go.RowKit Go.Shelf Go.Maps Go.WideShapes
attribute [local go_sem ↓] builtin_app
theorem bdInfo:(Tryz.prog.info? 52).map (fun i=>(i.zero,i.size,i.bytes))=some (some (.agg #[.int .i64 0,.int .i64 0,.int .i64 0,.slice none 0 0]),4,48):=by kernel_rfl
def bds (L:List Bnd):List Value:=L.flatMap bdC
theorem bds_app (a b:List Bnd):bds (a++b)=bds a++bds b:=by simp [bds]
theorem bds_one (L:List Bnd):∀u∈bds L,u.oneCell'=true:=by
 intro u hu
 obtain ⟨b,_,hu⟩:=List.mem_flatMap.1 hu
 simp only [bdC,List.mem_cons,List.not_mem_nil,or_false] at hu
 rcases hu with rfl|rfl|rfl|rfl<;>rfl
theorem bds_get (L:List Bnd) (i:Nat) (hi:i<L.length):(bds L)[i*4]? = some (.int .i64 L[i].1)∧(bds L)[i*4+1]? = some (.int .i64 L[i].2.1)∧(bds L)[i*4+2]? = some (.int .i64 L[i].2.2.1)∧(bds L)[i*4+3]? = some (slv L[i].2.2.2.1):=by
 induction L generalizing i with
 | nil=>simp at hi
 | cons x L ih=>
  cases i with
  | zero=>simp [bds,bdC]
  | succ i=>
   have:=ih i (by simpa using hi)
   have e:∀j,(bds (x :: L))[(i+1)*4+j]? = (bds L)[i*4+j]?:=by
    intro j
    rw [show bds (x :: L)=bdC x++bds L by simp [bds],List.getElem?_append_right (by simp [bdC];omega)]
    congr 1
    simp [bdC];omega
   have e0:=e 0
   simp only [Nat.add_zero] at e0
   simp only [List.getElem_cons_succ]
   exact ⟨e0.trans this.1,(e 1).trans this.2.1,(e 2).trans this.2.2.1,(e 3).trans this.2.2.2⟩
theorem app_bd (W:World) (base:Nat) (v:Value) (L:List Bnd) (own:W.ownsRow base 52 4 v L.length (bds L)) (vx:Value) (L2:List Bnd) (rd:Rd W 4 vx L2.length (bds L2)) (hl:L.length+L2.length≤10000000) (hbase:base≤W.heap.size):
  ∃v' W',(app_ #[40,40] 40 #[v,vx]).run Tryz.prog W = .ok v' W'∧W'.ownsRow base 52 4 v' (L++L2).length (bds (L++L2))∧Below base W W'∧KeepT 28 W W'∧W.grownBy W' v.ownBlock∧(v'.ownBlock=v.ownBlock∨v'.ownBlock=some W.heap.size):=by
 obtain ⟨i0,hi0,hz0,hz1,hz2⟩:=info_parts bdInfo
 obtain ⟨v1,w1,hrun,hown,hg,hat⟩:=run_append_rd (P:=Tryz.prog) W base 40 40 52 i0 _ 4 48 Tryz.underlying40 hi0 hz0 hz1 hz2 rfl (by omega) v _ _ own vx _ _ rd (bds_one _) (by unfold maxLen;omega) (by omega) hbase
 refine ⟨v1,w1,hrun,?_,(Below.refl _ _).grown hg hbase (fun k e=>(own.lt k e).1),KeepT.grown hg (row_not own (by decide)),hg,hat⟩
 rw [List.length_append,bds_app]
 exact hown
end Go.Proofs.YtgjlmjlfghodmaaGreatDoor
namespace Go.Proofs.YtgjlmjlfghodmaaGreatDoor
open Go.RowKit Go.Shelf
def Std (S:Nat→Prop) (w:World) (P:Fo) (u:Sl):Prop:=
 ∀W:World,w.heap.size≤W.heap.size→(∀b,b<w.heap.size→S b→W.heap[b]? = w.heap[b]?)→∃g,g.pure=P∧TyV W.heap.size W g (slv u)
def Elems (S:Nat→Prop) (w:World):List Tr→Fo→Prop
 | [],.nil=>True
 | x :: L,.cons k n _ ps r=>x.1=k∧x.2.1=n∧Std S w ps x.2.2∧Elems S w L r
 | _,_=>False
structure RaInv (B0:Nat) (s:Sg) (f:Fo) (k n:Int) (wx:World) (j:Nat) (wr:World):Prop where
 row:∃(v:Sl) (L:List Tr),wr.heap[wx.heap.size]? = some (Obj.cells #[.int .i64 k,.int .i64 n,slv v] 28)∧wr.ownsRow (wx.heap.size+1) 28 3 (slv v) L.length (L.flatMap trC)∧L.length=j∧
  Elems (fun b=>(b<B0∨wx.heap.size+1≤b)∧some b≠(slv v).ownBlock) wr L ((f.take j).sub s)
 below:Below wx.heap.size wx wr
 size:wx.heap.size+1≤wr.heap.size
end Go.Proofs.YtgjlmjlfghodmaaGreatDoor
namespace Go.Proofs.YtgjlmjlfghodmaaGreatDoor
open Go.RowKit Go.Shelf Go.Maps Go.WideShapes
def big (b:Bnd):Bool:=!(decide (1+b.2.2.2.2.size≤300) && decide (1+b.2.2.2.2.depth≤40))
end Go.Proofs.YtgjlmjlfghodmaaGreatDoor
namespace Go.Proofs.YtgjlmjlfghodmaaGreatDoor
open Go.RowKit Go.Shelf Go.Maps Go.WideShapes
end Go.Proofs.YtgjlmjlfghodmaaGreatDoor
namespace Go.Proofs.YtgjlmjlfghodmaaGreatDoor
open Go.RowKit Go.Shelf Go.Maps Go.WideShapes
end Go.Proofs.YtgjlmjlfghodmaaGreatDoor
namespace Go.Proofs.YtgjlmjlfghodmaaGreatDoor
open Go.RowKit Go.Shelf Go.Maps Go.WideShapes
inductive All2 {α β:Type} (R:α→β→Prop):List α→List β→Prop
 | nil:All2 R [] []
 | cons {a:α} {b:β} {l:List α} {m:List β} (h:R a b) (t:All2 R l m):All2 R (a :: l) (b :: m)
abbrev Pb:=Int×Int×Int×Fo
def pb (x:Bnd):Pb:=(x.1,x.2.1,x.2.2.1,x.2.2.2.2.pure)
end Go.Proofs.YtgjlmjlfghodmaaGreatDoor
namespace Go.Proofs.YtgjlmjlfghodmaaGreatDoor
open Go.RowKit Go.Shelf Go.Maps Go.WideShapes
end Go.Proofs.YtgjlmjlfghodmaaGreatDoor
namespace Go.Proofs.YtgjlmjlfghodmaaGreatDoor
open Go.RowKit Go.Shelf Go.Maps Go.WideShapes
theorem txts_pure (f:Fo):f.pure.txts=f.txts:=(Img.txts (f:=f) (g:=f.pure) ((img_iff _ _).2 (Fo.pure_pure f)))
theorem ok_pure (f:Fo):f.pure.ok=f.ok:=(Img.ok (f:=f) (g:=f.pure) ((img_iff _ _).2 (Fo.pure_pure f)))
end Go.Proofs.YtgjlmjlfghodmaaGreatDoor
namespace Go.Proofs.YtgjlmjlfghodmaaGreatDoor
def Chl (ch:Nat→List Nat) (y x:Nat):Prop:=y∈ch x
theorem acc_chain {ch:Nat→List Nat}{a:Nat}(h:Acc (Chl ch) a):∀f:Nat→Nat,f 0=a→(∀i,f (i+1)∈ch (f i))→False:=by
 induction h with
 | intro a _ ih=>
  intro f h0 hf
  exact ih (f 1) (by have:=hf 0;rw [h0] at this;exact this) (fun i=>f (i+1)) rfl fun i=>hf (i+1)
theorem acc_round {ch:Nat→List Nat}{l:List Nat}(hl:0<l.length) (h:∀i a b,l[i]? = some a→l[i+1]? = some b→b∈ch a) (hr:∀a b,l[l.length-1]? = some a→l[0]? = some b→b∈ch a) {x:Nat}(hx:x∈l):¬ Acc (Chl ch) x:=by
 intro hacc
 obtain ⟨s,hs,rfl⟩:=List.getElem_of_mem hx
 have hm:∀i,(i+s) % l.length<l.length:=fun i=>Nat.mod_lt _ hl
 refine acc_chain hacc (fun i=>l[(i+s) % l.length]'(hm i)) (by simp [Nat.mod_eq_of_lt hs]) fun i=>?_
 by_cases hc:(i+s) % l.length+1<l.length
 ·have e:(i+1+s) % l.length=(i+s) % l.length+1:=by
   rw [show i+1+s=i+s+1 by omega,Nat.add_mod,Nat.mod_eq_of_lt (show 1<l.length by omega),Nat.mod_eq_of_lt hc]
  refine h ((i+s) % l.length) _ _ (List.getElem?_eq_getElem (hm i)) ?_
  rw [List.getElem?_eq_getElem hc]
  simp only [e]
 ·have hlt:=hm i
  have e0:(i+s) % l.length=l.length-1:=by omega
  have e:(i+1+s) % l.length=0:=by
   have h1:i+1+s=l.length*((i+s) / l.length)+l.length:=by
    have:=Nat.div_add_mod (i+s) l.length
    omega
   rw [h1,Nat.add_mod_right,Nat.mul_mod_right]
  refine hr _ _ ?_ ?_
  ·rw [←e0,List.getElem?_eq_getElem (hm i)]
  ·rw [List.getElem?_eq_getElem hl]
   simp only [e]
def upe (e:Nat→Option Bool) (x:Nat) (b:Bool):Nat→Option Bool:=fun y=>if y=x then some b else e y
structure Dfs (ch:Nat→List Nat) (e:Nat→Option Bool) (S:List (Nat×Nat)):Prop where
 on:∀x∈S,e x.1=some false
 nd:(S.map (·.1)).Nodup
 chain:∀(i:Nat) (a b:Nat×Nat),S[i]? = some a→S[i+1]? = some b→(ch a.1)[a.2]? = some b.1
 past:∀x∈S,∀t,t<x.2→∃y,(ch x.1)[t]? = some y∧e y=some true
 le:∀x∈S,x.2≤(ch x.1).length
 tt:∀x,e x=some true→Acc (Chl ch) x
 ff:∀x,e x=some false→(∀s∈S,s.1≠x)→¬ Acc (Chl ch) x
section CyPs
variable {ch:Nat→List Nat}{e:Nat→Option Bool}{S:List (Nat×Nat)}{r k x:Nat}
theorem Dfs.none:Dfs ch (fun _=>.none) []:=
 ⟨fun x h=>by simp at h,by simp,fun i a b h=>by simp at h,fun x h=>by simp at h,fun x h=>by simp at h,(fun x h=>by cases h),(fun x h=>by cases h)⟩
theorem Dfs.push (h:Dfs ch e S) (hx:∀a,S[S.length-1]? = some a→(ch a.1)[a.2]? = some x) (hn:e x = .none):Dfs ch (upe e x false) (S ++ [(x,0)]):=by
 have hne:∀s∈S,s.1≠x:=fun s hs he=>by have:=h.on s hs;rw [he,hn] at this;cases this
 have hu:∀y,y≠x→upe e x false y=e y:=fun y hy=>by unfold upe;rw [if_neg hy]
 refine ⟨fun s hs=>?_,?_,fun i a b ha hb=>?_,fun s hs t ht=>?_,fun s hs=>?_,fun y hy=>?_,fun y hy ho=>?_⟩
 ·rcases List.mem_append.1 hs with hs|hs
  ·rw [hu _ (hne s hs)];exact h.on s hs
  ·obtain rfl:s=(x,0):=by simpa using hs
   simp [upe]
 ·rw [List.map_append,List.nodup_append]
  refine ⟨h.nd,by simp,fun a ha b hb=>?_⟩
  obtain ⟨s,hs,rfl⟩:=List.mem_map.1 ha
  obtain rfl:b=x:=by simpa using hb
  exact hne s hs
 ·have hbl:=(List.getElem?_eq_some_iff.1 hb).1
  rw [List.length_append,List.length_singleton] at hbl
  rw [List.getElem?_append_left (by omega)] at ha
  by_cases hi:i+1<S.length
  ·rw [List.getElem?_append_left hi] at hb
   exact h.chain i a b ha hb
  ·have e1:i+1=S.length:=by omega
   rw [List.getElem?_append_right (by omega),e1,Nat.sub_self] at hb
   obtain rfl:b=(x,0):=by simpa using hb.symm
   exact hx a (by rw [show S.length-1=i by omega];exact ha)
 ·rcases List.mem_append.1 hs with hs|hs
  ·obtain ⟨y,h1,h2⟩:=h.past s hs t ht
   refine ⟨y,h1,?_⟩
   rw [hu y (fun he=>by rw [he,hn] at h2;cases h2)]
   exact h2
  ·obtain rfl:s=(x,0):=by simpa using hs
   exact absurd ht (Nat.not_lt_zero _)
 ·rcases List.mem_append.1 hs with hs|hs
  ·exact h.le s hs
  ·obtain rfl:s=(x,0):=by simpa using hs
   exact Nat.zero_le _
 ·by_cases he:y=x
  ·subst he;simp [upe] at hy
  ·rw [hu y he] at hy;exact h.tt y hy
 ·have he:y≠x:=fun he=>ho (x,0) (by simp) he.symm
  rw [hu y he] at hy
  exact h.ff y hy fun s hs=>ho s (List.mem_append_left _ hs)
theorem Dfs.step (h:Dfs ch e (S ++ [(r,k)])) (hx:(ch r)[k]? = some x) (ht:e x=some true):Dfs ch e (S ++ [(r,k+1)]):=by
 have hk:=(List.getElem?_eq_some_iff.1 hx).1
 have hm:∀s,s∈S ++ [(r,k+1)]→s∈S ++ [(r,k)]∨s=(r,k+1):=fun s hs=>by
  rcases List.mem_append.1 hs with hs|hs
  ·exact .inl (List.mem_append_left _ hs)
  ·exact .inr (by simpa using hs)
 refine ⟨fun s hs=>?_,by simpa using h.nd,fun i a b ha hb=>?_,fun s hs t htt=>?_,fun s hs=>?_,h.tt,fun y hy ho=>h.ff y hy fun s hs=>?_⟩
 ·rcases hm s hs with hs|rfl
  ·exact h.on s hs
  ·exact h.on (r,k) (by simp)
 ·have hbl:=(List.getElem?_eq_some_iff.1 hb).1
  rw [List.length_append,List.length_singleton] at hbl
  rw [List.getElem?_append_left (by omega)] at ha
  by_cases hi:i+1<S.length
  ·rw [List.getElem?_append_left hi] at hb
   exact h.chain i a b (by rw [List.getElem?_append_left (by omega)];exact ha) (by rw [List.getElem?_append_left hi];exact hb)
  ·have e1:i+1=S.length:=by omega
   rw [List.getElem?_append_right (by omega),e1,Nat.sub_self] at hb
   obtain rfl:b=(r,k+1):=by simpa using hb.symm
   exact h.chain i a (r,k) (by rw [List.getElem?_append_left (by omega)];exact ha) (by rw [List.getElem?_append_right (by omega),e1,Nat.sub_self];rfl)
 ·rcases hm s hs with hs|rfl
  ·exact h.past s hs t htt
  ·rcases Nat.lt_or_ge t k with h1|h1
   ·exact h.past (r,k) (by simp) t h1
   ·obtain rfl:t=k:=by have htt:t<k+1:=htt;omega
    exact ⟨x,hx,ht⟩
 ·rcases hm s hs with hs|rfl
  ·exact h.le s hs
  ·exact hk
 ·rcases List.mem_append.1 hs with hs|hs
  ·exact ho s (List.mem_append_left _ hs)
  ·obtain rfl:s=(r,k):=by simpa using hs
   exact ho (r,k+1) (by simp)
theorem Dfs.pop (h:Dfs ch e (S ++ [(r,k)])) (b:Bool) (hb:b=true→Acc (Chl ch) r) (hf:b=false→¬ Acc (Chl ch) r):Dfs ch (upe e r b) S:=by
 have hnd:=h.nd
 rw [List.map_append,List.nodup_append] at hnd
 have hne:∀s∈S,s.1≠r:=fun s hs=>hnd.2.2 s.1 (List.mem_map_of_mem hs) r (by simp)
 have hu:∀y,y≠r→upe e r b y=e y:=fun y hy=>by unfold upe;rw [if_neg hy]
 have hr:=h.on (r,k) (by simp)
 refine ⟨fun s hs=>?_,hnd.1,fun i a c ha hc=>?_,fun s hs t ht=>?_,fun s hs=>h.le s (List.mem_append_left _ hs),fun y hy=>?_,fun y hy ho=>?_⟩
 ·rw [hu _ (hne s hs)];exact h.on s (List.mem_append_left _ hs)
 ·have h1:=(List.getElem?_eq_some_iff.1 ha).1
  have h2:=(List.getElem?_eq_some_iff.1 hc).1
  exact h.chain i a c (by rw [List.getElem?_append_left h1];exact ha) (by rw [List.getElem?_append_left h2];exact hc)
 ·obtain ⟨y,h1,h2⟩:=h.past s (List.mem_append_left _ hs) t ht
  refine ⟨y,h1,?_⟩
  rw [hu y (fun he=>by rw [he] at h2;rw [hr] at h2;cases h2)]
  exact h2
 ·by_cases he:y=r
  ·subst he
   simp only [upe,if_pos] at hy
   exact hb (by simpa using hy)
  ·rw [hu y he] at hy;exact h.tt y hy
 ·by_cases he:y=r
  ·subst he
   simp only [upe,if_pos] at hy
   exact hf (by simpa using hy)
  ·rw [hu y he] at hy
   refine h.ff y hy fun s hs=>?_
   rcases List.mem_append.1 hs with hs|hs
   ·exact ho s hs
   ·obtain rfl:s=(r,k):=by simpa using hs
    exact fun e=>he e.symm
theorem Dfs.whole (h:Dfs ch e (S ++ [(r,k)])) (hk:k=(ch r).length):Acc (Chl ch) r:=by
 refine ⟨r,fun y hy=>?_⟩
 obtain ⟨t,ht,rfl⟩:=List.getElem_of_mem (show y∈ch r from hy)
 obtain ⟨z,h1,h2⟩:=h.past (r,k) (by simp) t (by show t<k;omega)
 rw [List.getElem?_eq_getElem ht] at h1
 cases h1
 exact h.tt _ h2
theorem Dfs.stuck (h:Dfs ch e (S ++ [(r,k)])) (hx:(ch r)[k]? = some x) (hf:e x=some false):¬ Acc (Chl ch) r:=by
 have hxr:x∈ch r:=List.mem_of_getElem? hx
 by_cases ho:∀s∈S ++ [(r,k)],s.1≠x
 ·exact fun hacc=>h.ff x hf ho (hacc.inv hxr)
 ·have ho:∃s,s∈S ++ [(r,k)]∧s.1=x:=Classical.byContradiction fun hn=>ho fun s hs he=>hn ⟨s,hs,he⟩
  obtain ⟨s,hs,he⟩:=ho
  obtain ⟨i,hi,hsi⟩:=List.getElem_of_mem hs
  have hT:(S ++ [(r,k)]).length=S.length+1:=by simp
    -- from x on to the last one
  obtain ⟨l,hl⟩:∃l,((S ++ [(r,k)]).drop i).map (·.1)=l:=⟨_,rfl⟩
  have hll:l.length=S.length+1-i:=by rw [←hl];simp
  have hat:∀t,l[t]? = ((S ++ [(r,k)])[i+t]?).map (·.1):=fun t=>by rw [←hl,List.getElem?_map,List.getElem?_drop]
  have hlast:l[l.length-1]? = some r:=by
   rw [hat,hll,show i+(S.length+1-i-1)=S.length by omega,List.getElem?_append_right (Nat.le_refl _),Nat.sub_self]
   rfl
  have h0:l[0]? = some x:=by
   rw [hat,Nat.add_zero,List.getElem?_eq_getElem hi,hsi]
   simp [he]
  refine acc_round (l:=l) (by omega) (fun t a b ha hb=>?_) (fun a b ha hb=>?_) (List.mem_of_getElem? hlast)
  ·rw [hat] at ha hb
   obtain ⟨p,hp,rfl⟩:=Option.map_eq_some_iff.1 ha
   obtain ⟨q,hq,rfl⟩:=Option.map_eq_some_iff.1 hb
   exact List.mem_of_getElem? (h.chain (i+t) p q hp (by rw [show i+t+1=i+(t+1) by omega];exact hq))
  ·rw [hlast] at ha
   rw [h0] at hb
   cases ha
   cases hb
   exact hxr
end CyPs
end Go.Proofs.YtgjlmjlfghodmaaGreatDoor
namespace Go.Proofs.YtgjlmjlfghodmaaGreatDoor
open Go.RowKit
structure Btw (B H:Nat) (W W':World):Prop where
 os:W'.os=W.os
 tape:W'.tape=W.tape
 output:W'.output=W.output
 size:W.heap.size≤W'.heap.size
 block:∀b,(b<B∨H≤b)→b<W.heap.size→W'.heap[b]? = W.heap[b]?
theorem Btw.below {B H:Nat}{W W':World}(h:Btw B H W W') (hB:B≤W.heap.size):Below B W W':=⟨h.os,h.tape,h.output,h.size,fun b hb=>h.block b (.inl hb) (by omega)⟩
theorem Btw.trans {B H:Nat}{a b c:World}(x:Btw B H a b) (y:Btw B H b c):Btw B H a c:=
 ⟨y.os.trans x.os,y.tape.trans x.tape,y.output.trans x.output,Nat.le_trans x.size y.size,fun k hk hl=>(y.block k hk (by have:=x.size;omega)).trans (x.block k hk hl)⟩
structure Bt3 (B H M:Nat) (W W':World):Prop where
 os:W'.os=W.os
 tape:W'.tape=W.tape
 output:W'.output=W.output
 size:W.heap.size≤W'.heap.size
 block:∀b,(b<B∨(H≤b∧b<M))→b<W.heap.size→W'.heap[b]? = W.heap[b]?
 same:∀b o,M≤b→W.heap[b]? = some o→o.isCells=false→W'.heap[b]? = some o
theorem Bt3.below {B H M:Nat}{W W':World}(h:Bt3 B H M W W') (hB:B≤W.heap.size):Below B W W':=⟨h.os,h.tape,h.output,h.size,fun b hb=>h.block b (.inl hb) (by omega)⟩
theorem Bt3.trans {B H M:Nat}{a b c:World}(x:Bt3 B H M a b) (y:Bt3 B H M b c):Bt3 B H M a c:=
 ⟨y.os.trans x.os,y.tape.trans x.tape,y.output.trans x.output,Nat.le_trans x.size y.size,fun k hk hl=>(y.block k hk (by have:=x.size;omega)).trans (x.block k hk hl),fun k o hk ho hc=>y.same k o hk (x.same k o hk ho hc) hc⟩
end Go.Proofs.YtgjlmjlfghodmaaGreatDoor
namespace Go.Proofs.YtgjlmjlfghodmaaGreatDoor
open Go.RowKit Go.Shelf
attribute [local go_sem] Oper.semAt_some
def KpS (S:Nat→Prop) (W W':World):Prop:=∀b,S b→∀o,W.heap[b]? = some o→o.isCells=true→W'.heap[b]? = some o
theorem KpS.refl (S:Nat→Prop) (W:World):KpS S W W:=fun _ _ _ h _=>h
theorem KpS.t {S:Nat→Prop}{X Y Z:World}(h:KpS S X Y) (k:KpS S Y Z):KpS S X Z:=fun b hb o ho hc=>k b hb o (h b hb o ho hc) hc
theorem KpS.b {S:Nat→Prop}(W:World) (l:Nat) (o o':Obj) (h:W.heap[l]? = some o) (h1:o.isCells=false):KpS S W (W.putObj l o'):=fun b _ o2 ho hc=>by
 have hne:b≠l:=by
  rintro rfl
  rw [h] at ho
  injection ho with ho
  subst ho
  rw [h1] at hc;cases hc
 exact ((grownBy_putObj' W l o').block b (gL ho).1 (fun e=>hne (by cases e;rfl))).trans ho
theorem KpS.boxed {S:Nat→Prop}{Bs:Nat}{W W':World}{t:TypeId}{v:Value}(h:KpS S W W') (hs:S Bs) (hb:Boxed W Bs t v):Boxed W' Bs t v:=h Bs hs _ hb rfl
def RdY (S:Nat→Prop) (w:World) (v:Value) (L:List Tr):Prop:=
 ∃A c,v = .slice A L.length c∧(0<L.length→∃b off cs t,A=some ⟨b,off,none⟩∧S b∧w.heap[b]? = some (Obj.cells cs t)∧∀i (h:i<L.length),w.cell? ⟨b,off+i*3,none⟩=some (.int .i64 L[i].1)∧w.cell? ⟨b,off+i*3+1,none⟩=some (.int .i64 L[i].2.1)∧w.cell? ⟨b,off+i*3+2,none⟩=some (slv L[i].2.2))
theorem RdY.blocks {S:Nat→Prop}{w w':World}{v:Value}{L:List Tr}(h:RdY S w v L) (hb:∀b cs t,S b→w.heap[b]? = some (Obj.cells cs t)→w'.heap[b]? = some (Obj.cells cs t)):RdY S w' v L:=by
 obtain ⟨A,c,hv,h⟩:=h
 refine ⟨A,c,hv,fun hn=>?_⟩
 obtain ⟨b,off,cs,t,hA,hs,hh,hc⟩:=h hn
 have h2:=hb b cs t hs hh
 have e:∀p,w'.cell? ⟨b,p,none⟩=w.cell? ⟨b,p,none⟩:=fun p=>World.cell?_of_block (a:=⟨b,p,none⟩) (h2.trans hh.symm)
 exact ⟨b,off,cs,t,hA,hs,h2,fun i hi=>⟨(e _).trans (hc i hi).1,(e _).trans (hc i hi).2.1,(e _).trans (hc i hi).2.2⟩⟩
theorem RdY.kept {S:Nat→Prop}{w w':World}{v:Value}{L:List Tr}(h:RdY S w v L) (hk:KpS S w w'):RdY S w' v L:=h.blocks fun b _ _ hs hh=>hk b hs _ hh rfl
theorem RdY.below {S:Nat→Prop}{w w':World}{v:Value}{L:List Tr}(h:RdY S w v L) (hk:Below w.heap.size w w'):RdY S w' v L:=h.blocks fun b _ _ _ hh=>(hk.block b (gL hh).1).trans hh
set_option maxRecDepth 100000 in
set_option maxHeartbeats 2000000 in
theorem back1S (n:Nat) (hn:1≤n) (l Bs:Nat) (S:Nat→Prop) (hSB:S Bs) (A:Option Addr) (c:Nat) (L:List Tr) (hL:L.length≤1000000) (J Jx:List (Int×Tr)→World→Prop)
  (hY:∀pre x W,J pre W→NextB L pre x→YieldAt Fence.wide (n-1) Tryz.prog l #[.int .i64 x.1,trV x.2] W fun e W'=>
   (e = .returned (.bool true)∧J (pre ++ [x]) W'∧KpS S W W')∨(e = .returned (.bool false)∧Jx (pre ++ [x]) W'))
  (W:World) (hBs:Boxed W Bs 26 (.slice A L.length c)) (hR:RdY S W (.slice A L.length c) L) (h0:J [] W):
  CallsIn Fence.wide n Tryz.prog 102 #[.func (.yield l) #[] #[],.pointer (some ⟨Bs,0,none⟩)] W fun e W'=>(∃v,e = .returned v)∧
   ((∃ys:List (Int×Tr),ys.map (·.2)=L.reverse∧J ys W')∨(∃pre,Jx pre W')):=by
 refine callsIn_of_wp Tryz.func102 rfl trivial ?_ rfl
 simp only [Tryz.ntmps102,List.size_toArray,List.length_cons,List.length_nil,Nat.reduceAdd,Nat.reduceSub,Array.replicate_succ,Array.replicate_zero,List.push_toArray,List.append_toArray,List.nil_append,List.cons_append]
 have e00:W.cell? ⟨Bs,0,none⟩=some (.slice A L.length c):=hBs.cell
 have HBS:=kI hBs
 clear hBs
 gi_wp2
 gi_loopw [3] (fun i wr=>∃(k:Nat) (z:Int) (pre:List (Int×Tr)),k≤L.length∧i = .int .i64 z∧z+1=k∧pre.map (·.2)=(L.drop k).reverse∧J pre wr∧KpS S W wr∧Boxed wr Bs 26 (.slice A L.length c))
  (fun i _=>(intOf i+1).toNat)
 case atStart=>exact ⟨L.length,_,[],Nat.le_refl _,rfl,by omega,by simp,h0,KpS.refl _ _,HBS.out⟩
 case round=>
  obtain ⟨k,z,pre,hk,rfl,hz,hpre,hJs,hnx,hbx⟩:=hrel
  have e0:wr.cell? ⟨Bs,0,none⟩=some (.slice A L.length c):=hbx.cell
  have HBX:=kI hbx
  clear hbx
  by_cases hk0:1≤k
  ·obtain ⟨A',c',hv,hf⟩:=hR.kept hnx
   injection hv with hv1 _ hv3
   subst hv1;subst hv3
   obtain ⟨b,off,_,_,rfl,_,_,hc⟩:=hf (by omega)
   obtain ⟨c0,c1,c2⟩:=hc (k-1) (by omega)
   have hdrop:L.drop (k-1)=L[k-1] :: L.drop k:=by
    have:=List.drop_eq_getElem_cons (l:=L) (i:=k-1) (by omega)
    rwa [show k-1+1=k by omega] at this
   have hpl:pre.length<L.length:=by
    have:(pre.map (·.2)).length=pre.length:=by simp
    rw [hpre] at this
    simp at this
    omega
   have hnb:NextB L pre (z,L[k-1]):=by
    have hpl2:pre.length=L.length-k:=by
     have:(pre.map (·.2)).length=pre.length:=by simp
     rw [hpre] at this
     simp at this
     omega
    refine ⟨hpl,?_⟩
    have e:L.length-1-pre.length=k-1:=by omega
    rw [Prod.mk.injEq]
    exact ⟨by omega,by simp only [e]⟩
   obtain ⟨x,hx⟩:∃x,L[k-1]=x:=⟨_,rfl⟩
   rw [hx] at c0 c1 c2 hdrop hnb
   obtain ⟨x1,x2,x3⟩:=x
   dsimp only [slv] at c2
   obtain ⟨fn,tmps,assign,body,hy,hR2⟩:=hY pre (z,x1,x2,x3) wr hJs hnb
   dsimp only [trV,slv] at hy
   have f1:(0:Int)≤z:=by omega
   have f2:z<(L.length:Int):=by omega
   have f3:z.toNat=k-1:=by omega
   have f4:decide ((0:Int)≤z)=true:=decide_eq_true f1
   have HZ:=kI hz
   have HP:=kI hpre
   have HD:=kI hdrop
   clear hz hpre hdrop hx hc hf hpl hnb
   gi_wp2
   refine hR2.mono ?_
   rintro e W3 (⟨rfl,hJ3,hk3⟩|⟨rfl,hJx3⟩)
   ·gi_wp2
    go_roundw
    case rel=>exact ⟨k-1,z-1,pre ++ [(z,x1,x2,x3)],by omega,by go_num,by have:=HZ.out;omega,by simp [HP.out,HD.out],hJ3,hnx.t hk3,hk3.boxed hSB HBX.out⟩
    case measure=>simp [intOf];omega
   ·gi_wp2
    refine bodyPost_ret (results_none rfl _ _ _) rfl ?_
    exact ⟨⟨_,rfl⟩,.inr ⟨_,hJx3⟩⟩
  ·obtain rfl:k=0:=by omega
   have f1:¬ (0:Int)≤z:=by omega
   have f4:decide ((0:Int)≤z)=false:=decide_eq_false f1
   have HP:=kI hpre
   clear hz hpre
   gi_wp2
   go_end0
   exact ⟨⟨_,rfl⟩,.inl ⟨pre,by simpa using HP.out,hJs⟩⟩
theorem back_seqS (n:Nat) (hn:1≤n) (Bs:Nat) (S:Nat→Prop) (hSB:S Bs) (t:TypeId) (A:Option Addr) (c:Nat) (L:List Tr) (hL:L.length≤1000000) (w:World) (hBs:Boxed w Bs 26 (.slice A L.length c)) (hR:RdY S w (.slice A L.length c) L):
  SeqG n Tryz.prog 102 #[.pointer (some ⟨Bs,0,none⟩)] t (fun x:Int×Tr=>#[Value.int .i64 x.1,trV x.2]) (KpS S) (fun ys=>ys.map (·.2)=L.reverse) (fun _=>True) (NextB L) w:=fun l J Jx W hW _ _ hY h0=>by
 have hbs:Boxed W Bs 26 (.slice A L.length c):=(hW.block Bs hBs.lt).trans hBs
 refine (back1S n hn l Bs S hSB A c L hL J Jx hY W hbs (hR.below hW) h0).mono ?_
 rintro e W' ⟨he,⟨ys,hy,hj⟩|⟨pre,hj⟩⟩
 ·exact ⟨he,.inl ⟨ys,hy,hj⟩⟩
 ·exact ⟨he,.inr ⟨pre,trivial,hj⟩⟩
end Go.Proofs.YtgjlmjlfghodmaaGreatDoor
namespace Go.Proofs.YtgjlmjlfghodmaaGreatDoor
open Go.RowKit Go.Shelf
def grO:Fo→List Tr
 | .nil=>[]
 | .cons k n u ps r=>grO r++(k,n,u) :: grO ps
theorem grO_app (f g:Fo):grO (f.app g)=grO g++grO f:=by
 induction f with
 | nil=>simp [Fo.app,grO]
 | cons k n u ps r _ ih=>simp [Fo.app,grO,ih]
theorem grO_size (f:Fo):(grO f).length=f.size:=by
 induction f with
 | nil=>rfl
 | cons k n u ps r i1 i2=>simp only [grO,List.length_append,List.length_cons,Fo.size];omega
theorem grO_pre (f:Fo):∀x∈grO f,x∈f.pre:=by
 induction f with
 | nil=>intro x hx;cases hx
 | cons k n u ps r i1 i2=>
  intro x hx
  simp only [grO,List.mem_append,List.mem_cons] at hx
  simp only [Fo.pre,List.mem_cons,List.mem_append]
  rcases hx with hx|rfl|hx
  ·exact .inr (.inr (i2 x hx))
  ·exact .inl rfl
  ·exact .inr (.inl (i1 x hx))
theorem trC_at (L:List Tr) (i:Nat) (hi:i<L.length):(L.flatMap trC)[i*3]? = some (.int .i64 L[i].1)∧(L.flatMap trC)[i*3+1]? = some (.int .i64 L[i].2.1)∧(L.flatMap trC)[i*3+2]? = some (slv L[i].2.2):=by
 induction L generalizing i with
 | nil=>simp at hi
 | cons x L ih=>
  cases i with
  | zero=>simp [trC]
  | succ i=>
   have:=ih i (by simpa using hi)
   have e:∀j,((x :: L).flatMap trC)[(i+1)*3+j]? = (L.flatMap trC)[i*3+j]?:=fun j=>by
    rw [List.flatMap_cons,List.getElem?_append_right (by simp [trC];omega)]
    congr 1
    simp [trC];omega
   have e0:=e 0
   simp only [Nat.add_zero] at e0
   rw [e0,e 1,e 2]
   simpa using this
theorem own_rdY {w:World}{base:Nat}{v:Value}{L:List Tr}(h:w.ownsRow base 28 3 v L.length (L.flatMap trC)) (S:Nat→Prop) (hS:∀g,v.ownBlock=some g→S g):RdY S w v L:=by
 have h0:=h
 rcases h.2 with ⟨rfl,hn⟩|⟨g,cap,cur,rfl,hb,hg,_⟩
 ·exact ⟨none,0,by rw [hn],fun hp=>by omega⟩
 ·refine ⟨_,cap,rfl,fun hp=>⟨g,0,cur,_,rfl,hS g rfl,hg,fun i hi=>?_⟩⟩
  obtain ⟨q0,q1,q2⟩:=trC_at L i hi
  simp only [Nat.zero_add]
  exact ⟨by rw [h0.cellAt _ (by omega)];exact q0,by rw [h0.cellAt _ (by omega)];exact q1,by rw [h0.cellAt _ (by omega)];exact q2⟩
theorem app_one (W:World) (base:Nat) (v:Value) (L:List Tr) (own:W.ownsRow base 28 3 v L.length (L.flatMap trC)) (vx:Value) (x:Tr) (rd:Rd W 3 vx 1 (trC x)) (hl:L.length≤10000000) (hbase:base≤W.heap.size):
  ∃(v':Value) (W':World),(app_ #[26,26] 26 #[v,vx]).run Tryz.prog W = .ok v' W'∧W'.ownsRow base 28 3 v' (L ++ [x]).length ((L ++ [x]).flatMap trC)∧Below base W W'∧W.grownBy W' v.ownBlock∧(v'.ownBlock=v.ownBlock∨v'.ownBlock=some W.heap.size):=by
 obtain ⟨i0,hi0,hz0,hz1,hz2⟩:=info_parts tyInfo
 have rd':Rd W 3 vx [x].length ([x].flatMap trC):=by simpa using rd
 obtain ⟨v1,w1,hrun,hown,hg,hat⟩:=run_append_rd (P:=Tryz.prog) W base 26 26 28 i0 _ 3 40 Tryz.underlying26 hi0 hz0 hz1 hz2 rfl (by omega) v _ _ own vx _ _ rd' (trC_one _) (by unfold maxLen;simp;omega) (by simp;omega) hbase
 refine ⟨v1,w1,hrun,?_,(Below.refl _ _).grown hg hbase (fun k e=>(own.lt k e).1),hg,hat⟩
 rw [List.length_append,List.flatMap_append]
 exact hown
end Go.Proofs.YtgjlmjlfghodmaaGreatDoor
namespace Go.Proofs.YtgjlmjlfghodmaaGreatDoor
open Go.RowKit Go.Shelf Go.Maps Go.WideShapes
abbrev Gn:=Int×Int×Nat×List Nat
def gvar:List Gn→Int→Option Nat
 | [],_=>none
 | x :: G,n=>if x.1=1∧x.2.1=n then some 0 else (gvar G n).map (· + 1)
theorem gvar_snoc (G:List Gn) (x:Gn) (n:Int):gvar (G ++ [x]) n=match gvar G n with
  | some i=>some i
  | none=>if x.1=1∧x.2.1=n then some G.length else none:=by
 induction G with
 | nil=>
  simp only [List.nil_append,gvar,Option.map_none,List.length_nil]
 | cons y G ih=>
  simp only [List.cons_append,gvar]
  split
  ·rfl
  ·rw [ih]
   cases gvar G n with
   | some i=>rfl
   | none=>
    simp only [Option.map_none,List.length_cons]
    split<;>rfl
theorem gvar_lt {G:List Gn}{n:Int}{i:Nat}(h:gvar G n=some i):i<G.length:=by
 induction G generalizing i with
 | nil=>cases h
 | cons x G ih=>
  simp only [gvar] at h
  split at h
  ·cases h;simp
  ·obtain ⟨j,hj,rfl⟩:=Option.map_eq_some_iff.1 h
   have:=ih hj
   simp;omega
def gvf (G:List Gn):Int→Option Value:=fun n=>(gvar G n).map fun i=>.int .i64 i
theorem gvf_snoc_var (G:List Gn) (n:Int) (s:Nat) (P:List Nat) (h:gvar G n=none):gvf (G ++ [(1,n,s,P)])=upd (gvf G) n (.int .i64 G.length):=by
 funext m
 simp only [gvf,upd,gvar_snoc]
 by_cases e:m=n
 ·subst e;rw [h];simp
 ·cases gvar G m with
  | some i=>simp [e]
  | none=>simp [Ne.symm e];intro h;exact absurd h e
theorem gvf_snoc_other (G:List Gn) (k n:Int) (s:Nat) (P:List Nat) (h:k≠1):gvf (G ++ [(k,n,s,P)])=gvf G:=by
 funext m
 simp only [gvf,gvar_snoc]
 cases gvar G m with
 | some i=>rfl
 | none=>simp [h]
def gsum (G:List Gn) (P:List Nat):Nat:=(P.map fun p=>(G[p]?.map (·.2.2.1)).getD 0).sum
def gnode (G:List Gn) (k n:Int) (P:List Nat):List Gn×Nat:=
 match (if k=1 then gvar G n else none) with
 | some i=>(G,i)
 | none=>(G ++ [(k,n,1+gsum G P,P)],G.length)
mutual
def gadd1 (G:List Gn) (k n:Int) (ps:Fo):List Gn×Nat:=let r:=gadd G ps;gnode r.1 k n r.2
def gadd (G:List Gn):Fo→List Gn×List Nat
 | .nil=>(G,[])
 | .cons k n _ ps r=>let x:=gadd1 G k n ps;let y:=gadd x.1 r;(y.1,x.2 :: y.2)
end
def gstep (s:List Gn×List Nat) (x:Tr):List Gn×List Nat:=
 let m:=s.2.length-x.2.2.2.1
 let r:=gnode s.1 x.1 x.2.1 (s.2.drop m)
 (r.1,s.2.take m ++ [r.2])
end Go.Proofs.YtgjlmjlfghodmaaGreatDoor
namespace Go.Proofs.YtgjlmjlfghodmaaGreatDoor
open Go.RowKit Go.Shelf Go.Maps Go.WideShapes
abbrev Nd:=Int×Int×Int×Sl
def ndC (x:Nd):List Value:=[.int .i64 x.1,.int .i64 x.2.1,.int .i64 x.2.2.1,slv x.2.2.2]
def toI (P:List Nat):List Int:=P.map fun p:Nat=>(p:Int)
theorem toI_len (P:List Nat):(toI P).length=P.length:=by simp [toI]
def nums (P:List Nat):List Value:=ints (toI P)
theorem nums_len (P:List Nat):(nums P).length=P.length:=by simp [nums,ints_len,toI_len]
def NdR (B:Nat) (w:World) (x:Nd) (y:Gn):Prop:=x.1=y.1∧x.2.1=y.2.1∧x.2.2.1=(y.2.2.1:Int)∧w.ownsRow B 3 1 (slv x.2.2.2) y.2.2.2.length (nums y.2.2.2)
def NdL (B:Nat) (w:World):List Nd→List Gn→Prop
 | [],[]=>True
 | x :: L,y :: G=>NdR B w x y∧NdL B w L G
 | _,_=>False
theorem NdL.len {B:Nat}{w:World}{L:List Nd}{G:List Gn}(h:NdL B w L G):L.length=G.length:=by
 induction L generalizing G with
 | nil=>cases G with
  | nil=>rfl
  | cons=>exact h.elim
 | cons x L ih=>cases G with
  | nil=>exact h.elim
  | cons y G=>simp [ih h.2]
theorem NdL.snoc {B:Nat}{w:World}{L:List Nd}{G:List Gn}{x:Nd}{y:Gn}(h:NdL B w L G) (hx:NdR B w x y):NdL B w (L ++ [x]) (G ++ [y]):=by
 induction L generalizing G with
 | nil=>cases G with
  | nil=>exact ⟨hx,trivial⟩
  | cons=>exact h.elim
 | cons z L ih=>cases G with
  | nil=>exact h.elim
  | cons y G=>exact ⟨h.1,ih h.2⟩
theorem NdL.at {B:Nat}{w:World}{L:List Nd}{G:List Gn}(h:NdL B w L G) (i:Nat) (hi:i<L.length) (hj:i<G.length):NdR B w L[i] G[i]:=by
 induction L generalizing G i with
 | nil=>simp at hi
 | cons z L ih=>cases G with
  | nil=>exact h.elim
  | cons y G=>
   cases i with
   | zero=>exact h.1
   | succ i=>exact ih h.2 i (by simpa using hi) (by simpa using hj)
theorem NdL.to {B:Nat}{w w':World}{L:List Nd}{G:List Gn}(h:NdL B w L G) (hk:∀(b:Nat) (cs:Array Value),B≤b→w.heap[b]? = some (Obj.cells cs 3)→w'.heap[b]? = some (Obj.cells cs 3)):NdL B w' L G:=by
 induction L generalizing G with
 | nil=>cases G with
  | nil=>trivial
  | cons=>exact h.elim
 | cons x L ih=>cases G with
  | nil=>exact h.elim
  | cons y G=>
   obtain ⟨⟨h1,h2,h3,h4⟩,h5⟩:=h
   refine ⟨⟨h1,h2,h3,h4.1,?_⟩,ih h5⟩
   rcases h4.2 with h|⟨g,cap,cur,hv,hb,hg,hr⟩
   ·exact .inl h
   ·exact .inr ⟨g,cap,cur,hv,hb,hk _ _ hb hg,hr⟩
structure GrM (B:Nat) (w:World) (g:Nat) (v:Value) (mb:Nat) (L:List Nd) (G:List Gn):Prop where
 cell:w.heap[g]? = some (Obj.cells #[v,.map (some mb)] 199)
 row:w.ownsRow B 212 4 v L.length (L.flatMap ndC)
 nodes:NdL B w L G
 vars:∃S,MapF (gvf G) S G.length mb w
 ge:B≤g∧B≤mb
theorem GrM.lt {B:Nat}{w:World}{g:Nat}{v:Value}{mb:Nat}{L:List Nd}{G:List Gn}(h:GrM B w g v mb L G):g<w.heap.size∧mb<w.heap.size:=
 ⟨(gL h.cell).1,by obtain ⟨_,hm⟩:=h.vars;exact hm.lt⟩
theorem GrM.to {B:Nat}{w w':World}{g:Nat}{v:Value}{mb:Nat}{L:List Nd}{G:List Gn}(h:GrM B w g v mb L G)
  (hg:w'.heap[g]? = w.heap[g]?) (hm:w'.heap[mb]? = w.heap[mb]?) (hr:∀b,v.ownBlock=some b→w'.heap[b]? = w.heap[b]?)
  (hk:∀(b:Nat) (cs:Array Value),B≤b→w.heap[b]? = some (Obj.cells cs 3)→w'.heap[b]? = some (Obj.cells cs 3)):GrM B w' g v mb L G:=by
 refine ⟨hg.trans h.cell,⟨h.row.1,?_⟩,h.nodes.to hk,?_,h.ge⟩
 ·rcases h.row.2 with h2|⟨b,cap,cur,hv,hb,hh,hr2⟩
  ·exact .inl h2
  ·exact .inr ⟨b,cap,cur,hv,hb,(hr b (by rw [hv];rfl)).trans hh,hr2⟩
 ·obtain ⟨S,hv⟩:=h.vars
  exact ⟨S,hv.block hm⟩
theorem GrM.below {B:Nat}{w w':World}{g:Nat}{v:Value}{mb:Nat}{L:List Nd}{G:List Gn}(h:GrM B w g v mb L G) (hb:Below w.heap.size w w'):GrM B w' g v mb L G:=
 h.to (hb.block _ h.lt.1) (hb.block _ h.lt.2) (fun b e=>hb.block _ (h.row.lt b e).2) fun b _ _ hc=>(hb.block b (gL hc).1).trans hc
set_option maxRecDepth 100000 in
set_option maxHeartbeats 1000000 in
theorem new_graph (w:World):Calls Tryz.prog 108 #[] w fun e w'=>∃g mb,e = .returned (.pointer (some ⟨g,0,none⟩))∧GrM w.heap.size w' g (.slice none 0 0) mb [] []∧Below w.heap.size w w':=by
 have hmm:=@run_makeMap Tryz.prog
 go_enter Tryz.func108,Tryz.ntmps108
 go_wp2_with fail
 refine bodyPost_ret (results_tmp rfl _ _ _) rfl ?_
 have hb1:Below w.heap.size w (w.alloc (Obj.map #[] 0)):=(Below.refl _ _).alloc (Nat.le_refl _) _
 refine ⟨_,_,rfl,⟨?_,World.ownsRow_nil _ _ _ _,trivial,⟨0,?_⟩,⟨by omega,Nat.le_refl _⟩⟩,hb1.alloc (by simp) _⟩
 ·have:=heap_alloc_new (w.alloc (Obj.map #[] 0)) (Obj.cells #[.slice none 0 0,.map (some w.heap.size)] 199)
  rwa [World.size_alloc] at this
 ·exact (MapF.made w).kept (World.grownBy_alloc _ _ none) (by simp)
end Go.Proofs.YtgjlmjlfghodmaaGreatDoor
namespace Go.Proofs.YtgjlmjlfghodmaaGreatDoor
open Go.RowKit Go.Shelf
attribute [local go_sem ↓] builtin_app
set_option maxRecDepth 100000 in
set_option maxHeartbeats 1000000 in
theorem clone_ints (w:World) (v:Value) (L:List Int) (hR:Rd w 1 v L.length (ints L)) (hl:L.length≤10000000):
  Calls Tryz.prog 150 #[v] w fun e w'=>∃v',e = .returned v'∧w'.ownsRow w.heap.size 3 1 v' L.length (ints L)∧Below w.heap.size w w':=by
 obtain ⟨A,c,rfl⟩:=hR.form
 have hnil:=fun (w:World) (a:Option Addr) (n c n' c':Nat)=>Lib.run_eql_slice_nil (P:=Tryz.prog) w 49 3 a n c n' c' Tryz.underlying49
 cases A with
 | none=>
  have h0:L.length=0:=by
   rcases hR.2 with ⟨h,_⟩|⟨_,_,_,h,_⟩
   ·exact h
   ·cases h
  have hL:L=[]:=List.eq_nil_of_length_eq_zero h0
  subst hL
  go_enter Tryz.func150,Tryz.ntmps150
  go_wp2_with fail
  exact bodyPost_ret (results_tmp rfl _ _ _) rfl ⟨_,rfl,World.ownsRow_nil _ _ _ _,Below.refl _ _⟩
 | some a=>
  obtain ⟨w1,hw1⟩:∃w1,w.alloc (.cells #[] 3)=w1:=⟨_,rfl⟩
  have hb1:Below w.heap.size w w1:=by rw [←hw1];exact (Below.refl _ _).alloc (Nat.le_refl _) _
  have hs1:w1.heap.size=w.heap.size+1:=by rw [←hw1];simp
  have h1:w1.heap[w.heap.size]? = some (.cells #[] 3):=by rw [←hw1];exact heap_alloc_new _ _
  have own0:w1.ownsRow w.heap.size 3 1 (.slice (some ⟨w.heap.size,0,none⟩) 0 0) ([]:List Int).length (ints []):=⟨rfl,.inr ⟨w.heap.size,0,_,rfl,Nat.le_refl _,h1,Nat.le_refl _,by unfold maxLen;omega,by simp,by simp [ints]⟩⟩
  obtain ⟨v2,w2,run2,own2,b2,_,_,_⟩:=app_int w1 w.heap.size _ [] own0 _ L (hR.below hb1) (by simp;omega) (by omega)
  rw [List.nil_append] at own2
  have H2:=kI (aI own2 (hb1.trans b2))
  clear hR hb1 hs1 h1 own0 own2 b2
  go_enter Tryz.func150,Tryz.ntmps150
  go_wp2_with fail
  exact bodyPost_ret (results_tmp rfl _ _ _) rfl ⟨v2,rfl,H2.out⟩
end Go.Proofs.YtgjlmjlfghodmaaGreatDoor
namespace Go.Proofs.YtgjlmjlfghodmaaGreatDoor
open Go.RowKit Go.Shelf
set_option maxRecDepth 100000
theorem results_tmp2 {fn:Func}{p q:Tmp}(h:fn.results=#[.tmp p,.tmp q]) (tmps:Array Value) (P:Program) (w:World):(results fn tmps).run P w = .ok (.tuple #[tmps.getD p undef,tmps.getD q undef]) w:=by
 simp [results,h]
theorem results_cell_tmp {P:Program}{fn:Func}{p q:Tmp}{ty:TypeId}(h:fn.results=#[.cell p ty,.tmp q]) (tmps:Array Value) (w:World) (g:Nat) (v:Value)
  (hp:tmps.getD p undef = .pointer (some ⟨g,0,none⟩)) (hl:(loadVar ty ⟨g,0,none⟩).run P w = .ok v w):(results fn tmps).run P w = .ok (.tuple #[v,tmps.getD q undef]) w:=by
 have hp':tmps[p]?.getD undef = .pointer (some ⟨g,0,none⟩):=by simpa using hp
 simp [results,h,hp',asAddr,hl]
theorem len_graph (w:World) (B g mb:Nat) (v:Value) (L:List Nd) (G:List Gn) (hG:GrM B w g v mb L G):Calls Tryz.prog 136 #[.pointer (some ⟨g,0,none⟩)] w fun e w'=>e = .returned (.int .i64 (G.length:Nat))∧w'=w:=by
 obtain ⟨A,c,rfl,_,_⟩:=own_form hG.row
 have g0:w.cell? ⟨g,0,none⟩=some (.slice A L.length c):=cell_of_row w _ 0 _ _ (0,0) hG.cell
 have hl:=hG.nodes.len
 have HL:=kI hl
 clear hl hG
 go_enter Tryz.func136,Tryz.ntmps136
 go_wp2_with fail
 exact bodyPost_ret (results_tmp rfl _ _ _) rfl ⟨by rw [←HL.out];rfl,rfl⟩
end Go.Proofs.YtgjlmjlfghodmaaGreatDoor
