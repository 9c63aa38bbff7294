/- Texts of one proof, one behind the other. -/
import Derived.OrdersHeld
import Derived.Deep.RegionHeld3
import Derived.Below
import Derived.WalkKit
import Derived.Lib.Hide
import Derived.Maps.AppendAt
import Derived.Deep.AppendLies
import Derived.RegionTactic
import Derived.OwnWalk
import Derived.WalkSpells
import Derived.WalkLawsBesides
import Derived.Test.YtmamdiggjghjkaaGreatDoorRows
import Derived.Deep.QuietTactic
import Derived.BigQuiet
import Derived.RangeFuncNested
import Derived.RangeFuncBound
import Derived.RangeFuncCalls
import Derived.RangeFuncLeaves
import Derived.RangeFuncBox
import Derived.Shelf.Abstract
import Derived.Shelf.RegionOpen
import Derived.OwnWalkIn
import Derived.TacticsInMore
import Derived.LoopNIn
import Derived.LoopIn
import Derived.Outline
import Derived.Deep.RegionLaw
set_option linter.unusedVariables false
namespace Go.Proofs.YtmamdiggjghjkaaGreatDoor
section
open Go.RowKit
variable {P:Program}{ops:Array Oper}{Q:Exit→Act→World→Prop}{md:Region.Mode}
def LS (W0:World) (w:World):Prop:=Below W0.heap.size W0 w
theorem any_take {S:World→Prop}{i:Nat}{oi:Oper}(d:Option Tmp) (v:Value) {fuel:Nat}{listed:Array Bool}{a:Act}{w:World}(hi:ops[i]? = some oi) (hd:oi.dst=d)
  (hs:Region.noSelect ops=true) (hf:Region.free md ops listed i=true) (hr:(Region.ready md ops listed).contains i=true)
  (hQ:∀c a w,Q (.panic c) (a.put d v) w→Q (.panic c) a w) (hy:YieldsIf P ops S oi v a) (hS:S w)
  (h:wpAnyH P md ops Q S fuel (listed.setIfInBounds i true) (a.put d v) w):wpAnyH P md ops Q S (fuel+1) listed a w:=by
 subst hd;exact wpAnyH_take hi hs hf hr hQ hy hS h
end
section
open Go.RowKit
theorem aI {a b:Prop}(h:a) (k:b):a∧b:=⟨h,k⟩
theorem kI {p:Prop}(h:p):Hid p:=Lib.hid h
theorem gL {α:Type}{xs:Array α}{i:Nat}{a:α}(h:xs[i]? = some a):∃h:i<xs.size,xs[i]=a:=Array.getElem?_eq_some_iff.1 h
theorem zA {α:Type}(l:List α) (i:Nat) (a:α):l.toArray.setIfInBounds i a=(l.set i a).toArray:=List.setIfInBounds_toArray l i a
theorem zB {α:Type}{a b:α}{l:List α}:(a :: l).set 0 b=b :: l:=rfl
theorem zC {α:Type}{a b:α}{l:List α}{n:Nat}:(a :: l).set (n+1) b=a :: l.set n b:=rfl
section
variable {P:Program}{ops:Array Oper}{Q:Exit→Act→World→Prop}{md:Region.Mode}
theorem tk {S:World→Prop}{i:Nat}{oi:Oper}(d:Option Tmp) (v:Value) {fuel:Nat}{listed:Array Bool}{a:Act}{w:World}(hi:ops[i]? = some oi)
  (hg:∀w,S w→(execOp a.eval oi).run P w = .ok (.value v) w) (hS:S w)
  (h:wpAnyH P md ops Q S fuel (listed.setIfInBounds i true) (a.put d v) w) (hd:oi.dst=d:=by rfl)
  (hs:Region.noSelect ops=true:=by kernel_rfl) (hf:Region.free md ops listed i=true:=by kernel_rfl) (hr:(Region.ready md ops listed).contains i=true:=by kernel_rfl)
  (hQ:∀c a w,Q (.panic c) (a.put d v) w→Q (.panic c) a w:=by exact fun _ _ _ h=>h) (hw:Region.wanted oi (yielded ops a.tmps)=true:=by kernel_rfl):wpAnyH P md ops Q S (fuel+1) listed a w:=
 any_take d v hi hd hs hf hr hQ (Or.inl ⟨hw,hg⟩) hS h
theorem tj {S:World→Prop}{i:Nat}{oi:Oper}(d:Option Tmp) (v:Value) {fuel:Nat}{listed:Array Bool}{a:Act}{w:World}(hi:ops[i]? = some oi) (hS:S w)
  (h:wpAnyH P md ops Q S fuel (listed.setIfInBounds i true) (a.put d v) w) (hg:∀w,S w→(execOp a.eval oi).run P w = .ok (.value v) w:=by exact fun w hw=>by clear hw;go_simp) (hd:oi.dst=d:=by rfl)
  (hs:Region.noSelect ops=true:=by kernel_rfl) (hf:Region.free md ops listed i=true:=by kernel_rfl) (hr:(Region.ready md ops listed).contains i=true:=by kernel_rfl)
  (hQ:∀c a w,Q (.panic c) (a.put d v) w→Q (.panic c) a w:=by exact fun _ _ _ h=>h) (hw:Region.wanted oi (yielded ops a.tmps)=true:=by kernel_rfl):wpAnyH P md ops Q S (fuel+1) listed a w:=
 any_take d v hi hd hs hf hr hQ (Or.inl ⟨hw,hg⟩) hS h
theorem aK {S:World→Prop}(i:Nat) {fuel:Nat}{listed:Array Bool}{a:Act}{w:World}(h:wpOp P ops Q i (fun a' w'=>S w'∧wpAnyH P md ops Q S fuel (listed.setIfInBounds i true) a' w') a w) (hr:Region.ready md ops listed=[i]:=by kernel_rfl):wpAnyH P md ops Q S (fuel+1) listed a w:=
 wpAnyH_all (rs:=[i]) hr (by simp) fun q hq=>by
  obtain rfl:q=i:=by simpa using hq
  exact h
end
end
section
open Go.RowKit
theorem cells_new (w:World) (L:List Value) (t:TypeId):∀(j:Nat) (u:Value),L[j]? = some u→(w.alloc (.cells L.toArray t)).cell? ((⟨w.heap.size,0,none⟩:Addr).add j)=some u:=by
 intro j u hu
 have h:=cell_of_row (w.alloc (.cells L.toArray t)) w.heap.size j L.toArray t (0,0) (heap_alloc_new w _)
 rw [Addr.add_lit,Nat.zero_add,h]
 simpa using hu
theorem add_lit0 (g i:Nat):(⟨g,0,none⟩:Addr).add i=⟨g,i,none⟩:=by rw [Addr.add_lit,Nat.zero_add]
def Rd (w:World) (size:Nat) (v:Value) (n:Nat) (xs:List Value):Prop:=
 xs.length=n*size∧((n=0∧∃A c,v = .slice A 0 c)∨
  ∃b off cap,v = .slice (some ⟨b,off,none⟩) n cap∧n≤cap∧cap≤maxLen∧b<w.heap.size∧∀j u,xs[j]? = some u→w.cell? ⟨b,off+j,none⟩=some u)
theorem Rd.of_own {w:World}{base:Nat}{e:TypeId}{size:Nat}{v:Value}{n:Nat}{xs:List Value}(h:w.ownsRow base e size v n xs):Rd w size v n xs:=by
 refine ⟨h.1,?_⟩
 rcases h.2 with ⟨rfl,rfl⟩|⟨g,cap,cur,rfl,hb,hg,hnc,hcm,hcs,htake⟩
 ·exact .inl ⟨rfl,_,_,rfl⟩
 ·refine .inr ⟨g,0,cap,rfl,hnc,hcm,(gL hg).1,fun j u hu=>?_⟩
  have:=h.cells (g:=g) rfl j u hu
  rw [Addr.add_lit] at this
  exact this
theorem Rd.keep {w w':World}{size:Nat}{v:Value}{n:Nat}{xs:List Value}(h:Rd w size v n xs) (hs:w.heap.size≤w'.heap.size) (hk:∀b off,b<w.heap.size→w'.cell? ⟨b,off,none⟩=w.cell? ⟨b,off,none⟩):Rd w' size v n xs:=by
 refine ⟨h.1,?_⟩
 rcases h.2 with h2|⟨b,off,cap,hv,hnc,hcm,hb,hc⟩
 ·exact .inl h2
 ·exact .inr ⟨b,off,cap,hv,hnc,hcm,by omega,fun j u hu=>(hk _ _ hb).trans (hc j u hu)⟩
theorem Rd.below {w w':World}{size:Nat}{v:Value}{n:Nat}{xs:List Value}(h:Rd w size v n xs) (hb:Below w.heap.size w w'):Rd w' size v n xs:=
 h.keep hb.size fun _ _ hlt=>hb.cell (p:=⟨_,_,none⟩) hlt
theorem Rd.alloc {w:World}{size:Nat}{v:Value}{n:Nat}{xs:List Value}(h:Rd w size v n xs) (o:Obj):Rd (w.alloc o) size v n xs:=
 h.below ((Below.refl _ _).alloc (Nat.le_refl _) o)
theorem Rd.drew {w:World}{size:Nat}{v:Value}{n:Nat}{xs:List Value}(h:Rd w size v n xs):Rd w.drew size v n xs:=h
end
section
open Go.RowKit
theorem run_append_none {P:Program}(w:World) (base:Nat) (t ty e:TypeId) (i:TypeInfo) (size:Nat) (ht:P.underlying t=some (.slice e)) (hi:P.info? e=some i)
  (v:Value) (n:Nat) (xs:List Value) (hown:w.ownsRow base e size v n xs) (c:Nat):(Builtin.append_ #[t,t] ty #[v,.slice none 0 c]).run P w = .ok v w:=by
 rcases hown.2 with ⟨rfl,rfl⟩|⟨g,cap,cur,rfl,_,_,hnc,_⟩
 ·simp [Builtin.append_,run_underlying ht,sizeOf,typeInfo,hi,Builtin.lenOf,Builtin.firstCells]
 ·simp [Builtin.append_,run_underlying ht,sizeOf,typeInfo,hi,Builtin.lenOf,Builtin.firstCells,hnc,storeCells]
theorem run_append_rd {P:Program}(w:World) (base:Nat) (t ty e:TypeId) (i:TypeInfo) (z:Value) (size bytes:Nat) (ht:P.underlying t=some (.slice e)) (hi:P.info? e=some i) (hz:i.zero=some z)
  (hsize:i.size=size) (hby:i.bytes=bytes) (hzs:z.cells.size=size) (hsz:0<size)
  (v:Value) (n:Nat) (xs:List Value) (hown:w.ownsRow base e size v n xs)
  (vx:Value) (m:Nat) (news:List Value) (hr:Rd w size vx m news) (h1:∀u∈news,u.oneCell'=true)
  (h63:n+m≤maxLen) (hbytes:(n+m)*bytes≤140737488355328) (hbase:base≤w.heap.size):
  ∃v' w',(Builtin.append_ #[t,t] ty #[v,vx]).run P w = .ok v' w'∧w'.ownsRow base e size v' (n+m) (xs++news)∧w.grownBy w' v.ownBlock∧
   (v'.ownBlock=v.ownBlock∨v'.ownBlock=some w.heap.size):=by
 have nilCase:∀c,m=0→vx = .slice none 0 c→∃v' w',(Builtin.append_ #[t,t] ty #[v,vx]).run P w = .ok v' w'∧w'.ownsRow base e size v' (n+m) (xs++news)∧w.grownBy w' v.ownBlock∧
   (v'.ownBlock=v.ownBlock∨v'.ownBlock=some w.heap.size):=by
  rintro c rfl rfl
  have hn:news=[]:=List.eq_nil_of_length_eq_zero (by simpa using hr.1)
  subst hn
  exact ⟨v,w,run_append_none w base t ty e i size ht hi v n xs hown c,by simpa using hown,World.grownBy.refl w _,.inl rfl⟩
 rcases hr.2 with ⟨h0,A,c,rfl⟩|⟨b,off,cap,rfl,_,_,_,hc⟩
 ·rcases A with _|ad
  ·exact nilCase c h0 rfl
  ·subst h0
   have hn:news=[]:=List.eq_nil_of_length_eq_zero (by simpa using hr.1)
   subst hn
   obtain ⟨v',w',hrun,h2,h3,_,h5⟩:=run_append_own_at (P:=P) w base t ty e i z size bytes ht hi hz hsize hby hzs hsz v n xs hown ad 0 c [] hr.1 (by simp) h1 h63 hbytes hbase
   exact ⟨v',w',hrun,h2,h3,h5⟩
 ·obtain ⟨v',w',hrun,h2,h3,_,h5⟩:=run_append_own_at (P:=P) w base t ty e i z size bytes ht hi hz hsize hby hzs hsz v n xs hown ⟨b,off,none⟩ m cap news hr.1 (fun j u hu=>by rw [Addr.add_lit];exact hc j u hu) h1 h63 hbytes hbase
  exact ⟨v',w',hrun,h2,h3,h5⟩
theorem Rd.far {w w':World}{size:Nat}{b off n cap:Nat}{xs:List Value}{row:Option Nat}(h:Rd w size (.slice (some ⟨b,off,none⟩) n cap) n xs) (hb:b<w.heap.size) (hg:w.grownBy w' row) (hne:some b≠row):Rd w' size (.slice (some ⟨b,off,none⟩) n cap) n xs:=by
 refine ⟨h.1,?_⟩
 rcases h.2 with h2|⟨b',off',cap',hv,hnc,hcm,hb',hc⟩
 ·exact .inl h2
 ·injection hv with h1 h2 h3
  injection h1 with h1
  injection h1 with h1 h4
  subst h1;subst h4;subst h3
  exact .inr ⟨b,off,cap,rfl,hnc,hcm,by have:=hg.size;omega,fun j u hu=>(World.cell?_of_block (hg.block b hb hne)).trans (hc j u hu)⟩
theorem rd_new (w:World) (L:List Value) (t:TypeId) (size n:Nat) (hL:L.length=n*size) (hn:n≤maxLen):Rd (w.alloc (.cells L.toArray t)) size (.slice (some ⟨w.heap.size,0,none⟩) n n) n L:=
 ⟨hL,.inr ⟨w.heap.size,0,n,rfl,Nat.le_refl _,hn,by simp,fun j u hu=>by have:=cells_new w L t j u hu;rwa [Addr.add_lit] at this⟩⟩
theorem own_none_yet (w:World) (H:Nat) (hH:H≤w.heap.size) (e:TypeId) (size:Nat):(w.alloc (.cells #[] e)).ownsRow H e size (.slice (some ⟨w.heap.size,0,none⟩) 0 0) 0 []:=
 ⟨by simp,.inr ⟨w.heap.size,0,#[],rfl,hH,heap_alloc_new w _,Nat.le_refl _,Nat.zero_le _,by simp,by simp⟩⟩
end
section
abbrev Sl:=Option Addr×Nat×Nat
def slv (s:Sl):Value:=.slice s.1 s.2.1 s.2.2
inductive Fo where
 | nil:Fo
 | cons (k n:Int) (v:Sl) (ps rest:Fo):Fo
namespace Fo
def len:Fo→Nat
 | nil=>0
 | cons _ _ _ _ r=>r.len+1
def size:Fo→Nat
 | nil=>0
 | cons _ _ _ ps r=>1+ps.size+r.size
def depth:Fo→Nat
 | nil=>0
 | cons _ _ _ ps r=>max (1+ps.depth) r.depth
def app:Fo→Fo→Fo
 | nil,g=>g
 | cons k n v ps r,g=>cons k n v ps (r.app g)
def drop:Nat→Fo→Fo
 | 0,f=>f
 | _+1,nil=>nil
 | j+1,cons _ _ _ _ r=>r.drop j
def take:Nat→Fo→Fo
 | 0,_=>nil
 | _+1,nil=>nil
 | j+1,cons k n v ps r=>cons k n v ps (r.take j)
def at_:Nat→Fo→Int×Int×Sl×Fo
 | _,nil=>(0,0,(none,0,0),nil)
 | 0,cons k n v ps _=>(k,n,v,ps)
 | j+1,cons _ _ _ _ r=>r.at_ j
theorem size_app (f g:Fo):(f.app g).size=f.size+g.size:=by
 induction f with
 | nil=>simp [app,size]
 | cons k n v ps r _ ih=>simp [app,size,ih];omega
theorem len_app (f g:Fo):(f.app g).len=f.len+g.len:=by
 induction f with
 | nil=>simp [app,len]
 | cons k n v ps r _ ih=>simp [app,len,ih];omega
theorem len_le_size (f:Fo):f.len≤f.size:=by
 induction f with
 | nil=>simp [len]
 | cons k n v ps r _ ih=>simp [len,size];omega
theorem drop_step (f:Fo) (j:Nat) (hj:j<f.len):f.drop j=cons (f.at_ j).1 (f.at_ j).2.1 (f.at_ j).2.2.1 (f.at_ j).2.2.2 (f.drop (j+1)):=by
 induction f generalizing j with
 | nil=>simp [len] at hj
 | cons k n v ps r _ ih=>
  cases j with
  | zero=>simp [drop,at_]
  | succ j=>simp only [drop,at_];exact ih j (by simp [len] at hj;omega)
theorem drop_len (f:Fo):f.drop f.len=nil:=by
 induction f with
 | nil=>rfl
 | cons k n v ps r _ ih=>simpa [len,drop] using ih
theorem drop_zero (f:Fo):f.drop 0=f:=by cases f<;>rfl
theorem take_zero (f:Fo):f.take 0=nil:=by cases f<;>rfl
theorem take_len (f:Fo):f.take f.len=f:=by
 induction f with
 | nil=>rfl
 | cons k n v ps r _ ih=>simp [len,take,ih]
theorem take_step (f:Fo) (j:Nat) (hj:j<f.len):f.take (j+1)=(f.take j).app (cons (f.at_ j).1 (f.at_ j).2.1 (f.at_ j).2.2.1 (f.at_ j).2.2.2 nil):=by
 induction f generalizing j with
 | nil=>simp [len] at hj
 | cons k n v ps r _ ih=>
  cases j with
  | zero=>simp [take,at_,app]
  | succ j=>simp only [take,at_,app];rw [ih j (by simp [len] at hj;omega)]
theorem at_size (f:Fo) (j:Nat) (hj:j<f.len):(f.at_ j).2.2.2.size<f.size:=by
 induction f generalizing j with
 | nil=>simp [len] at hj
 | cons k n v ps r _ ih=>
  cases j with
  | zero=>simp [at_,size];omega
  | succ j=>have:=ih j (by simp [len] at hj;omega);simp [at_,size];omega
theorem size_take_step (f:Fo) (j:Nat) (hj:j<f.len):(f.take (j+1)).size=(f.take j).size+(1+(f.at_ j).2.2.2.size):=by
 rw [take_step f j hj,size_app]
 simp [size]
theorem size_take_le (f:Fo) (j:Nat):(f.take j).size≤f.size:=by
 induction f generalizing j with
 | nil=>cases j<;>simp [take]
 | cons k n v ps r _ ih=>
  cases j with
  | zero=>simp [take,size]
  | succ j=>have:=ih j;simp [take,size];omega
end Fo
end
section
open Go.RowKit
def TyV (B:Nat) (w:World):Fo→Value→Prop
 | .nil,v=>∃A c,v = .slice A 0 c
 | .cons k n u ps r,v=>∃b off cap,v = .slice (some ⟨b,off,none⟩) (r.len+1) cap∧r.len+1≤cap∧cap≤maxLen∧b<B∧
   TyC B w (.cons k n u ps r) b off
where
 TyC (B:Nat) (w:World):Fo→Nat→Nat→Prop
 | .nil,_,_=>True
 | .cons k n u ps r,b,off=>w.cell? ⟨b,off,none⟩=some (.int .i64 k)∧w.cell? ⟨b,off+1,none⟩=some (.int .i64 n)∧
   w.cell? ⟨b,off+2,none⟩=some (slv u)∧TyV B w ps (slv u)∧TyC B w r b (off+3)
abbrev TyC:=@TyV.TyC
theorem tyV_nil {B:Nat}{w:World}{v:Value}:TyV B w .nil v↔∃A c,v = .slice A 0 c:=by rw [TyV]
theorem tyV_cons {B:Nat}{w:World}{k n:Int}{u:Sl}{ps r:Fo}{v:Value}:TyV B w (.cons k n u ps r) v↔∃b off cap,v = .slice (some ⟨b,off,none⟩) (r.len+1) cap∧r.len+1≤cap∧cap≤maxLen∧b<B∧
   TyC B w (.cons k n u ps r) b off:=by rw [TyV]
theorem tyC_cons {B:Nat}{w:World}{k n:Int}{u:Sl}{ps r:Fo}{b off:Nat}:TyC B w (.cons k n u ps r) b off↔w.cell? ⟨b,off,none⟩=some (.int .i64 k)∧w.cell? ⟨b,off+1,none⟩=some (.int .i64 n)∧
   w.cell? ⟨b,off+2,none⟩=some (slv u)∧TyV B w ps (slv u)∧TyC B w r b (off+3):=by unfold TyC;rw [TyV.TyC]
theorem tyC_nil {B:Nat}{w:World}{b off:Nat}:TyC B w .nil b off:=by unfold TyC;rw [TyV.TyC];trivial
theorem TyV.slice {B:Nat}{w:World}{f:Fo}{v:Value}(h:TyV B w f v):∃A c,v = .slice A f.len c:=by
 cases f with
 | nil=>exact tyV_nil.1 h
 | cons k n u ps r=>
  obtain ⟨b,off,cap,rfl,_⟩:=tyV_cons.1 h
  exact ⟨_,_,rfl⟩
theorem TyV.form {B:Nat}{w:World}{f:Fo}{v:Value}(h:TyV B w f v) (hn:0<f.len):∃b off cap,v = .slice (some ⟨b,off,none⟩) f.len cap∧f.len≤cap∧cap≤maxLen∧b<B∧TyC B w f b off:=by
 cases f with
 | nil=>simp [Fo.len] at hn
 | cons k n u ps r=>exact tyV_cons.1 h
theorem tyC_at {B:Nat}{w:World}{f:Fo}{b off:Nat}(h:TyC B w f b off) (j:Nat) (hj:j<f.len):
  w.cell? ⟨b,off+j*3,none⟩=some (.int .i64 (f.at_ j).1)∧w.cell? ⟨b,off+j*3+1,none⟩=some (.int .i64 (f.at_ j).2.1)∧
   w.cell? ⟨b,off+j*3+2,none⟩=some (slv (f.at_ j).2.2.1)∧TyV B w (f.at_ j).2.2.2 (slv (f.at_ j).2.2.1):=by
 induction f generalizing off j with
 | nil=>simp [Fo.len] at hj
 | cons k n u ps r _ ih=>
  obtain ⟨h1,h2,h3,h3',h4⟩:=tyC_cons.1 h
  cases j with
  | zero=>simpa [Fo.at_] using ⟨h1,h2,h3,h3'⟩
  | succ j=>
   have:=ih h4 j (by simp [Fo.len] at hj;omega)
   rw [show off+(j+1)*3=off+3+j*3 by omega]
   exact this
theorem ty_keep {B B':Nat}{w w':World}(hB:B≤B') (hk:∀b off,b<B→w'.cell? ⟨b,off,none⟩=w.cell? ⟨b,off,none⟩) (f:Fo):
  (∀v,TyV B w f v→TyV B' w' f v)∧(∀b off,b<B→TyC B w f b off→TyC B' w' f b off):=by
 induction f with
 | nil=>exact ⟨fun v h=>tyV_nil.2 (tyV_nil.1 h),fun _ _ _ _=>tyC_nil⟩
 | cons k n u ps r ih1 ih2=>
  have hc:∀b off,b<B→TyC B w (.cons k n u ps r) b off→TyC B' w' (.cons k n u ps r) b off:=by
   intro b off hb h
   obtain ⟨h1,h2,h3,h4,h5⟩:=tyC_cons.1 h
   exact tyC_cons.2 ⟨(hk _ _ hb).trans h1,(hk _ _ hb).trans h2,(hk _ _ hb).trans h3,ih1.1 (slv u) h4,ih2.2 _ _ hb h5⟩
  refine ⟨fun v h=>?_,hc⟩
  obtain ⟨b,off,cap,hv,h1,h2,h3,h4⟩:=tyV_cons.1 h
  exact tyV_cons.2 ⟨b,off,cap,hv,h1,h2,by omega,hc b off h3 h4⟩
theorem TyV.keep {B B':Nat}{w w':World}{f:Fo}{v:Value}(h:TyV B w f v) (hB:B≤B') (hk:∀b off,b<B→w'.cell? ⟨b,off,none⟩=w.cell? ⟨b,off,none⟩):TyV B' w' f v:=(ty_keep hB hk f).1 v h
theorem TyV.below {B:Nat}{w w':World}{f:Fo}{v:Value}(h:TyV B w f v) (hb:Below B w w'):TyV B w' f v:=h.keep (Nat.le_refl _) fun b off hlt=>hb.cell (p:=⟨b,off,none⟩) hlt
def tyVal (k n:Int) (v:Value):Value:=.agg #[.int .i64 k,.int .i64 n,v]
end
section
open Go.RowKit
theorem ret_int {k:IntKind}{a b:Int}(h:a=b):Ending.returned (.int k a) = .returned (.int k b):=by rw [h]
theorem ret_bool {a b:Bool}(h:a=b):Ending.returned (.bool a) = .returned (.bool b):=by rw [h]
set_option maxHeartbeats 1000000 in
set_option maxRecDepth 100000 in
theorem rsize_any (m:Nat):∀(f:Fo) (k n:Int) (v:Value) (w:World),f.size<m→f.size≤1000000→TyV w.heap.size w f v→
  Calls Tryz.prog 10 #[tyVal k n v] w fun e w'=>e = .returned (.int .i64 (1+f.size))∧Below w.heap.size w w':=by
 induction m with
 | zero=>intro f k n v w h;omega
 | succ m ih=>
  intro f k n v w hm hs h
  obtain ⟨A,c,rfl⟩:=h.slice
  have H:=kI h
  have IH:=kI ih
  have hll:=f.len_le_size
  clear h ih
  unfold tyVal
  go_enter Tryz.func10,Tryz.ntmps10
  go_wp2_with fail
  go_loopw [3,4] (fun t3 t4 wr=>∃j:Nat,j≤f.len∧t4 = .int .i64 j∧t3 = .int .i64 (1+(f.take j).size)∧Below (w.heap.size+1) (w.alloc (.cells #[.int .i64 k,.int .i64 n,.slice A f.len c] 25)) wr) (fun _ t _=>f.len-(intOf t).toNat)
  case atStart=>exact ⟨0,Nat.zero_le _,rfl,by simp [Fo.take_zero,Fo.size],Below.refl _ _⟩
  case round=>
   obtain ⟨j,hj,rfl,rfl,hb⟩:=hrel
   have e2:wr.cell? ⟨w.heap.size,2,none⟩=some (.slice A f.len c):=(hb.cell (p:=⟨w.heap.size,2,none⟩) (by simp)).trans (by go_simp)
   have HB:Hid (Below w.heap.size w wr):=kI (((Below.refl _ _).alloc (Nat.le_refl _) _).trans (hb.mono (by omega)))
   have hz:=hb.size
   simp only [World.size_alloc] at hz
   have hts:=f.size_take_le j
   by_cases hjl:j<f.len
   ·obtain ⟨b,off,cap,hv,_,_,hlt,hC⟩:=H.out.form (by omega)
    injection hv with hA _ hcc
    subst hA;subst hcc
    obtain ⟨d0,d1,d2,hch⟩:=tyC_at hC j hjl
    have c0:=(HB.out.cell (p:=⟨b,off+j*3,none⟩) hlt).trans d0
    have c1:=(HB.out.cell (p:=⟨b,off+j*3+1,none⟩) hlt).trans d1
    have c2:=(HB.out.cell (p:=⟨b,off+j*3+2,none⟩) hlt).trans d2
    have hch':TyV wr.heap.size wr (f.at_ j).2.2.2 (slv (f.at_ j).2.2.1):=(hch.keep HB.out.size fun b off hb'=>HB.out.cell (p:=⟨b,off,none⟩) hb')
    have hsz:=f.at_size j hjl
    have hst:=f.size_take_step j hjl
    have hle:=f.size_take_le (j+1)
    clear d0 d1 d2 hC hch
    have hrec:=IH.out (f.at_ j).2.2.2 (f.at_ j).1 (f.at_ j).2.1 (slv (f.at_ j).2.2.1) wr (by omega) (by omega) hch'
    unfold tyVal at hrec
    generalize f.at_ j=p at *
    obtain ⟨pk,pn,pv,pf⟩:=p
    have HREC:=kI hrec
    have HST:=kI hst
    have hb1:0≤(pf.size:Int)∧(pf.size:Int)≤1000000:=by simp only at hsz;omega
    have hb2:((f.take j).size:Int)≤1000000:=by omega
    clear hrec hst hch'
    go_wp2_with fail
    refine HREC.out.mono ?_
    rintro e w2 ⟨rfl,hb3⟩
    go_wp2_with fail
    go_roundw
    case rel=>exact ⟨j+1,by omega,by go_num,by rw [HST.out];congr 1;omega,hb.trans (hb3.mono hz)⟩
    case measure=>simp [intOf];omega
   ·obtain rfl:j=f.len:=by omega
    have HT:Hid (f.take f.len=f):=kI f.take_len
    go_wp2_with fail
    go_ret
    exact ⟨ret_int (by rw [HT.out]),HB.out⟩
end
section
open Go.RowKit Go.Shelf
attribute [local go_sem] Oper.semAt_some
abbrev Tr:=Int×Int×Sl
def trC (x:Tr):List Value:=[.int .i64 x.1,.int .i64 x.2.1,slv x.2.2]
def trV (x:Tr):Value:=.agg #[.int .i64 x.1,.int .i64 x.2.1,slv x.2.2]
def RdX (B:Nat) (w:World) (v:Value) (L:List Tr):Prop:=
 ∃A c,v = .slice A L.length c∧(0<L.length→∃b off,A=some ⟨b,off,none⟩∧b<B∧∀i (h:i<L.length),w.cell? ⟨b,off+i*3,none⟩=some (.int .i64 L[i].1)∧w.cell? ⟨b,off+i*3+1,none⟩=some (.int .i64 L[i].2.1)∧w.cell? ⟨b,off+i*3+2,none⟩=some (slv L[i].2.2))
theorem RdX.below {B:Nat}{w w':World}{v:Value}{L:List Tr}(h:RdX B w v L) (hb:Below B w w'):RdX B w' v L:=by
 obtain ⟨A,c,hv,h⟩:=h
 refine ⟨A,c,hv,fun hn=>?_⟩
 obtain ⟨b,off,hA,hlt,hc⟩:=h hn
 exact ⟨b,off,hA,hlt,fun i hi=>⟨(hb.cell (p:=⟨_,_,none⟩) hlt).trans (hc i hi).1,(hb.cell (p:=⟨_,_,none⟩) hlt).trans (hc i hi).2.1,(hb.cell (p:=⟨_,_,none⟩) hlt).trans (hc i hi).2.2⟩⟩
structure KpB (B Bs:Nat) (W W':World):Prop where
 below:Below B W W'
 kept:∀o,W.heap[Bs]? = some o→o.isCells=true→W'.heap[Bs]? = some o
theorem KpB.t {B Bs:Nat}{X Y Z:World}(h:KpB B Bs X Y) (k:KpB B Bs Y Z):KpB B Bs X Z:=⟨h.below.trans k.below,fun o ho hc=>k.kept o (h.kept o ho hc) hc⟩
theorem KpB.b {B Bs:Nat}{w:World}(hn:B≤w.heap.size) (W:World) (l:Nat) (o o':Obj) (hl:w.heap.size≤l) (h:W.heap[l]? = some o) (h1:o.isCells=false) (h2:o.isWalk=false):KpB B Bs W (W.putObj l o'):=by
 refine ⟨belowK_b hn W l o o' hl h h1 h2,fun o2 ho hc=>?_⟩
 have hne:Bs≠l:=by
  rintro rfl
  rw [h] at ho
  injection ho with ho
  subst ho
  rw [h1] at hc;cases hc
 exact ((grownBy_putObj' W l o').block Bs (gL ho).1 (fun e=>hne (by cases e;rfl))).trans ho
theorem KpB.boxed {B Bs:Nat}{W W':World}{t:TypeId}{v:Value}(h:KpB B Bs W W') (hb:Boxed W Bs t v):Boxed W' Bs t v:=h.kept _ hb rfl
set_option maxRecDepth 100000 in
set_option maxHeartbeats 2000000 in
theorem back1 (n:Nat) (hn:1≤n) (l Bs B:Nat) (A:Option Addr) (c:Nat) (L:List Tr) (hL:L.length≤1000000) (J Jx:List (Int×Tr)→World→Prop)
  (hY:∀pre x W,J pre W→pre.length<L.length→YieldAt Fence.wide (n-1) Tryz.prog l #[.int .i64 x.1,trV x.2] W fun e W'=>
   (e = .returned (.bool true)∧J (pre ++ [x]) W'∧KpB B Bs W W')∨(e = .returned (.bool false)∧Jx (pre ++ [x]) W'))
  (W:World) (hBs:Boxed W Bs 23 (.slice A L.length c)) (hR:RdX B W (.slice A L.length c) L) (h0:J [] W):
  CallsIn Fence.wide n Tryz.prog 102 #[.func (.yield l) #[] #[],.pointer (some ⟨Bs,0,none⟩)] W fun e W'=>(∃v,e = .returned v)∧
   ((∃ys:List (Int×Tr),ys.map (·.2)=L.reverse∧J ys W')∨(∃pre,Jx pre W')):=by
 refine callsIn_of_wp Tryz.func102 rfl trivial ?_ rfl
 simp only [Tryz.ntmps102,List.size_toArray,List.length_cons,List.length_nil,Nat.reduceAdd,Nat.reduceSub,Array.replicate_succ,Array.replicate_zero,List.push_toArray,List.append_toArray,List.nil_append,List.cons_append]
 have e00:W.cell? ⟨Bs,0,none⟩=some (.slice A L.length c):=hBs.cell
 have HBS:=kI hBs
 clear hBs
 gi_wp2
 gi_loopw [3] (fun i wr=>∃(k:Nat) (z:Int) (pre:List (Int×Tr)),k≤L.length∧i = .int .i64 z∧z+1=k∧pre.map (·.2)=(L.drop k).reverse∧J pre wr∧Below B W wr∧Boxed wr Bs 23 (.slice A L.length c))
  (fun i _=>(intOf i+1).toNat)
 case atStart=>exact ⟨L.length,_,[],Nat.le_refl _,rfl,by omega,by simp,h0,Below.refl _ _,HBS.out⟩
 case round=>
  obtain ⟨k,z,pre,hk,rfl,hz,hpre,hJs,hnx,hbx⟩:=hrel
  have e0:wr.cell? ⟨Bs,0,none⟩=some (.slice A L.length c):=hbx.cell
  have HBX:=kI hbx
  clear hbx
  by_cases hk0:1≤k
  ·obtain ⟨A',c',hv,hf⟩:=hR.below hnx
   injection hv with hv1 _ hv3
   subst hv1;subst hv3
   obtain ⟨b,off,rfl,hlt,hc⟩:=hf (by omega)
   obtain ⟨c0,c1,c2⟩:=hc (k-1) (by omega)
   have hdrop:L.drop (k-1)=L[k-1] :: L.drop k:=by
    have:=List.drop_eq_getElem_cons (l:=L) (i:=k-1) (by omega)
    rwa [show k-1+1=k by omega] at this
   have hpl:pre.length<L.length:=by
    have:(pre.map (·.2)).length=pre.length:=by simp
    rw [hpre] at this
    simp at this
    omega
   obtain ⟨x,hx⟩:∃x,L[k-1]=x:=⟨_,rfl⟩
   rw [hx] at c0 c1 c2 hdrop
   obtain ⟨x1,x2,x3⟩:=x
   dsimp only [slv] at c2
   obtain ⟨fn,tmps,assign,body,hy,hR2⟩:=hY pre (z,x1,x2,x3) wr hJs hpl
   dsimp only [trV,slv] at hy
   have f1:(0:Int)≤z:=by omega
   have f2:z<(L.length:Int):=by omega
   have f3:z.toNat=k-1:=by omega
   have f4:decide ((0:Int)≤z)=true:=decide_eq_true f1
   have HZ:=kI hz
   have HP:=kI hpre
   have HD:=kI hdrop
   clear hz hpre hdrop hx hc hf hpl
   gi_wp2
   refine hR2.mono ?_
   rintro e W3 (⟨rfl,hJ3,hk3⟩|⟨rfl,hJx3⟩)
   ·gi_wp2
    go_roundw
    case rel=>exact ⟨k-1,z-1,pre ++ [(z,x1,x2,x3)],by omega,by go_num,by have:=HZ.out;omega,by simp [HP.out,HD.out],hJ3,hnx.trans hk3.below,hk3.boxed HBX.out⟩
    case measure=>simp [intOf];omega
   ·gi_wp2
    refine bodyPost_ret (results_none rfl _ _ _) rfl ?_
    exact ⟨⟨_,rfl⟩,.inr ⟨_,hJx3⟩⟩
  ·obtain rfl:k=0:=by omega
   have f1:¬ (0:Int)≤z:=by omega
   have f4:decide ((0:Int)≤z)=false:=decide_eq_false f1
   have HP:=kI hpre
   clear hz hpre
   gi_wp2
   go_end0
   exact ⟨⟨_,rfl⟩,.inl ⟨pre,by simpa using HP.out,hJs⟩⟩
set_option maxHeartbeats 1000000 in
theorem back_make (A:Option Addr) (n c:Nat) (w:World):
  Calls Tryz.prog 71 #[.slice A n c] w fun e w'=>e = .returned (.func (.func 102) #[] #[.pointer (some ⟨w.heap.size,0,none⟩)])∧w'=w.alloc (.cells #[.slice A n c] 23):=by
 go_enter Tryz.func71,Tryz.ntmps71
 go_wp2
 go_ret
 exact ⟨rfl,rfl⟩
theorem back_stops (n:Nat) (hn:1≤n) (Bs B:Nat) (A:Option Addr) (c:Nat) (L:List Tr) (hL:L.length≤1000000) (w:World) (hBw:B≤w.heap.size) (hBs:Boxed w Bs 23 (.slice A L.length c)) (hR:RdX B w (.slice A L.length c) L):
  SeqStopsK Fence.wide n Tryz.prog 102 #[.pointer (some ⟨Bs,0,none⟩)] (fun x:Int×Tr=>#[Value.int .i64 x.1,trV x.2]) (KpB B Bs) (fun ys=>ys.map (·.2)=L.reverse) (fun _=>True) L.length w:=fun l J Jx W hW _ _ hY h0=>by
 have hbs:Boxed W Bs 23 (.slice A L.length c):=(hW.block Bs hBs.lt).trans hBs
 refine (back1 n hn l Bs B A c L hL J Jx hY W hbs (hR.below (hW.mono hBw)) h0).mono ?_
 rintro e W' ⟨he,⟨ys,hy,hj⟩|⟨pre,hj⟩⟩
 ·exact ⟨he,.inl ⟨ys,hy,hj⟩⟩
 ·exact ⟨he,.inr ⟨pre,trivial,hj⟩⟩
end
section
open Go.RowKit Go.Shelf
attribute [local go_sem] Oper.semAt_some
def app_ (ats:Array Go.TypeId) (ty:Go.TypeId) (args:Array Value):Sem Value:=Builtin.append_ ats ty args
theorem builtin_app (b:Builtin) (ats:Array Go.TypeId) (ty:Go.TypeId) (cs:Array Bool) (args:Array Value) (hb:b = .append):builtin b ats ty cs args=(do pure (.value (←app_ ats ty args))):=by subst hb;rfl
attribute [local go_sem ↓] builtin_app
theorem tyInfo:(Tryz.prog.info? 25).map (fun i=>(i.zero,i.size,i.bytes))=some (some (.agg #[.int .i64 0,.int .i64 0,.slice none 0 0]),3,40):=by kernel_rfl
theorem own_shape {w:World}{base:Nat}{e:TypeId}{size:Nat}{v:Value}{n:Nat}{xs:List Value}(h:w.ownsRow base e size v n xs) (hn:0<n):∃g c,v = .slice (some ⟨g,0,none⟩) n c∧base≤g∧g<w.heap.size:=by
 rcases h.2 with ⟨_,h0⟩|⟨g,cap,cur,rfl,hb,hg,_⟩
 ·omega
 ·exact ⟨g,cap,rfl,hb,(gL hg).1⟩
theorem own_form {w:World}{base:Nat}{e:TypeId}{size:Nat}{v:Value}{n:Nat}{xs:List Value}(h:w.ownsRow base e size v n xs):∃A c,v = .slice A n c∧n≤c∧c≤maxLen:=by
 rcases h.2 with ⟨rfl,rfl⟩|⟨g,cap,cur,rfl,hb,hg,hnc,hcm,_⟩
 ·exact ⟨_,_,rfl,Nat.le_refl _,by unfold maxLen;omega⟩
 ·exact ⟨_,_,rfl,hnc,hcm⟩
def BwInv (w:World) (base:Nat) (vT vL:Value) (T:List Value) (m:Nat) (pre:List (Int×Tr)) (W:World):Prop:=
 (∃v,Boxed W w.heap.size 23 v∧W.ownsRow base 25 3 v (m+pre.length) (T++pre.flatMap fun x=>trC x.2)∧(v.ownBlock=vT.ownBlock∨∀k,v.ownBlock=some k→w.heap.size≤k))∧
  Boxed W (w.heap.size+1) 23 vL∧w.grownBy W vT.ownBlock
theorem BwInv.own {w:World}{base:Nat}{vT vL:Value}{T:List Value}{m:Nat}(B:Nat) (hB:w.heap.size≤B):OwnFrom B (BwInv w base vT vL T m):=by
 refine OwnFrom.and (Own.from (holdsRow_own base w.heap.size _ _ 3 (fun pre:List (Int×Tr)=>m+pre.length) (fun pre=>T++pre.flatMap fun x=>trC x.2) (fun _ v=>v.ownBlock=vT.ownBlock∨∀k,v.ownBlock=some k→w.heap.size≤k)) B) (OwnFrom.and (Own.from (boxed_own _ _ (fun _=>vL)) B) ?_)
 intro s W W' row hs hg hr
 refine ⟨hg.os.trans hs.os,hg.tape.trans hs.tape,hg.output.trans hs.output,Nat.le_trans hs.size hg.size,fun k hk hne=>?_⟩
 rw [hg.block k (by have:=hs.size;omega) (fun e=>by have:=(hr k e.symm).1;omega)]
 exact hs.block k hk hne
theorem elem_set (w1:World) (base g cp k:Nat) (xs:List Value) (hx:xs.length=k*3) (z0 z1 z2 a b u:Value)
  (h:w1.ownsRow base 25 3 (.slice (some ⟨g,0,none⟩) (k+1) cp) (k+1) (xs ++ [z0,z1,z2])):
  (((w1.setCell ⟨g,k*3,none⟩ a).setCell ⟨g,k*3+1,none⟩ b).setCell ⟨g,k*3+2,none⟩ u).ownsRow base 25 3 (.slice (some ⟨g,0,none⟩) (k+1) cp) (k+1) (xs ++ [a,b,u])∧
   w1.grownBy (((w1.setCell ⟨g,k*3,none⟩ a).setCell ⟨g,k*3+1,none⟩ b).setCell ⟨g,k*3+2,none⟩ u) (some g):=by
 obtain ⟨o1,g1⟩:=h.stored (k*3) a
 obtain ⟨o2,g2⟩:=o1.stored (k*3+1) b
 obtain ⟨o3,g3⟩:=o2.stored (k*3+2) u
 refine ⟨?_,(g1.trans g2).trans g3⟩
 have e:(((xs ++ [z0,z1,z2]).set (k*3) a).set (k*3+1) b).set (k*3+2) u=xs ++ [a,b,u]:=by
  rw [←hx]
  simp
 rw [e] at o3
 exact o3
theorem bw_fin (w W W':World) (base B g cp k m B0:Nat) (T:List Value) (Av:Option Addr) (cv:Nat) (vT vL:Value) (pre:List (Int×Tr)) (x:Int×Tr) (hk:m+pre.length=k) (hB:B≤base) (hbw:base≤w.heap.size) (hB0:w.heap.size<B0)
  (hown:W.ownsRow base 25 3 (.slice Av k cv) k (T++pre.flatMap fun x=>trC x.2)) (_bv:Boxed W w.heap.size 23 (.slice Av k cv)) (bl:Boxed W (w.heap.size+1) 23 vL) (hg:w.grownBy W vT.ownBlock)
  (hrow:(Value.slice Av k cv).ownBlock=vT.ownBlock∨∀j,(Value.slice Av k cv).ownBlock=some j→w.heap.size≤j)
  (hat:(Value.slice (some ⟨g,0,none⟩) (k+1) cp).ownBlock=(Value.slice Av k cv).ownBlock∨W.heap.size≤g)
  (hown':W'.ownsRow base 25 3 (.slice (some ⟨g,0,none⟩) (k+1) cp) (k+1) ((T++pre.flatMap fun x=>trC x.2)++trC x.2)) (hbox:Boxed W' w.heap.size 23 (.slice (some ⟨g,0,none⟩) (k+1) cp))
  (hos:W'.os=W.os) (htp:W'.tape=W.tape) (hout:W'.output=W.output) (hsz:W.heap.size≤W'.heap.size)
  (hWW:∀j,j<W.heap.size→some j≠(Value.slice Av k cv).ownBlock→j≠w.heap.size→W'.heap[j]? = W.heap[j]?):
  KeepsFrom B0 W W'∧KpB B (w.heap.size+1) W W'∧BwInv w base vT vL T m (pre ++ [x]) W':=by
 have hrb:∀j,(Value.slice Av k cv).ownBlock=some j→base≤j:=fun j h=>(hown.lt j h).1
 have hbl':Boxed W' (w.heap.size+1) 23 vL:=(hWW _ bl.lt (bl.not_row (by decide) hown) (by omega)).trans bl
 refine ⟨⟨hsz,fun j o hj ho hc=>?_⟩,⟨⟨hos,htp,hout,hsz,fun j hj=>?_⟩,fun o ho hc=>?_⟩,⟨⟨.slice (some ⟨g,0,none⟩) (k+1) cp,hbox,?_,?_⟩,hbl',⟨hos.trans hg.os,htp.trans hg.tape,hout.trans hg.output,Nat.le_trans hg.size hsz,fun j hj hne=>?_⟩⟩⟩
 ·refine (hWW j (gL ho).1 (fun e=>?_) (by omega)).trans ho
  rcases hown.2 with ⟨h1,_⟩|⟨g',cap,cur,h1,_,h2,_⟩
  ·rw [h1] at e;cases e
  ·rw [h1] at e
   obtain rfl:j=g':=by simpa [Value.ownBlock] using e
   rw [h2] at ho;cases ho;cases hc
 ·refine hWW j (by have:=hg.size;omega) (fun e=>?_) (by omega)
  have:=hrb j e.symm
  omega
 ·rw [show W.heap[w.heap.size+1]? = _ from bl] at ho
  rw [←ho];exact hbl'
 ·have e:m+(pre ++ [x]).length=k+1:=by simp;omega
  have e2:(T++(pre ++ [x]).flatMap fun x=>trC x.2)=(T++pre.flatMap fun x=>trC x.2)++trC x.2:=by simp
  rw [e,e2];exact hown'
 ·rcases hat with h|h
  ·rcases hrow with h2|h2
   ·exact .inl (h.trans h2)
   ·exact .inr fun j hj=>h2 j (h.symm.trans hj)
  ·refine .inr fun j hj=>?_
   obtain rfl:g=j:=by simpa [Value.ownBlock] using hj
   have:=hg.size;omega
 ·refine (hWW j (by have:=hg.size;omega) (fun e=>?_) (by omega)).trans (hg.block j hj hne)
  rcases hrow with h2|h2
  ·exact hne (e.trans h2)
  ·have:=h2 j e.symm;omega
set_option maxRecDepth 100000 in
set_option maxHeartbeats 4000000 in
theorem backs_any (w:World) (base B:Nat) (vT vL:Value) (T:List Value) (m:Nat) (L:List Tr) (hown:w.ownsRow base 25 3 vT m T) (hB:B≤base) (hbase:base≤w.heap.size) (hR:RdX B w vL L) (hl:L.length≤1000000) (hm:m≤1000000):
  Calls Tryz.prog 124 #[vT,vL] w fun e w'=>∃v',e = .returned v'∧w'.ownsRow base 25 3 v' (m+L.length) (T++L.reverse.flatMap trC)∧w.grownBy w' vT.ownBlock∧(v'.ownBlock=vT.ownBlock∨∀k,v'.ownBlock=some k→w.heap.size≤k):=by
 obtain ⟨A,c,rfl,hRf⟩:=hR
 obtain ⟨A0,c0,rfl,_,_⟩:=own_form hown
 have H:=kI hown
 refine (callsIn_wide (n:=3)).1 ?_
 refine callsIn_of_wp_marks Tryz.func124 rfl trivial ?_ rfl
 simp only [Tryz.ntmps124,List.size_toArray,List.length_cons,List.length_nil,Nat.reduceAdd,Nat.reduceSub,Array.replicate_succ,Array.replicate_zero,List.push_toArray,List.append_toArray,List.nil_append,List.cons_append]
 clear hown
 gi_wp2_with (refine ⟨trivial,?_⟩;gi_at_call 71;refine (callsIn_wide.2 (back_make A L.length c _)).mono ?_;rintro e w' ⟨rfl,rfl⟩)
 have bT:=Boxed.new w 23 (.slice A0 m c0)
 have bL:=Boxed.new (w.alloc (.cells #[.slice A0 m c0] 23)) 23 (.slice A L.length c)
 rw [World.size_alloc] at bL
 obtain ⟨w0,hw0⟩:∃w0,(w.alloc (.cells #[.slice A0 m c0] 23)).alloc (.cells #[.slice A L.length c] 23)=w0:=⟨_,rfl⟩
 have hB0:Below w.heap.size w w0:=by rw [←hw0];exact ((Below.refl _ w).alloc (Nat.le_refl _) _).alloc (by simp) _
 have hs0:w0.heap.size=w.heap.size+2:=by rw [←hw0];simp
 have hs2:w.heap.size+2≤w0.heap.size:=by omega
 have bT0:Boxed w0 w.heap.size 23 (.slice A0 m c0):=by rw [←hw0];exact bT.alloc _
 have bL0:Boxed w0 (w.heap.size+1) 23 (.slice A L.length c):=by rw [←hw0];exact bL
 have own0:w0.ownsRow base 25 3 (.slice A0 m c0) m T:=by rw [←hw0];exact (H.out.alloc _).alloc _
 have hR0:RdX B w0 (.slice A L.length c) L:=RdX.below (B:=B) (w:=w) ⟨A,c,rfl,hRf⟩ (hB0.mono (by omega))
 rw [hw0]
 clear hw0 bT bL
 refine wpIn_rangeFunc_ownH rfl (by omega) (gf:=102) (lb:=#[.pointer (some ⟨w.heap.size+1,0,none⟩)]) rfl trivial (enters_of Tryz.func102 (by kernel_rfl) rfl)
  (back_stops 2 (by omega) (w.heap.size+1) B A c L hl w0 (by omega) bL0 hR0) KpB.t (KpB.b (by omega)) (Below.refl _ _) (fun _=>rfl)
  (BwInv w base (.slice A0 m c0) (.slice A L.length c) T m) (fun _ _ _=>False)
  (BwInv.own _ (by omega)) (fun _ _ _ _ _ hs _ _=>hs)
  ⟨⟨.slice A0 m c0,bT0,by simpa using own0,.inl rfl⟩,bL0,⟨hB0.os,hB0.tape,hB0.output,hB0.size,fun k hk _=>hB0.block k hk⟩⟩
  (fun x a' W=>∃Bx,(W.cell? ⟨Bx,0,none⟩=some (.int .i64 x.2.1)∧W.cell? ⟨Bx,1,none⟩=some (.int .i64 x.2.2.1)∧W.cell? ⟨Bx,2,none⟩=some (slv x.2.2.2))∧a' = { tmps:=#[.slice A0 m c0,.slice A L.length c,.pointer (some ⟨w.heap.size,0,none⟩),undef,.slice none 0 0,undef,.pointer (some ⟨Bx,0,none⟩),.slice A L.length c,.func (.func 102) #[] #[.pointer (some ⟨w.heap.size+1,0,none⟩)],.int .i64 x.1,trV x.2,undef,undef,undef,undef,undef,undef,undef],defers:=[] })
  (fun x a' s W W' row hs hg hr=>by
   obtain ⟨Bx,⟨c0,c1,c2⟩,ha⟩:=hs
   exact ⟨Bx,⟨cell_kept c0 hg (fun r e=>(hr r e).2),cell_kept c1 hg (fun r e=>(hr r e).2),cell_kept c2 hg (fun r e=>(hr r e).2)⟩,ha⟩) ?assign ?body ?done ?stop
 case assign=>
  rintro l pre x W K hi hK
  obtain ⟨x0,x1,x2,A3,n3,c3⟩:=x
  dsimp only [trV,slv] at hK ⊢
  have HI:=kI hi
  have hsz:=hi.2.2.size
  clear hi
  gi_wp2
  exact hK _ _ ((KeepsOthers.alloc _ _).from _) ⟨(Below.refl B W).alloc (by omega) _,fun o ho _=>(Below.heap_alloc _ _ _ (gL ho).1).trans ho⟩ ((BwInv.own w0.heap.size (by omega)).alloc _ HI.out) ⟨W.heap.size,⟨by go_simp,by go_simp,by go_simp⟩,rfl⟩
 case body=>
  rintro l pre x a' W hl ⟨r,hr⟩ hi ⟨Bx,⟨x0,x1,x2⟩,rfl⟩ hlt
  obtain ⟨⟨v,bv,hown,hrow⟩,bl,hg⟩:=hi
  obtain ⟨y0,y1,y2,A3,n3,c3⟩:=x
  dsimp only [trV,slv] at x0 x1 x2 ⊢
  obtain ⟨Av,cv,rfl,hk1,hk2⟩:=own_form hown
  obtain ⟨i0,hi0,hz0,hz1,hz2⟩:=info_parts tyInfo
  obtain ⟨k,hk⟩:∃k,m+pre.length=k:=⟨_,rfl⟩
  have hkb:k≤2000000:=by omega
  rw [hk] at hown bv hrow hk1
  have hbs:base≤W.heap.size:=by have:=hg.size;omega
  obtain ⟨W1,hW1⟩:∃W1,W1=(W.alloc (.cells #[.int .i64 0,.int .i64 0,.slice none 0 0] 25)).drew:=⟨_,rfl⟩
  have own1:W1.ownsRow base 25 3 (.slice Av k cv) k (T++pre.flatMap fun x=>trC x.2):=by rw [hW1];exact hown.alloc _
  have rd1:Rd W1 3 (.slice (some ⟨W.heap.size,0,none⟩) 1 1) 1 [.int .i64 0,.int .i64 0,.slice none 0 0]:=by
   rw [hW1];exact rd_new W [.int .i64 0,.int .i64 0,.slice none 0 0] 25 3 1 rfl (by unfold maxLen;omega)
  obtain ⟨v1,w1,hrun,hown1,hg1,hat⟩:=run_append_rd (P:=Tryz.prog) W1 base 23 23 25 i0 _ 3 40 Tryz.underlying23 hi0 hz0 hz1 hz2 rfl (by omega) (.slice Av k cv) k _ own1 _ 1 _ rd1 (by simp [Value.oneCell']) (by unfold maxLen;omega) (by omega) (by rw [hW1];simp;omega)
  obtain ⟨g,cp,rfl,hg0,hg2⟩:=own_shape hown1 (by omega)
  have hrun2:(app_ #[23,23] 23 #[.slice Av k cv,.slice (some ⟨W.heap.size,0,none⟩) 1 1]).run Tryz.prog W1 = .ok (.slice (some ⟨g,0,none⟩) (k+1) cp) w1:=hrun
  rw [hW1] at hrun2
  have HW1:=kI hW1
  have z0:w1.cell? ⟨g,k*3,none⟩=some (.int .i64 0):=by rw [hown1.cellAt _ (by omega),List.getElem?_append_right (by rw [own1.1];omega),own1.1];simp
  have z1:w1.cell? ⟨g,k*3+1,none⟩=some (.int .i64 0):=by rw [hown1.cellAt _ (by omega),List.getElem?_append_right (by rw [own1.1];omega),own1.1];simp
  have z2:w1.cell? ⟨g,k*3+2,none⟩=some (.slice none 0 0):=by rw [hown1.cellAt _ (by omega),List.getElem?_append_right (by rw [own1.1];omega),own1.1];simp
  have zf0:w1.frozen? ⟨g,k*3,none⟩=false:=hown1.frozenAt _
  have zf1:w1.frozen? ⟨g,k*3+1,none⟩=false:=hown1.frozenAt _
  have zf2:w1.frozen? ⟨g,k*3+2,none⟩=false:=hown1.frozenAt _
  have bv1:Boxed w1 w.heap.size 23 (.slice Av k cv):=by
   refine Boxed.kept (W:=W1) (by rw [hW1];exact bv.alloc _) hg1 (bv.not_row (by decide) hown)
  have bc:=bv.cell
  have bf:=bv.frozen
  have bc1:=bv1.cell
  have bf1:=bv1.frozen
  have hlb:w.heap.size<W.heap.size:=bv.lt
  have hlx:Bx<W.heap.size:=World.block_lt_of_cell? W ⟨Bx,0,none⟩ x0
  have hgb:g≠w.heap.size:=by
   rintro rfl
   exact bv1.not_row (by decide) hown1 (by simp [Value.ownBlock])
  have hkk:(0:Int)≤(k:Int):=by omega
  have hkk1:(k:Int)<(k:Int)+1:=by omega
  have hk0:=kI hk
  have HOWN:=kI hown
  have HBL:=kI bl
  have HG:=kI hg
  have HOWN1:=kI hown1
  have HG1:=kI hg1
  have HAT:=kI hat
  have HRW:=kI hrow
  have BV:=kI bv
  have BV1:=kI bv1
  clear hrun hown1 hg1 hat own1 rd1 bv bv1 bl hg hown hrow hk hW1 hRf hR0 hB0 hs0 bT0 bL0 own0
  have hxl:(T++pre.flatMap fun x=>trC x.2).length=k*3:=HOWN.out.1
  have hWw:∀j,j<W.heap.size→some j≠(Value.slice Av k cv).ownBlock→w1.heap[j]? = W.heap[j]?:=by
   intro j hj hne
   rw [HG1.out.block j (by rw [HW1.out];simp;omega) hne,HW1.out]
   exact Below.heap_alloc _ _ _ hj
  have hszw:W.heap.size≤w1.heap.size:=by have:=HG1.out.size;rw [HW1.out] at this;simp at this;omega
  have hatW:(Value.slice (some ⟨g,0,none⟩) (k+1) cp).ownBlock=(Value.slice Av k cv).ownBlock∨W.heap.size≤g:=by
   rcases HAT.out with h|h
   ·exact .inl h
   ·right
    have:g=W1.heap.size:=by simpa [Value.ownBlock] using h
    rw [this,HW1.out];simp
  have ho1:w1.os=W.os:=by rw [HG1.out.os,HW1.out];rfl
  have ho2:w1.tape=W.tape:=by rw [HG1.out.tape,HW1.out];rfl
  have ho3:w1.output=W.output:=by rw [HG1.out.output,HW1.out];rfl
  have hgne:∀j,j<W.heap.size→some j≠(Value.slice Av k cv).ownBlock→j≠g:=by
   rintro j hj hne rfl
   rcases hatW with h|h
   ·exact hne (by rw [←h];rfl)
   ·omega
  have FA:Hid (ownPostG w0.heap.size (KpB B (w.heap.size+1)) (BwInv w base (.slice A0 m c0) (.slice A L.length c) T m) (fun _ _ _=>False) (pre ++ [(y0,y1,y2,A3,n3,c3)]) W .normal ({ tmps:=#[],defers:=[] }:Act)
    ((((w1.setCell ⟨g,k*3,none⟩ (.int .i64 y1)).setCell ⟨g,k*3+1,none⟩ (.int .i64 y2)).setCell ⟨g,k*3+2,none⟩ (.slice A3 n3 c3)).setCell ⟨w.heap.size,0,none⟩ (.slice (some ⟨g,0,none⟩) (k+1) cp))):=kI (by
   obtain ⟨e1,e2⟩:=elem_set w1 base g cp k _ hxl _ _ _ (.int .i64 y1) (.int .i64 y2) (.slice A3 n3 c3) HOWN1.out
   have e3:=grownBy_setCell' (((w1.setCell ⟨g,k*3,none⟩ (.int .i64 y1)).setCell ⟨g,k*3+1,none⟩ (.int .i64 y2)).setCell ⟨g,k*3+2,none⟩ (.slice A3 n3 c3)) w.heap.size (.slice (some ⟨g,0,none⟩) (k+1) cp)
   refine bw_fin w W _ base B g cp k m _ T Av cv _ _ pre (y0,y1,y2,A3,n3,c3) hk0.out hB hbase (by omega) HOWN.out BV.out HBL.out HG.out HRW.out hatW (e1.kept e3 (.inr (by simp [Value.ownBlock];exact hgb))) ?_ (e3.os.trans (e2.os.trans ho1)) (e3.tape.trans (e2.tape.trans ho2)) (e3.output.trans (e2.output.trans ho3)) (Nat.le_trans hszw (Nat.le_trans e2.size e3.size)) ?_
   ·exact ((BV1.out.kept e2 (by simp;omega)).set _)
   ·intro j hj hne hnb
    rw [e3.block j (by have:=e2.size;omega) (by simp;exact hnb),e2.block j (by omega) (by simp;exact hgne j hj hne)]
    exact hWw j hj hne)
  have FB:Hid (ownPostG w0.heap.size (KpB B (w.heap.size+1)) (BwInv w base (.slice A0 m c0) (.slice A L.length c) T m) (fun _ _ _=>False) (pre ++ [(y0,y1,y2,A3,n3,c3)]) W .normal ({ tmps:=#[],defers:=[] }:Act)
    ((((w1.setCell ⟨w.heap.size,0,none⟩ (.slice (some ⟨g,0,none⟩) (k+1) cp)).setCell ⟨g,k*3,none⟩ (.int .i64 y1)).setCell ⟨g,k*3+1,none⟩ (.int .i64 y2)).setCell ⟨g,k*3+2,none⟩ (.slice A3 n3 c3))):=kI (by
   have e3:=grownBy_setCell' w1 w.heap.size (.slice (some ⟨g,0,none⟩) (k+1) cp)
   obtain ⟨e1,e2⟩:=elem_set (w1.setCell ⟨w.heap.size,0,none⟩ (.slice (some ⟨g,0,none⟩) (k+1) cp)) base g cp k _ hxl _ _ _ (.int .i64 y1) (.int .i64 y2) (.slice A3 n3 c3) (HOWN1.out.kept e3 (.inr (by simp [Value.ownBlock];exact hgb)))
   refine bw_fin w W _ base B g cp k m _ T Av cv _ _ pre (y0,y1,y2,A3,n3,c3) hk0.out hB hbase (by omega) HOWN.out BV.out HBL.out HG.out HRW.out hatW e1 ?_ (e2.os.trans (e3.os.trans ho1)) (e2.tape.trans (e3.tape.trans ho2)) (e2.output.trans (e3.output.trans ho3)) (Nat.le_trans hszw (Nat.le_trans e3.size e2.size)) ?_
   ·exact ((BV1.out.set _).kept e2 (by simp;omega))
   ·intro j hj hne hnb
    rw [e2.block j (by have:=e3.size;omega) (by simp;exact hgne j hj hne),e3.block j (by omega) (by simp;exact hnb)]
    exact hWw j hj hne)
  clear hxl hWw hszw hatW ho1 ho2 ho3 hgne
  have hmix:Tryz.prog.follows Departure.mixedOrders=true:=by kernel_rfl
  gi_wp2
  gi_region_with_o (fail)
  all_goals gi_wp2
  all_goals
   first
    | exact FA.out
    | exact FB.out
 case done=>
  rintro D ys W hD hys ⟨⟨v,bv,hown,hrow⟩,bl,hg⟩ hK
  have hlen:ys.length=L.length:=by
   have:(ys.map (·.2)).length=L.reverse.length:=by rw [hys]
   simpa using this
  have hfl:(ys.flatMap fun x=>trC x.2)=L.reverse.flatMap trC:=by
   rw [←hys,List.flatMap_map]
  rw [hlen,hfl] at hown
  have bc:=bv.cell
  have HOWN:=kI hown
  have HROW:=kI hrow
  have HG:=kI hg
  clear hown hrow hg bv bl hlen hfl hys
  gi_wp2
  refine ⟨by simp,.inl ⟨_,_,rfl,run_takeDeferred hK,?_⟩⟩
  have hgp:=grownBy_putObj' W D (.deferred none)
  refine ⟨_,results_tmp rfl _ _ _,v,rfl,ownsRow_putObj HOWN.out _ hK rfl,⟨hgp.os.trans HG.out.os,hgp.tape.trans HG.out.tape,hgp.output.trans HG.out.output,Nat.le_trans HG.out.size hgp.size,fun j hj hne=>?_⟩,HROW.out⟩
  exact (hgp.block j (by have:=HG.out.size;omega) (fun e=>by injection e with e;omega)).trans (HG.out.block j hj hne)
 case stop=>
  rintro D c pre W _ _ h _
  exact h.elim
end
section
open Go.RowKit
theorem step_app {P:Program}{ops:Array Oper}{o:Oper}{a:Act}{w:World}{K:Act→World→Prop}{Q:Exit→Act→World→Prop}{E:Prop}(hgd:o.guard=none) (s x:Operand) (t:TypeId)
  (ho:o.op = .call { callee:=.builtin .append,args:=#[s,x],argTypes:=#[t,t] }) {vs vx v':Value} {w':World} (hrun:(app_ #[t,t] o.type #[vs,vx]).run P w = .ok v' w')
  (hs:a.eval s=vs) (hx:a.eval x=vx) (h:K (a.put o.dst v') w'):if Region.wanted o (yielded ops a.tmps)=true then Oper.wp P o a w K Q else E:=by
 have hw:Region.wanted o (yielded ops a.tmps)=true:=by simp [Region.wanted,hgd]
 rw [if_pos hw]
 have hrun2:(Builtin.append_ #[t,t] o.type #[vs,vx]).run P w = .ok v' w':=hrun
 unfold Oper.wp
 simp [execOp,ho,resolve,invoke,builtin,hs,hx,hrun2,Result.andThen]
 exact h
end
end Go.Proofs.YtmamdiggjghjkaaGreatDoor
