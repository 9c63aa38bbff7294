/- Texts of one proof, one behind the other. -/
import Derived.Test.YtmamdiggjghjkaaGreatDoorMgSolveOrder17
import Derived.Deep.LoopGhost
import Derived.Deep.QuietTactic
import Derived.BigQuiet
import Derived.WalkMore
set_option linter.unusedVariables false
namespace Go.Proofs.YtmamdiggjghjkaaGreatDoor
section
open Go.RowKit
open Un (Else StM rowI UFo own_else dg swp wp_world paint)
set_option maxRecDepth 100000
def chR (G:List Gn) (kn:Kn) (ro:Nat→Nat) (r:Nat):List Nat:=(partsO G (kn r).1).map ro
def TellOk (gf:FuncId) (lb:Array Value) (cb n:Nat) (ch:Nat→List Nat) (T:Nat→Prop) (J:List (Nat×Bool)→Bool→World→Prop) (Q:World→Prop):Prop:=
 ∀(D:List (Nat×Bool)) (W:World) (r:Nat) (b:Bool) (P:Sl) (k:Nat),Q W→J D true W→Rd W 2 (slv P) (ch r).length (ptC cb (ch r))→(b=true→∀x∈ch r,(x,true)∈D)→(∀g,(r,g) ∉ D)→r<n→D.length≤n→
  Calls Tryz.prog gf (#[.agg #[.pointer (some ⟨cb,0,none⟩),.int .i64 (r:Nat),slv P,.int .i64 (k:Nat)],.bool b]++lb) W fun x w'=>∃g:Bool,x = .returned (.bool g)∧J (D ++ [(r,b)]) g w'∧Else T W w'
structure Told (e:Nat→Option Bool) (S:List (Nat×Nat)) (D:List (Nat×Bool)):Prop where
 known:∀x b,(x,b)∈D→e x=some b∧∀s∈S,s.1≠x
 all:∀x b,e x=some b→(∀s∈S,s.1≠x)→(x,b)∈D
def payD (ch:Nat→List Nat) (D:List (Nat×Bool)):Nat:=(D.map fun x=>2*(ch x.1).length+1).sum
def payS (S:List (Nat×Nat)):Nat:=(S.map fun x=>2*x.2+1).sum
theorem payD_app (ch:Nat→List Nat) (D:List (Nat×Bool)) (x:Nat×Bool):payD ch (D ++ [x])=payD ch D+(2*(ch x.1).length+1):=by simp [payD]
theorem payS_app (S:List (Nat×Nat)) (x:Nat×Nat):payS (S ++ [x])=payS S+(2*x.2+1):=by simp [payS]
section CyCs
variable {ch:Nat→List Nat}{e:Nat→Option Bool}{S:List (Nat×Nat)}{D:List (Nat×Bool)}{r k x:Nat}
theorem Told.push (h:Told e S D) (hn:e x=none):Told (upe e x false) (S ++ [(x,0)]) D:=by
 refine ⟨fun y b hy=>?_,fun y b hy ho=>?_⟩
 ·obtain ⟨h1,h2⟩:=h.known y b hy
  have hne:y≠x:=fun he=>by rw [he,hn] at h1;cases h1
  refine ⟨by unfold upe;rw [if_neg hne];exact h1,fun s hs=>?_⟩
  rcases List.mem_append.1 hs with hs|hs
  ·exact h2 s hs
  ·obtain rfl:s=(x,0):=by simpa using hs
   exact fun he=>hne he.symm
 ·have hne:y≠x:=fun he=>ho (x,0) (by simp) he.symm
  unfold upe at hy
  rw [if_neg hne] at hy
  exact h.all y b hy fun s hs=>ho s (List.mem_append_left _ hs)
theorem Told.step (h:Told e (S ++ [(r,k)]) D) (k':Nat):Told e (S ++ [(r,k')]) D:=by
 have hm:∀(a b:Nat) s,s∈S ++ [(r,a)]→∃t∈S ++ [(r,b)],t.1=s.1:=fun a b s hs=>by
  rcases List.mem_append.1 hs with hs|hs
  ·exact ⟨s,List.mem_append_left _ hs,rfl⟩
  ·obtain rfl:s=(r,a):=by simpa using hs
   exact ⟨(r,b),by simp,rfl⟩
 refine ⟨fun y b hy=>⟨(h.known y b hy).1,fun s hs=>?_⟩,fun y b hy ho=>h.all y b hy fun s hs=>?_⟩
 ·obtain ⟨t,ht,he⟩:=hm k' k s hs
  rw [←he]
  exact (h.known y b hy).2 t ht
 ·obtain ⟨t,ht,he⟩:=hm k k' s hs
  rw [←he]
  exact ho t ht
theorem Told.pop (h:Told e (S ++ [(r,k)]) D) (hd:Dfs ch e (S ++ [(r,k)])) (b:Bool):Told (upe e r b) S (D ++ [(r,b)]):=by
 have hnd:=hd.nd
 rw [List.map_append,List.nodup_append] at hnd
 have hne:∀s∈S,s.1≠r:=fun s hs=>hnd.2.2 s.1 (List.mem_map_of_mem hs) r (by simp)
 refine ⟨fun y c hy=>?_,fun y c hy ho=>?_⟩
 ·rcases List.mem_append.1 hy with hy|hy
  ·obtain ⟨h1,h2⟩:=h.known y c hy
   have hyr:y≠r:=fun he=>h2 (r,k) (by simp) he.symm
   exact ⟨by unfold upe;rw [if_neg hyr];exact h1,fun s hs=>h2 s (List.mem_append_left _ hs)⟩
  ·obtain ⟨rfl,rfl⟩:y=r∧c=b:=by simpa using hy
   exact ⟨by simp [upe],hne⟩
 ·by_cases hyr:y=r
  ·subst hyr
   simp only [upe,if_pos,Option.some.injEq] at hy
   subst hy
   simp
  ·unfold upe at hy
   rw [if_neg hyr] at hy
   refine List.mem_append_left _ (h.all y c hy fun s hs=>?_)
   rcases List.mem_append.1 hs with hs|hs
   ·exact ho s hs
   ·obtain rfl:s=(r,k):=by simpa using hs
    exact fun he=>hyr he.symm
theorem told_parts (h:Told e (S ++ [(r,k)]) D) (hd:Dfs ch e (S ++ [(r,k)])) (hk:k=(ch r).length):∀y∈ch r,(y,true)∈D:=fun y hy=>by
 obtain ⟨t,ht,rfl⟩:=List.getElem_of_mem hy
 obtain ⟨z,h1,h2⟩:=hd.past (r,k) (by simp) t (by show t<k;omega)
 rw [List.getElem?_eq_getElem ht] at h1
 cases h1
 refine h.all _ _ h2 fun s hs he=>?_
 have:=hd.on s hs
 rw [he,h2] at this
 cases this
theorem told_new (h:Told e (S ++ [(r,k)]) D):∀g,(r,g) ∉ D:=fun g hg=>(h.known r g hg).2 (r,k) (by simp) rfl
end CyCs
theorem nodup_len {n:Nat}:∀ {L:List Nat},L.Nodup→(∀x∈L,x<n)→L.length≤n:=by
 induction n with
 | zero=>
  intro L _ h
  cases L with
  | nil=>exact Nat.le_refl _
  | cons a L=>exact absurd (h a List.mem_cons_self) (Nat.not_lt_zero _)
 | succ n ih=>
  intro L hn h
  have h1:=ih (L:=L.erase n) (hn.sublist List.erase_sublist) fun x hx=>by
   have h2:=h x (List.mem_of_mem_erase hx)
   have h3:x≠n:=fun e=>by
    subst e
    exact (List.Nodup.not_mem_erase hn) hx
   omega
  have h2:L.length≤(L.erase n).length+1:=by rw [List.length_erase];split<;>omega
  omega
def open_ (n:Nat) (e:Nat→Option Bool):Nat:=(List.range n).countP fun x=>(e x).isNone
theorem open_upe {n:Nat}{e:Nat→Option Bool}{x:Nat}(hx:x<n) (hn:e x=none) (b:Bool):open_ n (upe e x b)+1=open_ n e:=by
 unfold open_
 induction n with
 | zero=>omega
 | succ n ih=>
  rw [List.range_succ,List.countP_append,List.countP_append,List.countP_singleton,List.countP_singleton]
  by_cases h:x=n
  ·subst h
   have e1:(List.range x).countP (fun y=>(upe e x b y).isNone)=(List.range x).countP fun y=>(e y).isNone:=by
    refine List.countP_congr fun y hy=>?_
    have:=List.mem_range.1 hy
    unfold upe
    rw [if_neg (by omega)]
   rw [e1]
   simp [upe,hn]
  ·have e1:=ih (by omega)
   have e2:(upe e x b n).isNone=(e n).isNone:=by unfold upe;rw [if_neg (by omega)]
   rw [e2]
   omega
theorem open_known {n:Nat}{e:Nat→Option Bool}{x:Nat}(hn:e x≠none) (b:Bool):open_ n (upe e x b)=open_ n e:=by
 unfold open_
 refine List.countP_congr fun y _=>?_
 unfold upe
 split
 ·rename_i h
  subst h
  cases he:e y with
  | none=>exact absurd he hn
  | some _=>simp
 ·rfl
theorem payD_le {ch:Nat→List Nat}(h8:∀x,(ch x).length≤8) (D:List (Nat×Bool)):payD ch D≤17*D.length:=by
 induction D with
 | nil=>simp [payD]
 | cons x D ih=>
  have:=h8 x.1
  have e:payD ch (x :: D)=(2*(ch x.1).length+1)+payD ch D:=by simp [payD]
  rw [e,List.length_cons]
  omega
theorem payS_le {ch:Nat→List Nat}(h8:∀x,(ch x).length≤8) (S:List (Nat×Nat)) (hS:∀s∈S,s.2≤(ch s.1).length):payS S≤17*S.length:=by
 induction S with
 | nil=>simp [payS]
 | cons x S ih=>
  have h1:=h8 x.1
  have h2:=hS x List.mem_cons_self
  have h3:=ih fun s hs=>hS s (List.mem_cons_of_mem _ hs)
  have e:payS (x :: S)=(2*x.2+1)+payS S:=by simp [payS]
  rw [e,List.length_cons]
  omega
theorem chR_le {n:Nat}{G:List Gn}{kn:Kn}{ro:Nat→Nat}(hP:∀p∈G,p.2.2.2.length≤8∧∀u∈p.2.2.2,u<n) (x:Nat):(chR G kn ro x).length≤8:=by
 unfold chR
 rw [List.length_map]
 unfold partsO
 cases h:(kn x).1 with
 | none=>simp
 | some k=>
  cases hg:G[k]? with
  | none=>simp [hg]
  | some p=>simpa [hg] using (hP p (List.mem_of_getElem? hg)).1
theorem chR_lt {n:Nat}{G:List Gn}{kn:Kn}{ro:Nat→Nat}(hP:∀p∈G,p.2.2.2.length≤8∧∀u∈p.2.2.2,u<n) (hro:∀i,i<n→ro i<n) (x y:Nat) (hy:y∈chR G kn ro x):y<n:=by
 unfold chR at hy
 obtain ⟨u,hu,rfl⟩:=List.mem_map.1 hy
 refine hro u ?_
 unfold partsO at hu
 cases h:(kn x).1 with
 | none=>rw [h] at hu;simp at hu
 | some k=>
  rw [h] at hu
  cases hg:G[k]? with
  | none=>simp [hg] at hu
  | some p=>simp [hg] at hu;exact (hP p (List.mem_of_getElem? hg)).2 u hu
structure FrI (O:Nat→Prop) (cb:Nat) (A:Adr) (st:Int) (n:Nat) (G:List Gn) (kn:Kn) (nx col ro:Nat→Nat) (wb mb:Nat) (T:Nat→Prop) (J:List (Nat×Bool)→Bool→World→Prop) (w0:World) (f0:Int) (sp0:Int) (m0:Nat) (D0:List (Nat×Bool))
  (S:List Fr) (e:Nat→Option Bool) (D:List (Nat×Bool)) (todo:Value) (wr:World):Prop where
 cl:∃f:Nat,ClM O wr cb A st false n G kn nx col ro (f0+f)∧f+168*D0.length≤168*(D.length+S.length)
 wk:∃(q m:Nat),WkM wr wb mb e (sp0+q) m∧q+payD (chR G kn ro) D0≤1+payD (chR G kn ro) D+payS (S.map fun x=>(x.1,x.2.1))∧m+2*D0.length≤m0+2*D.length+S.length
 dfs:Dfs (chR G kn ro) e (S.map fun x=>(x.1,x.2.1))
 told:Told e (S.map fun x=>(x.1,x.2.1)) D
 more:∃X,D=D0++X
 nd:(D.map (·.1)).Nodup
 dlt:∀x b,(x,b)∈D→x<n
 lt:∀s∈S,s.1<n
 row:wr.ownsRow w0.heap.size 184 4 todo S.length (frs cb S)
 rows:∀s∈S,RdD (fun b=>w0.heap.size≤b∧todo.ownBlock≠some b) wr 2 (slv s.2.2) (chR G kn ro s.1).length (ptC cb (chR G kn ro s.1))
 tl:J D true wr
 els:Else (fun k=>A.S k∨k=wb∨k=mb∨T k) w0 wr
end
section
open Go.RowKit
open Un (Else StM rowI UFo own_else dg swp wp_world paint)
attribute [local go_sem] Oper.semAt_some
attribute [local go_sem ↓] builtin_app
set_option maxRecDepth 100000
def FrPost (O:Nat→Prop) (cb:Nat) (A:Adr) (st:Int) (n:Nat) (G:List Gn) (kn:Kn) (nx col ro:Nat→Nat) (wb mb:Nat) (T:Nat→Prop) (J:List (Nat×Bool)→Bool→World→Prop) (f0 sp0:Int) (m0:Nat) (D0:List (Nat×Bool)) (r:Nat) (w0:World) (x:Ending) (w':World):Prop:=
 ∃(g:Bool) (e:Nat→Option Bool) (S:List (Nat×Nat)) (D:List (Nat×Bool)) (f q m:Nat),x = .returned (.bool g)∧ClM O w' cb A st false n G kn nx col ro (f0+f)∧WkM w' wb mb e (sp0+q) m∧(∃X,D=D0++X)∧f+168*D0.length≤168*(D.length+S.length)∧q+payD (chR G kn ro) D0≤1+payD (chR G kn ro) D+payS S∧m+2*D0.length≤m0+2*D.length+S.length∧J D g w'∧Else (fun k=>A.S k∨k=wb∨k=mb∨T k) w0 w'∧
  Dfs (chR G kn ro) e S∧Told e S D∧(∀s∈S,s.1<n)∧(g=true→S=[]∧(e r).isSome=true)∧(D.map (·.1)).Nodup∧(∀x b,(x,b)∈D→x<n)
section CyDs
variable {O:Nat→Prop}{w:World}{cb:Nat}{A:Adr}{st:Int}{n:Nat}{G:List Gn}{kn:Kn}{nx col ro:Nat→Nat}{fs:Int}{wb mb:Nat}{e:Nat→Option Bool}{sp:Int}{m:Nat}{D:List (Nat×Bool)}{gf:FuncId}{lb:Array Value}{T:Nat→Prop}{J:List (Nat×Bool)→Bool→World→Prop}
theorem stack_len {n:Nat}{S:List Fr}{ch:Nat→List Nat}{e:Nat→Option Bool}(h:Dfs ch e (S.map fun x=>(x.1,x.2.1))) (hl:∀s∈S,s.1<n):S.length≤n:=by
 have h1:=h.nd
 have h2:=nodup_len h1 (fun x hx=>by
  rw [List.map_map] at hx
  obtain ⟨s,hs,rfl⟩:=List.mem_map.1 hx
  exact hl s hs)
 simpa using h2
theorem payS_map (S:List Fr) (x:Fr):payS ((S ++ [x]).map fun x=>(x.1,x.2.1))=payS (S.map fun x=>(x.1,x.2.1))+(2*x.2.1+1):=by
 rw [List.map_append,List.map_singleton,payS_app]
theorem frs_cells {W:World}{base g c cb:Nat}{S1:List Fr}{r k:Nat}{P:Sl}(h:W.ownsRow base 184 4 (.slice (some ⟨g,0,none⟩) (S1.length+1) c) (S1 ++ [(r,k,P)]).length (frs cb (S1 ++ [(r,k,P)]))) (b:Nat) (hb:S1.length*4=b):
  g<W.heap.size∧base≤g∧W.frozen? ⟨g,b+3,none⟩=false∧W.cell? ⟨g,b,none⟩=some (.pointer (some ⟨cb,0,none⟩))∧W.cell? ⟨g,b+1,none⟩=some (.int .i64 (r:Nat))∧W.cell? ⟨g,b+2,none⟩=some (slv P)∧W.cell? ⟨g,b+3,none⟩=some (.int .i64 (k:Nat)):=by
 have e1:(S1 ++ [(r,k,P)]).length=S1.length+1:=by simp
 rw [←e1] at h
 have hl:(frs cb (S1 ++ [(r,k,P)])).length=(S1.length+1)*4:=by rw [frs_len,e1]
 have hat:=fun j (hj:j<4)=>frs_last cb S1 (r,k,P) j hj
 have hc:=fun j (hj:j<4)=>(h.cellAt (S1.length*4+j) (by rw [e1];omega)).trans (hat j hj)
 obtain ⟨h1,h2⟩:=h.lt g rfl
 subst hb
 refine ⟨h2,h1,?_,hc 0 (by omega),hc 1 (by omega),hc 2 (by omega),hc 3 (by omega)⟩
 rcases h.2 with ⟨h0,_⟩|⟨g',cap,cur,hv,hbb,hg,_⟩
 ·simp at h0
 ·injection hv with hv
  injection hv with hv
  injection hv with hv
  subst hv
  simp [World.frozen?,hg]
theorem part_cells {Dp:Nat→Prop}{W:World}{P:Sl}{L:List Nat}{cb k:Nat}(h:RdD Dp W 2 (slv P) L.length (ptC cb L)) (hk:k<L.length):∃b off x,P.1=some ⟨b,off,none⟩∧P.2.1=L.length∧L.length≤P.2.2∧L[k]? = some x∧b<W.heap.size∧W.cell? ⟨b,off+k*2,none⟩=some (.pointer (some ⟨cb,0,none⟩))∧W.cell? ⟨b,off+k*2+1,none⟩=some (.int .i64 (x:Nat)):=by
 obtain ⟨P1,P2,P3⟩:=P
 obtain ⟨⟨hl,h2⟩,_⟩:=h
 rcases h2 with ⟨h0,_⟩|⟨b,off,cap,hv,hnc,hcm,hb,hc⟩
 ·omega
 ·injection hv with e1 e2 e3
  have e3:P3=cap:=e3
  have hx:L[k]? = some L[k]:=List.getElem?_eq_getElem hk
  have hp:∀(L:List Nat) (k x:Nat),L[k]? = some x→(ptC cb L)[k*2]? = some (.pointer (some ⟨cb,0,none⟩))∧(ptC cb L)[k*2+1]? = some (.int .i64 (x:Nat)):=by
   intro L
   induction L with
   | nil=>intro k x hx;simp at hx
   | cons y L ih=>
    intro k x hx
    cases k with
    | zero=>simp at hx;subst hx;exact ⟨rfl,rfl⟩
    | succ k=>
     have:=ih k x (by simpa using hx)
     have e:ptC cb (y :: L)=[.pointer (some ⟨cb,0,none⟩),.int .i64 (y:Nat)]++ptC cb L:=by simp [ptC]
     rw [e,List.getElem?_append_right (by simp;omega),List.getElem?_append_right (by simp;omega)]
     rw [show (k+1)*2 - [Value.pointer (some ⟨cb,0,none⟩),Value.int .i64 (y:Nat)].length=k*2 by simp;omega,show (k+1)*2+1 - [Value.pointer (some ⟨cb,0,none⟩),Value.int .i64 (y:Nat)].length=k*2+1 by simp;omega]
     exact this
  obtain ⟨g1,g2⟩:=hp L k _ hx
  exact ⟨b,off,L[k],e1,e2,by show L.length≤P3;omega,hx,hb,hc _ _ g1,by have:=hc _ _ g2;rwa [←Nat.add_assoc] at this⟩
theorem part_len {Dp:Nat→Prop}{W:World}{P:Sl}{n:Nat}{xs:List Value}(h:RdD Dp W 2 (slv P) n xs):P.2.1=n:=by
 obtain ⟨P1,P2,P3⟩:=P
 rcases h.1.2 with ⟨h0,_,_,hv⟩|⟨b,off,cap,hv,_⟩
 ·injection hv with _ e _;subst h0;exact e
 ·injection hv with _ e _
theorem FrI.row_lt {W:World}{wb mb:Nat}{T:Nat→Prop}{J:List (Nat×Bool)→Bool→World→Prop}{w0:World}{f0 sp0:Int}{m0:Nat}{D0 D:List (Nat×Bool)}{S:List Fr}{todo:Value}(h:FrI O cb A st n G kn nx col ro wb mb T J w0 f0 sp0 m0 D0 S e D todo W):∀k,todo.ownBlock=some k→w0.heap.size≤k:=fun k hk=>(h.row.lt k hk).1
def AcB (ch:Nat→List Nat) (rr:Nat) (D:List (Nat×Bool)) (b:Bool):Prop:=(b=true→Acc (Chl ch) rr)∧(b=false→¬ Acc (Chl ch) rr)∧(b=true→∀y∈ch rr,(y,true)∈D)
structure FxI (w0:World) (wb mb:Nat) (A:Adr) (cb:Nat) (T:Nat→Prop) (J:List (Nat×Bool)→Bool→World→Prop):Prop where
 ap:∀k,A.D k∨A.F cb k→k<w0.heap.size∧k≠wb∧k≠mb
 ne:wb≠mb
 wl:wb<w0.heap.size
 ml:mb<w0.heap.size
 td:∀k,T k→k<w0.heap.size∧k≠wb∧k≠mb∧¬ (A.D k∨A.F cb k)
 js:∀D g (S:Nat→Prop) W W',J D g W→Else S W W'→(∀k,S k→¬ T k)→J D g W'
variable {w0 wr w5 w6 w7:World}{f0 sp0:Int}{m0:Nat}{D0:List (Nat×Bool)}{S1:List Fr}{rr k' x gs css f q m2:Nat}{P P6:Sl}
theorem FrI.push (X:FxI w0 wb mb A cb T J) (h:FrI O cb A st n G kn nx col ro wb mb T J w0 f0 sp0 m0 D0 (S1 ++ [(rr,k',P)]) e D (.slice (some ⟨gs,0,none⟩) (S1.length+1) css) wr) (hE6:Else (fun k=>k=wb∨(A.S k∨k=mb)) wr w6)
  {k6 B6 g7 c7:Nat} {ob:Obj} (hC6:ClM O w6 cb A st false n G kn nx col ro (f0+f+k6)) (hk6:k6≤168) (hf:f+168*D0.length≤168*(D.length+(S1.length+1))) (hW6:WkM w6 wb mb (upe e x false) (sp0+q+1) (m2+1)) (hq:q+payD (chR G kn ro) D0≤1+payD (chR G kn ro) D+(payS (S1.map fun x=>(x.1,x.2.1))+(2*k'+1))) (hm2:m2+2*D0.length≤m0+2*D.length+(S1.length+1)) (hen:e x=none) (hxn:x<n) (hx:(chR G kn ro rr)[k']? = some x)
  (hP6:w6.ownsRow B6 136 2 (slv P6) (chR G kn ro x).length (ptC cb (chR G kn ro x))) (hB6:wr.heap.size≤B6)
  (ho7:w7.ownsRow w0.heap.size 184 4 (.slice (some ⟨g7,0,none⟩) (S1.length+1+1) c7) (S1 ++ [(rr,k',P)] ++ [(x,0,P6)]).length (frs cb (S1 ++ [(rr,k',P)] ++ [(x,0,P6)]))) (hg7:(w6.alloc ob).grownBy w7 (some gs)) (hat:gs=g7∨g7=w6.heap.size+1):
  FrI O cb A st n G kn nx col ro wb mb T J w0 f0 sp0 m0 D0 (S1 ++ [(rr,k',P)] ++ [(x,0,P6)]) (upe e x false) D (.slice (some ⟨g7,0,none⟩) (S1.length+1+1) c7) w7:=by
 have hgs:w0.heap.size≤gs:=h.row_lt gs rfl
 have hgl:gs<wr.heap.size:=(h.row.lt gs rfl).2
 have hE7:Else (fun k=>k=gs) w6 w7:=(Else.alloc _ _ _).trans (Else.grown hg7 fun k hk=>by injection hk with hk;exact hk.symm)
 have hE67:Else (fun k=>k=gs∨(k=wb∨(A.S k∨k=mb))) wr w7:=(hE6.mono fun k hk=>.inr hk).trans (hE7.mono fun k hk=>.inl hk)
 have hEw:Else (fun k=>A.S k∨k=wb∨k=mb∨T k) w0 w7:=((h.els.mono fun k hk=>(.inl hk:(A.S k∨k=wb∨k=mb∨T k)∨k=gs)).trans (hE67.mono fun k hk=>by rcases hk with hk|hk|hk|hk;exact .inr hk;exact .inl (.inr (.inl hk));exact .inl (.inl hk);exact .inl (.inr (.inr (.inl hk))))).old fun k hk=>hk.imp id fun hk=>by omega
 have hs6:=hE6.size
 have hs7:=hE7.size
 have hmap:(S1 ++ [(rr,k',P)] ++ [(x,0,P6)]).map (fun x:Fr=>(x.1,x.2.1))=(S1 ++ [(rr,k',P)]).map (fun x:Fr=>(x.1,x.2.1)) ++ [(x,0)]:=by simp
 have hlen:(S1 ++ [(rr,k',P)] ++ [(x,0,P6)]).length=S1.length+2:=by simp
 refine ⟨⟨f+k6,?_,by rw [hlen];omega⟩,⟨q+1,m2+1,?_,?_,by rw [hlen];omega⟩,?_,?_,h.more,h.nd,h.dlt,?_,ho7,?_,?_,hEw⟩
 ·have e1:f0+((f+k6:Nat):Int)=f0+f+k6:=by push_cast;omega
  rw [e1]
  exact hC6.aside hE7 fun k hk he=>by have:=(X.ap k hk).1;omega
 ·have e1:sp0+((q+1:Nat):Int)=sp0+q+1:=by push_cast;omega
  rw [e1]
  exact hW6.keep hE7 (fun he=>by have:=X.wl;omega) (fun he=>by have:=X.ml;omega)
 ·rw [hmap,payS_app,payS_map]
  show q+1+_≤1+_+(payS (S1.map fun x=>(x.1,x.2.1))+(2*k'+1)+(2*0+1))
  omega
 ·rw [hmap]
  refine h.dfs.push (fun a ha=>?_) hen
  rw [List.map_append,List.map_singleton,List.getElem?_append_right (by simp)] at ha
  simp at ha
  subst ha
  exact hx
 ·rw [hmap]
  exact h.told.push hen
 ·intro s hs
  rcases List.mem_append.1 hs with hs|hs
  ·exact h.lt s hs
  ·obtain rfl:s=_:=by simpa using hs
   exact hxn
 ·intro s hs
  rcases List.mem_append.1 hs with hs|hs
  ·have h1:RdD (fun b=>(w0.heap.size≤b∧gs≠b)∧g7≠b) wr 2 (slv s.2.2) (chR G kn ro s.1).length (ptC cb (chR G kn ro s.1)):=(h.rows s hs).imp fun b hb hd=>by
    have h2:some gs≠some b:=hd.2
    have h4:gs≠b:=fun e=>h2 (by rw [e])
    refine ⟨⟨hd.1,h4⟩,?_⟩
    rcases hat with h3|h3<;>omega
   refine (h1.to hE67.size fun b hd hb=>hE67.block b hb fun hk=>?_).imp fun b _ hd=>⟨hd.1.1,fun e=>by have e:some g7=some b:=e;injection e with e;exact hd.2 e⟩
   rcases hk with hk|hk|hk|hk
   ·exact hd.1.2 hk.symm
   ·have:=X.wl;omega
   ·have:=(X.ap b (.inr (.inl hk))).1;omega
   ·have:=X.ml;omega
  ·obtain rfl:s=_:=by simpa using hs
   have h1:RdD (fun b=>(w0.heap.size≤b∧gs≠b)∧g7≠b) w6 2 (slv P6) (chR G kn ro x).length (ptC cb (chR G kn ro x)):=(RdD.of_own hP6 fun b hb=>hb).imp fun b hb hd=>by
    have hd:B6≤b:=hd
    have:=h.els.size
    refine ⟨⟨by omega,by omega⟩,?_⟩
    rcases hat with h3|h3<;>omega
   refine (h1.to hE7.size fun b hd hb=>hE7.block b hb fun hk=>hd.1.2 hk.symm).imp fun b _ hd=>⟨hd.1.1,fun e=>by have e:some g7=some b:=e;injection e with e;exact hd.2 e⟩
 ·exact X.js D true _ _ _ h.tl hE67 fun k hk hT=>by
   obtain ⟨t1,t2,t3,t4⟩:=X.td k hT
   rcases hk with hk|hk|hk|hk
   ·omega
   ·exact t2 hk
   ·exact t4 (.inr (.inl hk))
   ·exact t3 hk
theorem FrI.step (X:FxI w0 wb mb A cb T J) {L:Nat}{P1:Option Addr}{P3:Nat}(h:FrI O cb A st n G kn nx col ro wb mb T J w0 f0 sp0 m0 D0 (S1 ++ [(rr,k',(P1,L,P3))]) e D (.slice (some ⟨gs,0,none⟩) (S1.length+1) css) wr) (hE6:Else (fun k=>k=wb) wr w6)
  (hC6:ClM O w6 cb A st false n G kn nx col ro (f0+f)) (hf:f+168*D0.length≤168*(D.length+(S1.length+1))) (hW6:WkM w6 wb mb e (sp0+q+1) m2) (hq:q+payD (chR G kn ro) D0≤1+payD (chR G kn ro) D+(payS (S1.map fun x=>(x.1,x.2.1))+(2*k'+1))) (hm2:m2+2*D0.length≤m0+2*D.length+(S1.length+1)) (hx:(chR G kn ro rr)[k']? = some x) (het:e x=some true) {b:Nat} (hb:S1.length*4=b):
  FrI O cb A st n G kn nx col ro wb mb T J w0 f0 sp0 m0 D0 (S1 ++ [(rr,k'+1,(P1,L,P3))]) e D (.slice (some ⟨gs,0,none⟩) (S1.length+1) css) (w6.setCell ⟨gs,b+3,none⟩ (.int .i64 ((k':Int)+1))):=by
 have hgs:w0.heap.size≤gs:=h.row_lt gs rfl
 have hgl:gs<wr.heap.size:=(h.row.lt gs rfl).2
 have hE7:Else (fun k=>k=gs) w6 (w6.setCell ⟨gs,b+3,none⟩ (.int .i64 ((k':Int)+1))):=Un.Else.set (S:=fun k=>k=gs) w6 (p:=⟨gs,b+3,none⟩) rfl _
 have hrow6:=own_else h.row hE6 fun k hk he=>by have hk:some gs=some k:=hk;injection hk with hk;have he:k=wb:=he;have:=X.wl;omega
 have hlen0:(S1 ++ [(rr,k',((P1,L,P3):Sl))]).length=S1.length+1:=by simp
 have hlen:(S1 ++ [(rr,k'+1,((P1,L,P3):Sl))]).length=S1.length+1:=by simp
 have hrow7:=(show w6.ownsRow w0.heap.size 184 4 (.slice (some ⟨gs,0,none⟩) (S1.length+1) css) (S1.length+1) (frs cb (S1 ++ [(rr,k',(P1,L,P3))])) from by rw [hlen0] at hrow6;exact hrow6).stored (S1.length*4+3) (.int .i64 ((k':Int)+1))
 have hst:=frs_step cb S1 rr k' (P1,L,P3)
 have hcast:(((k'+1:Nat)):Int)=(k':Int)+1:=by push_cast;rfl
 rw [hcast] at hst
 rw [hst,hb] at hrow7
 have hE67:Else (fun k=>k=gs∨k=wb) wr (w6.setCell ⟨gs,b+3,none⟩ (.int .i64 ((k':Int)+1))):=(hE6.mono fun k hk=>.inr hk).trans (hE7.mono fun k hk=>.inl hk)
 have hEw:Else (fun k=>A.S k∨k=wb∨k=mb∨T k) w0 (w6.setCell ⟨gs,b+3,none⟩ (.int .i64 ((k':Int)+1))):=((h.els.mono fun k hk=>(.inl hk:(A.S k∨k=wb∨k=mb∨T k)∨k=gs)).trans (hE67.mono fun k hk=>by rcases hk with hk|hk;exact .inr hk;exact .inl (.inr (.inl hk)))).old fun k hk=>hk.imp id fun hk=>by omega
 have hm0:(S1 ++ [(rr,k',((P1,L,P3):Sl))]).map (fun x:Fr=>(x.1,x.2.1))=S1.map (fun x:Fr=>(x.1,x.2.1)) ++ [(rr,k')]:=by simp
 have hmap:(S1 ++ [(rr,k'+1,((P1,L,P3):Sl))]).map (fun x:Fr=>(x.1,x.2.1))=S1.map (fun x:Fr=>(x.1,x.2.1)) ++ [(rr,k'+1)]:=by simp
 have hdf:=h.dfs
 have htd:=h.told
 rw [hm0] at hdf htd
 refine ⟨⟨f,hC6.aside hE7 fun k hk he=>by have:=(X.ap k hk).1;omega,by rw [hlen];exact hf⟩,⟨q+1,m2,?_,?_,by rw [hlen];omega⟩,?_,?_,h.more,h.nd,h.dlt,?_,?_,?_,?_,hEw⟩
 ·have e1:sp0+((q+1:Nat):Int)=sp0+q+1:=by push_cast;omega
  rw [e1]
  exact hW6.keep hE7 (fun he=>by have:=X.wl;omega) (fun he=>by have:=X.ml;omega)
 ·rw [hmap,payS_app]
  show q+1+_≤1+_+(payS (S1.map fun x=>(x.1,x.2.1))+(2*(k'+1)+1))
  omega
 ·rw [hmap]
  exact hdf.step hx het
 ·rw [hmap]
  exact htd.step _
 ·intro s hs
  rcases List.mem_append.1 hs with hs|hs
  ·exact h.lt s (List.mem_append_left _ hs)
  ·obtain rfl:s=_:=by simpa using hs
   exact h.lt (rr,k',(P1,L,P3)) (by simp)
 ·rw [hlen]
  exact hrow7.1
 ·intro s hs
  have key:∀s:Fr,s∈S1 ++ [(rr,k',((P1,L,P3):Sl))]→RdD (fun b=>w0.heap.size≤b∧(Value.slice (some ⟨gs,0,none⟩) (S1.length+1) css).ownBlock≠some b) (w6.setCell ⟨gs,b+3,none⟩ (.int .i64 ((k':Int)+1))) 2 (slv s.2.2) (chR G kn ro s.1).length (ptC cb (chR G kn ro s.1)):=fun s hs=>by
   refine (h.rows s hs).to hE67.size fun b hd hb=>hE67.block b hb fun hk=>?_
   rcases hk with hk|hk
   ·exact hd.2 (by rw [hk];rfl)
   ·have:=X.wl;omega
  rcases List.mem_append.1 hs with hs|hs
  ·exact key s (List.mem_append_left _ hs)
  ·obtain rfl:s=_:=by simpa using hs
   exact key (rr,k',(P1,L,P3)) (by simp)
 ·exact X.js D true _ _ _ h.tl hE67 fun k hk hT=>by
   obtain ⟨t1,t2,t3,t4⟩:=X.td k hT
   rcases hk with hk|hk
   ·omega
   ·exact t2 hk
theorem FrI.pop (X:FxI w0 wb mb A cb T J) (h:FrI O cb A st n G kn nx col ro wb mb T J w0 f0 sp0 m0 D0 (S1 ++ [(rr,k',P)]) e D (.slice (some ⟨gs,0,none⟩) (S1.length+1) css) wr) (hE6:Else (fun k=>k=wb∨k=mb∨T k) wr w6)
  (hC6:ClM O w6 cb A st false n G kn nx col ro (f0+f)) (hf:f+168*D0.length≤168*(D.length+(S1.length+1))) (bb:Bool) (hW6:WkM w6 wb mb (upe e rr bb) (sp0+q) (m2+1)) (hq:q+payD (chR G kn ro) D0≤1+payD (chR G kn ro) D+payS (S1.map fun x=>(x.1,x.2.1))+(2*(chR G kn ro rr).length+1)) (hm2:m2+2*D0.length≤m0+2*D.length+(S1.length+1))
  (hb1:bb=true→Acc (Chl (chR G kn ro)) rr) (hb2:bb=false→¬ Acc (Chl (chR G kn ro)) rr) (g:Bool) (hJ:J (D ++ [(rr,bb)]) g w6):
  FrI O cb A st n G kn nx col ro wb mb T (fun D _ W=>J D g W) w0 f0 sp0 m0 D0 S1 (upe e rr bb) (D ++ [(rr,bb)]) (.slice (some ⟨gs,0,none⟩) S1.length css) w6:=by
 have hgs:w0.heap.size≤gs:=h.row_lt gs rfl
 have hgl:gs<wr.heap.size:=(h.row.lt gs rfl).2
 have hrow6:=own_else h.row hE6 fun k hk he=>by
  have hk:some gs=some k:=hk
  injection hk with hk
  rcases he with he|he|he
  ·have:=X.wl;omega
  ·have:=X.ml;omega
  ·have:=(X.td k he).1;omega
 have hlen0:(S1 ++ [(rr,k',P)]).length=S1.length+1:=by simp
 have hm0:(S1 ++ [(rr,k',P)]).map (fun x:Fr=>(x.1,x.2.1))=S1.map (fun x:Fr=>(x.1,x.2.1)) ++ [(rr,k')]:=by simp
 have hdf:=h.dfs
 have htd:=h.told
 rw [hm0] at hdf htd
 have hnew:=told_new htd
 have hEw:Else (fun k=>A.S k∨k=wb∨k=mb∨T k) w0 w6:=h.els.trans (hE6.mono fun k hk=>by rcases hk with hk|hk|hk;exact .inr (.inl hk);exact .inr (.inr (.inl hk));exact .inr (.inr (.inr hk)))
 refine ⟨⟨f,hC6,by rw [List.length_append,List.length_singleton];omega⟩,⟨q,m2+1,hW6,?_,by rw [List.length_append,List.length_singleton];omega⟩,hdf.pop bb hb1 hb2,htd.pop hdf bb,?_,?_,?_,fun s hs=>h.lt s (List.mem_append_left _ hs),?_,?_,hJ,hEw⟩
 ·rw [payD_app]
  show q+_≤1+(_+(2*(chR G kn ro rr).length+1))+_
  omega
 ·obtain ⟨Y,hY⟩:=h.more
  exact ⟨Y ++ [(rr,bb)],by rw [hY,List.append_assoc]⟩
 ·rw [List.map_append,List.nodup_append]
  refine ⟨h.nd,by simp,fun a ha b hb=>?_⟩
  obtain rfl:b=rr:=by simpa using hb
  obtain ⟨s,hs,rfl⟩:=List.mem_map.1 ha
  intro he
  exact hnew s.2 (by rw [←he];exact hs)
 ·intro y b hy
  rcases List.mem_append.1 hy with hy|hy
  ·exact h.dlt y b hy
  ·obtain ⟨rfl,rfl⟩:y=rr∧b=bb:=by simpa using hy
   exact h.lt (y,k',P) (by simp)
 ·refine pop_fr (x:=(rr,k',P)) ?_
  rw [hlen0] at hrow6 ⊢
  exact hrow6
 ·intro s hs
  refine ((h.rows s (List.mem_append_left _ hs)).to hE6.size fun b hd hb=>hE6.block b hb fun hk=>?_).imp fun b _ hd=>hd
  rcases hk with hk|hk|hk
  ·have:=X.wl;omega
  ·have:=X.ml;omega
  ·have:=(X.td b hk).1;omega
end CyDs
end
end Go.Proofs.YtmamdiggjghjkaaGreatDoor
