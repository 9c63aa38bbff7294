/- Texts of one proof, one behind the other. -/
import Derived.Test.YtmamdiggjghjkaaGreatDoorMgSolveOrder1
import Derived.Test.YtmamdiggjghjkaaGreatDoorRows
import Derived.Test.YtmamdiggjghjkaaGreatDoorMgSolveOrder11
import Derived.WalkKit
import Derived.WalkSpells
import Derived.WalkLawsBesides
import Derived.Lib.Hide
import Derived.OwnWalk
import Derived.Deep.QuietTactic
import Derived.BigQuiet
import Derived.WalkMore
import Derived.ScopeJumps
import Derived.BigRegion
import Derived.Deep.CutBlock
import Derived.Deep.DeepCutAuto
set_option linter.unusedVariables false
namespace Go.Proofs.YtmamdiggjghjkaaGreatDoor.Un
open Go.RowKit
structure Else (S:Nat→Prop) (w w':World):Prop where
 os:w'.os=w.os
 tape:w'.tape=w.tape
 output:w'.output=w.output
 size:w.heap.size≤w'.heap.size
 block:∀k,k<w.heap.size→¬ S k→w'.heap[k]? = w.heap[k]?
theorem Else.refl (S:Nat→Prop) (w:World):Else S w w:=⟨rfl,rfl,rfl,Nat.le_refl _,fun _ _ _=>rfl⟩
theorem Else.trans {S:Nat→Prop}{a b c:World}(h:Else S a b) (k:Else S b c):Else S a c:=
 ⟨k.os.trans h.os,k.tape.trans h.tape,k.output.trans h.output,Nat.le_trans h.size k.size,fun i hi hs=>(k.block i (Nat.lt_of_lt_of_le hi h.size) hs).trans (h.block i hi hs)⟩
theorem Else.mono {S T:Nat→Prop}{a b:World}(h:Else S a b) (hst:∀k,S k→T k):Else T a b:=
 ⟨h.os,h.tape,h.output,h.size,fun k hk ht=>h.block k hk fun hs=>ht (hst k hs)⟩
theorem Else.below {S:Nat→Prop}{a b:World}{B:Nat}(h:Else S a b) (hs:∀k,S k→B≤k) (hB:B≤a.heap.size):Below B a b:=
 ⟨h.os,h.tape,h.output,h.size,fun k hk=>h.block k (by omega) fun hx=>by have:=hs k hx;omega⟩
theorem Else.of_below {S:Nat→Prop}{a b:World}(h:Below a.heap.size a b):Else S a b:=
 ⟨h.os,h.tape,h.output,h.size,fun k hk _=>h.block k hk⟩
theorem Else.set {S:Nat→Prop}(w:World) {p:Addr}(hp:S p.block) (u:Value):Else S w (w.setCell p u):=
 ⟨rfl,rfl,rfl,by simp [World.setCell],fun k _ hs=>Below.heap_setCell _ _ _ _ (by rintro rfl;exact hs hp)⟩
theorem Else.alloc (S:Nat→Prop) (w:World) (o:Obj):Else S w (w.alloc o):=
 ⟨rfl,rfl,rfl,by simp,fun k hk _=>Below.heap_alloc _ _ _ hk⟩
theorem Else.grown {S:Nat→Prop}{w w':World}{row:Option Nat}(h:w.grownBy w' row) (hr:∀k,row=some k→S k):Else S w w':=
 ⟨h.os,h.tape,h.output,h.size,fun k hk hs=>h.block k hk fun e=>hs (hr k e.symm)⟩
def rowI (n:Nat) (f:Nat→Nat):List Value:=(List.range n).map fun k=>Value.int .i64 (f k:Int)
theorem rowI_len (n:Nat) (f:Nat→Nat):(rowI n f).length=n:=by simp [rowI]
theorem rowI_get {n:Nat}{f:Nat→Nat}{k:Nat}(h:k<n):(rowI n f)[k]? = some (.int .i64 (f k:Int)):=by simp [rowI,h]
theorem rowI_set {n:Nat}{f:Nat→Nat}{i:Nat}(v:Nat):(rowI n f).set i (.int .i64 (v:Int))=rowI n (upd f i v):=by
 apply List.ext_getElem?
 intro k
 rw [List.getElem?_set,rowI_len]
 by_cases hk:k<n
 ·rw [rowI_get hk,rowI_get hk]
  by_cases e:i=k
  ·subst e;rw [if_pos rfl,if_pos hk,upd_same]
  ·rw [if_neg e,upd_other _ _ (Ne.symm e)]
 ·rw [List.getElem?_eq_none (by rw [rowI_len];omega),List.getElem?_eq_none (by rw [rowI_len];omega)]
  split
  ·rw [if_neg (by omega)]
  ·rfl
theorem rowI_snoc (n:Nat) (f:Nat→Nat):rowI (n+1) f=rowI n f ++ [.int .i64 (f n:Int)]:=by
 simp [rowI,List.range_succ]
theorem rowI_congr {n:Nat}{f g:Nat→Nat}(h:∀k,k<n→f k=g k):rowI n f=rowI n g:=by
 unfold rowI
 apply List.map_congr_left
 intro k hk
 rw [h k (List.mem_range.1 hk)]
structure FM (S:Nat→Prop) (w:World) (b n:Nat) (A Z X:Value) (par sz nx:Nat→Nat) (sets steps:Int):Prop where
 blk:w.heap[b]? = some (Obj.cells #[A,Z,X,.int .i64 sets,.int .i64 steps] 230)
 sb:S b
 ra:w.ownsRow 0 3 1 A n (rowI n par)
 rz:w.ownsRow 0 3 1 Z n (rowI n sz)
 rx:w.ownsRow 0 3 1 X n (rowI n nx)
 sa:∀k,A.ownBlock=some k→S k∧Z.ownBlock≠some k∧X.ownBlock≠some k
 sz_:∀k,Z.ownBlock=some k→S k∧X.ownBlock≠some k
 sx:∀k,X.ownBlock=some k→S k
theorem own_shape {w:World}{base:Nat}{e:TypeId}{size:Nat}{v:Value}{n:Nat}{xs:List Value}(h:w.ownsRow base e size v n xs) (hn:0<n):∃g c,v = .slice (some ⟨g,0,none⟩) n c∧n≤c∧g<w.heap.size:=by
 rcases h.2 with ⟨_,h0⟩|⟨g,cap,cur,hv,_,hh,hc,_⟩
 ·omega
 ·exact ⟨g,cap,hv,hc,(gL hh).1⟩
section
variable {S:Nat→Prop}{w:World}{b n:Nat}{A Z X:Value}{par sz nx:Nat→Nat}{sets steps:Int}
theorem FM.lt (h:FM S w b n A Z X par sz nx sets steps):b<w.heap.size:=(gL h.blk).1
theorem FM.cells (h:FM S w b n A Z X par sz nx sets steps):w.cell? ⟨b,0,none⟩=some A∧w.cell? ⟨b,1,none⟩=some Z∧w.cell? ⟨b,2,none⟩=some X∧w.cell? ⟨b,3,none⟩=some (.int .i64 sets)∧w.cell? ⟨b,4,none⟩=some (.int .i64 steps):=
 ⟨cell_of_row w b 0 _ _ _ h.blk,cell_of_row w b 1 _ _ _ h.blk,cell_of_row w b 2 _ _ _ h.blk,cell_of_row w b 3 _ _ _ h.blk,cell_of_row w b 4 _ _ _ h.blk⟩
theorem FM.frozen (h:FM S w b n A Z X par sz nx sets steps) (off:Nat):w.frozen? ⟨b,off,none⟩=false:=by simp [World.frozen?,h.blk]
theorem row_ne {v:Value}{m:Nat}{xs:List Value}{T T':TypeId}{cs:Array Value}(h:w.ownsRow 0 T 1 v m xs) (hb:w.heap[b]? = some (Obj.cells cs T')) (hne:T≠T'):v.ownBlock≠some b:=by
 intro e
 rcases h.2 with ⟨rfl,_⟩|⟨g,cap,cur,rfl,_,hg,_⟩
 ·cases e
 ·injection e with e
  have e:g=b:=e
  subst e
  rw [hg] at hb
  injection hb with hb
  injection hb with _ hb _
  exact hne hb
theorem FM.keep {S':Nat→Prop}{w':World}(h:FM S w b n A Z X par sz nx sets steps) (he:Else S' w w') (hd:∀k,S k→¬ S' k):FM S w' b n A Z X par sz nx sets steps:=by
 have hr:∀ {v:Value} {f:Nat→Nat},w.ownsRow 0 3 1 v n (rowI n f)→(∀k,v.ownBlock=some k→S k)→w'.ownsRow 0 3 1 v n (rowI n f):=by
  intro v f ho hs
  refine ⟨ho.1,?_⟩
  rcases ho.2 with h2|⟨g,cap,cur,hv,hg,hh,r⟩
  ·exact .inl h2
  ·exact .inr ⟨g,cap,cur,hv,hg,(he.block g (gL hh).1 (hd g (hs g (by rw [hv];rfl)))).trans hh,r⟩
 exact ⟨(he.block b h.lt (hd b h.sb)).trans h.blk,h.sb,hr h.ra fun k hk=>(h.sa k hk).1,hr h.rz fun k hk=>(h.sz_ k hk).1,hr h.rx h.sx,h.sa,h.sz_,h.sx⟩
theorem FM.rows_set (h:FM S w b n A Z X par sz nx sets steps) (off:Nat) (u:Value):(w.setCell ⟨b,off,none⟩ u).ownsRow 0 3 1 A n (rowI n par)∧(w.setCell ⟨b,off,none⟩ u).ownsRow 0 3 1 Z n (rowI n sz)∧(w.setCell ⟨b,off,none⟩ u).ownsRow 0 3 1 X n (rowI n nx):=
 ⟨ownsRow_setCell_other h.ra (row_ne h.ra h.blk (by decide)) u,ownsRow_setCell_other h.rz (row_ne h.rz h.blk (by decide)) u,ownsRow_setCell_other h.rx (row_ne h.rx h.blk (by decide)) u⟩
theorem FM.set3 (h:FM S w b n A Z X par sz nx sets steps) (s':Int):FM S (w.setCell ⟨b,3,none⟩ (.int .i64 s')) b n A Z X par sz nx s' steps:=
 ⟨heap_setCell_same w b 3 _ _ _ h.blk,h.sb,(h.rows_set 3 _).1,(h.rows_set 3 _).2.1,(h.rows_set 3 _).2.2,h.sa,h.sz_,h.sx⟩
theorem FM.set4 (h:FM S w b n A Z X par sz nx sets steps) (s':Int):FM S (w.setCell ⟨b,4,none⟩ (.int .i64 s')) b n A Z X par sz nx sets s':=
 ⟨heap_setCell_same w b 4 _ _ _ h.blk,h.sb,(h.rows_set 4 _).1,(h.rows_set 4 _).2.1,(h.rows_set 4 _).2.2,h.sa,h.sz_,h.sx⟩
theorem blk_set {g:Nat}(h:FM S w b n A Z X par sz nx sets steps) (hg:b≠g) (i:Nat) (u:Value):(w.setCell ⟨g,i,none⟩ u).heap[b]? = some (Obj.cells #[A,Z,X,.int .i64 sets,.int .i64 steps] 230):=
 (Below.heap_setCell _ _ _ _ (by simpa using hg)).trans h.blk
theorem FM.setA {ga c:Nat}(h:FM S w b n (.slice (some ⟨ga,0,none⟩) n c) Z X par sz nx sets steps) (i v:Nat):FM S (w.setCell ⟨ga,i,none⟩ (.int .i64 v)) b n (.slice (some ⟨ga,0,none⟩) n c) Z X (upd par i v) sz nx sets steps:=by
 have hs:=h.sa ga rfl
 refine ⟨blk_set h (fun e=>row_ne h.ra h.blk (by decide) (by rw [e];rfl)) i _,h.sb,?_,ownsRow_setCell_other h.rz hs.2.1 _,ownsRow_setCell_other h.rx hs.2.2 _,h.sa,h.sz_,h.sx⟩
 rw [←rowI_set]
 exact (h.ra.stored i _).1
theorem FM.setZ {ga c:Nat}(h:FM S w b n A (.slice (some ⟨ga,0,none⟩) n c) X par sz nx sets steps) (i v:Nat):FM S (w.setCell ⟨ga,i,none⟩ (.int .i64 v)) b n A (.slice (some ⟨ga,0,none⟩) n c) X par (upd sz i v) nx sets steps:=by
 have hs:=h.sz_ ga rfl
 refine ⟨blk_set h (fun e=>row_ne h.rz h.blk (by decide) (by rw [e];rfl)) i _,h.sb,ownsRow_setCell_other h.ra (fun e=>(h.sa ga e).2.1 rfl) _,?_,ownsRow_setCell_other h.rx hs.2 _,h.sa,h.sz_,h.sx⟩
 rw [←rowI_set]
 exact (h.rz.stored i _).1
theorem FM.setX {ga c:Nat}(h:FM S w b n A Z (.slice (some ⟨ga,0,none⟩) n c) par sz nx sets steps) (i v:Nat):FM S (w.setCell ⟨ga,i,none⟩ (.int .i64 v)) b n A Z (.slice (some ⟨ga,0,none⟩) n c) par sz (upd nx i v) sets steps:=by
 refine ⟨blk_set h (fun e=>row_ne h.rx h.blk (by decide) (by rw [e];rfl)) i _,h.sb,ownsRow_setCell_other h.ra (fun e=>(h.sa ga e).2.2 rfl) _,ownsRow_setCell_other h.rz (fun e=>(h.sz_ ga e).2 rfl) _,?_,h.sa,h.sz_,h.sx⟩
 rw [←rowI_set]
 exact (h.rx.stored i _).1
end
end Go.Proofs.YtmamdiggjghjkaaGreatDoor.Un
namespace Go.Proofs.YtmamdiggjghjkaaGreatDoor.Un
open Go.RowKit
set_option maxRecDepth 100000 in
theorem len_any {S:Nat→Prop}{w:World}{b n:Nat}{A Z X:Value}{par sz nx:Nat→Nat}{sets steps:Int}(h:FM S w b n A Z X par sz nx sets steps):
  Calls Tryz.prog 188 #[.pointer (some ⟨b,0,none⟩)] w fun e w'=>e = .returned (.int .i64 n)∧w'=w:=by
 obtain ⟨c0,c1,c2,c3,c4⟩:=h.cells
 have hl:=h.lt
 obtain ⟨A',c,rfl⟩:∃A' c,A = .slice A' n c:=by
  rcases h.ra.2 with ⟨hv,hn⟩|⟨g,cap,cur,hv,_⟩
  ·exact ⟨none,0,by rw [hv,hn]⟩
  ·exact ⟨_,_,hv⟩
 clear h
 go_enter Tryz.func188,Tryz.ntmps188
 go_wp2_with fail
 go_ret
 exact ⟨rfl,rfl⟩
set_option maxRecDepth 100000 in
theorem steps_any {S:Nat→Prop}{w:World}{b n:Nat}{A Z X:Value}{par sz nx:Nat→Nat}{sets steps:Int}(h:FM S w b n A Z X par sz nx sets steps):
  Calls Tryz.prog 149 #[.pointer (some ⟨b,0,none⟩)] w fun e w'=>e = .returned (.int .i64 steps)∧w'=w:=by
 obtain ⟨c0,c1,c2,c3,c4⟩:=h.cells
 have hl:=h.lt
 clear h
 go_enter Tryz.func149,Tryz.ntmps149
 go_wp2_with fail
 go_ret
 exact ⟨rfl,rfl⟩
set_option maxRecDepth 100000 in
theorem has_any {S:Nat→Prop}{w:World}{b n:Nat}{A Z X:Value}{par sz nx:Nat→Nat}{sets steps:Int}(h:FM S w b n A Z X par sz nx sets steps) (i:Int):
  Calls Tryz.prog 176 #[.pointer (some ⟨b,0,none⟩),.int .i64 i] w fun e w'=>e = .returned (.bool (decide (0≤i∧i<n)))∧w'=w:=by
 by_cases hi:0≤i
 ·have f1:decide (0≤i)=true:=decide_eq_true hi
  go_enter Tryz.func176,Tryz.ntmps176
  go_wp2_with fail
  refine (len_any h).mono ?_
  rintro e w' ⟨rfl,rfl⟩
  go_wp2_with fail
  go_ret
  exact ⟨by simp [hi],rfl⟩
 ·have f1:decide (0≤i)=false:=decide_eq_false hi
  go_enter Tryz.func176,Tryz.ntmps176
  go_wp2_with fail
  go_ret
  exact ⟨rfl,rfl⟩
theorem wp_scope_from {P:Program}{a:Act}{w:World}{Q:Exit→Act→World→Prop}{r:Code}(l:Nat) (J:Act→World→Prop) (μ:Act→World→Nat)
  (h0:J a w) (pass:∀a w,J a w→r.wp P (Exit.jump l (fun a' w'=>J a' w'∧μ a' w'<μ a w) Q) a w):(Code.scope ((Code.label l).seq r)).wp P Q a w:=by
 refine wp_scope_jumps l J μ (rest:=Code.skip.seq r) (by simp [findLabel]) (wp_seq (wp_label ?_)) fun a w h=>wp_seq (wp_skip ?_)
 ·refine wp_mono (pass a w h0) fun e a' w' h=>?_
  cases e<;>first|exact h|exact ⟨h.1,h.2.1⟩
 ·refine wp_mono (pass a w h) fun e a' w' h=>?_
  cases e<;>exact h
def slotN:Value→Nat
 | .int _ q=>q.toNat
 | _=>0
def SearchPost (S:Nat→Prop) (w:World) (b n:Nat) (A Z X:Value) (par sz nx col rk:Nat→Nat) (sets steps:Int) (i:Nat) (e:Ending) (w':World):Prop:=
 ∃(par':Nat→Nat) (r k:Nat),e = .returned (.int .i64 r)∧r<n∧par' r=r∧col r=col i∧(∀j,j<n→(par' j=j↔par j=j))∧UFr n par' sz col rk∧FM S w' b n A Z X par' sz nx sets (steps+k)∧2 ^ k≤2*n∧Else S w w'
set_option maxRecDepth 100000 in
theorem search_any {S:Nat→Prop}{w:World}{b n:Nat}{A Z X:Value}{par sz nx col rk:Nat→Nat}{sets steps:Int}(h:FM S w b n A Z X par sz nx sets steps) (u:UFr n par sz col rk) (hn:n≤1048576) (hst:0≤steps∧steps≤1000000000000000) (i:Nat) (hi:i<n):
  Calls Tryz.prog 177 #[.pointer (some ⟨b,0,none⟩),.int .i64 i] w (SearchPost S w b n A Z X par sz nx col rk sets steps i):=by
 go_enter Tryz.func177,Tryz.ntmps177
 go_wp2
 refine wp_scope_from 0 (fun a' w'=>∃(c:Nat) (par':Nat→Nat) (k:Nat) (u5 u6 u7 u8 u9 u10 u11 u12 u13 u14 u15 u16 u17 u18 u19 u20 u21 u22 u23 u24 u25 u26 u27 u28 u29 u30 u31 u32 u33 u34 u35 u36 u37 u38 u39:Value),a' = { tmps:=#[.pointer (some ⟨b,0,none⟩),.int .i64 c,undef,undef,.int .i64 0,u5,u6,u7,u8,u9,u10,u11,u12,u13,u14,u15,u16,u17,u18,u19,u20,u21,u22,u23,u24,u25,u26,u27,u28,u29,u30,u31,u32,u33,u34,u35,u36,u37,u38,u39],defers:=[] }∧
  c<n∧col c=col i∧(∀j,j<n→(par' j=j↔par j=j))∧UFr n par' sz col rk∧FM S w' b n A Z X par' sz nx sets (steps+k)∧rk i+k≤rk c∧Else S w w') (fun a' _=>(1048577-rk (slotN (a'.tmps.getD 1 undef)))) ?_ ?_
 ·exact ⟨i,par,0,_,_,_,_,_,_,_,_,_,_,_,_,_,_,_,_,_,_,_,_,_,_,_,_,_,_,_,_,_,_,_,_,_,_,_,rfl,hi,rfl,fun _ _=>Iff.rfl,u,by simpa using h,Nat.le_refl _,Else.refl _ _⟩
 ·rintro a' w' ⟨c,par',k,u5,u6,u7,u8,u9,u10,u11,u12,u13,u14,u15,u16,u17,u18,u19,u20,u21,u22,u23,u24,u25,u26,u27,u28,u29,u30,u31,u32,u33,u34,u35,u36,u37,u38,u39,rfl,hc,hcol,hroots,u',h',hk,he⟩
  obtain ⟨c0,c1,c2,c3,c4⟩:=h'.cells
  have hl:=h'.lt
  obtain ⟨ga,ca,rfl,hga,hgl⟩:=own_shape h'.ra (by omega)
  have r1:w'.cell? ⟨ga,c,none⟩=some (.int .i64 (par' c)):=(h'.ra.cellAt c (by omega)).trans (rowI_get hc)
  have hp:=u'.lt c hc
  have r2:w'.cell? ⟨ga,par' c,none⟩=some (.int .i64 (par' (par' c))):=(h'.ra.cellAt (par' c) (by omega)).trans (rowI_get hp)
  have hgb:ga≠b:=fun e=>row_ne h'.ra h'.blk (by decide) (by rw [e];rfl)
  have hz:w'.frozen? ⟨b,4,none⟩=false:=h'.frozen 4
  have hz2:w'.frozen? ⟨ga,c,none⟩=false:=h'.ra.frozenAt c
  have hb:=u'.small c hc
  have hkk:2 ^ (k+1)≤2*n:=Nat.le_trans (Nat.pow_le_pow_right (by omega) (show k+1≤rk c+1 by omega)) (by rw [Nat.pow_succ];omega)
  have hk20:k≤20:=by
   have h1:2 ^ k≤n:=by rw [Nat.pow_succ] at hkk;omega
   refine Nat.le_of_not_lt fun hx=>?_
   have:2 ^ 21≤2 ^ k:=Nat.pow_le_pow_right (by omega) hx
   omega
  have hS1:=h'.set4 (steps+(k:Int)+1)
  have hE1:=he.trans (Else.set w' (p:=⟨b,4,none⟩) h'.sb (.int .i64 (steps+(k:Int)+1)))
  have hsga:S ga:=(h'.sa ga rfl).1
  go_wp2
  ·rename_i hne
   go_step3
   have hne2:par' (par' c)≠par' c:=fun e=>by rw [e] at hne;simp at hne
   obtain ⟨q1,q2,q3⟩:=u'.halve hc hne2
   refine ⟨rfl,⟨par' (par' c),upd par' c (par' (par' c)),k+1,_,_,_,_,_,_,_,_,_,_,_,_,_,_,_,_,_,_,_,_,_,_,_,_,_,_,_,_,_,_,_,_,_,_,_,rfl,u'.lt _ hp,?_,fun j hj=>(q2 j hj).trans (hroots j hj),q1,?_,by omega,hE1.trans (Else.set _ hsga _)⟩,?_⟩
   ·rw [u'.colp _ hp,u'.colp _ hc];exact hcol
   ·rw [show steps+((k+1:Nat):Int)=steps+(k:Int)+1 by omega];exact hS1.setA c (par' (par' c))
   ·have:=u'.small (par' (par' c)) (u'.lt _ hp)
    have hx:rk (par' (par' c))<1048577:=Nat.lt_of_lt_of_le (Nat.lt_two_pow_self) (by omega)
    show 1048577-rk (par' (par' c))<1048577-rk c
    omega
  ·rename_i heq
   have heq2:par' (par' c)=par' c:=by
    refine Classical.byContradiction fun hx=>?_
    have hx2:(↑(par' (par' c)):Int)≠↑(par' c):=by omega
    simp [hx2] at heq
   simp only [Exit.jump]
   go_ret
   exact ⟨par',par' c,k+1,rfl,hp,heq2,(u'.colp _ hc).trans hcol,hroots,u',(by rw [show steps+((k+1:Nat):Int)=steps+(k:Int)+1 by omega];exact hS1),hkk,hE1⟩
end Go.Proofs.YtmamdiggjghjkaaGreatDoor.Un
namespace Go.Proofs.YtmamdiggjghjkaaGreatDoor.Un
open Go.RowKit
def UFo (S:Nat→Prop) (w:World) (b n:Nat) (col ro:Nat→Nat) (steps:Int):Prop:=
 ∃(A Z X:Value) (par sz nx rk:Nat→Nat),FM S w b n A Z X par sz nx (cnt n col:Nat) steps∧UFr n par sz col rk∧Rings n nx col∧n≤1048576∧∀i,i<n→ro i<n∧par (ro i)=ro i∧col (ro i)=col i
theorem UFo.keep {S S':Nat→Prop}{w w':World}{b n:Nat}{col ro:Nat→Nat}{steps:Int}(h:UFo S w b n col ro steps) (he:Else S' w w') (hd:∀k,S k→¬ S' k):UFo S w' b n col ro steps:=by
 obtain ⟨A,Z,X,par,sz,nx,rk,h1,h2⟩:=h
 exact ⟨A,Z,X,par,sz,nx,rk,h1.keep he hd,h2⟩
theorem UFo.below {S:Nat→Prop}{w w':World}{b n:Nat}{col ro:Nat→Nat}{steps:Int}(h:UFo S w b n col ro steps) (hb:Below w.heap.size w w'):UFo S w' b n col ro steps:=
 h.keep (Else.of_below (S:=fun _=>False) hb) fun _ _=>id
theorem UFo.ker {S:Nat→Prop}{w:World}{b n:Nat}{col d ro:Nat→Nat}{steps:Int}(h:UFo S w b n col ro steps) (k:Ker n col d):UFo S w b n d ro steps:=by
 obtain ⟨A,Z,X,par,sz,nx,rk,h1,h2,h3,h4,h5⟩:=h
 exact ⟨A,Z,X,par,sz,nx,rk,k.cnt ▸ h1,h2.ker k,h3.ker k,h4,fun i hi=>⟨(h5 i hi).1,(h5 i hi).2.1,(k _ _ (h5 i hi).1 hi).1 (h5 i hi).2.2⟩⟩
def dg (n:Nat):Nat:=Nat.log2 n+1
theorem dg_of {n k:Nat}(hn:0<n) (h:2 ^ k≤2*n):k≤dg n:=by
 unfold dg
 cases k with
 | zero=>omega
 | succ k=>
  rw [Nat.pow_succ] at h
  have:=(Nat.le_log2 (n:=n) (k:=k) (by omega)).2 (by omega)
  omega
theorem dg_le {n:Nat}(h:n≤1048576):dg n≤21:=by
 unfold dg
 by_cases h0:n=0
 ·subst h0;decide
 ·have:¬ (21≤Nat.log2 n):=fun hx=>by
   have:=(Nat.le_log2 (n:=n) (k:=21) h0).1 hx
   omega
  omega
theorem cnt_le (n:Nat) (col:Nat→Nat):cnt n col≤n:=by
 have:=List.countP_le_length (p:=fst_ col) (l:=List.range n)
 rw [cnt_eq];simpa using this
theorem paint_same {col:Nat→Nat}{a b:Nat}(h:col a=col b):paint col a b=col:=by
 funext k
 unfold paint
 split
 ·rename_i e;rw [h,e]
 ·rfl
theorem search_uf {S:Nat→Prop}{w:World}{b n:Nat}{col ro:Nat→Nat}{steps:Int}(h:UFo S w b n col ro steps) (hst:0≤steps∧steps≤100000000000000) (i:Nat) (hi:i<n):
  Calls Tryz.prog 177 #[.pointer (some ⟨b,0,none⟩),.int .i64 i] w fun e w'=>∃k:Nat,e = .returned (.int .i64 (ro i:Nat))∧k≤dg n∧UFo S w' b n col ro (steps+k)∧Else S w w':=by
 obtain ⟨A,Z,X,par,sz,nx,rk,h1,h2,h3,h4,h5⟩:=h
 refine (search_any h1 h2 h4 (by omega) i hi).mono ?_
 rintro e w2 ⟨par',r,k,rfl,hr,pr,hc,hroots,u',h',hk,he⟩
 obtain ⟨g1,g2,g3⟩:=h5 i hi
 have hro:r=ro i:=u'.root r (ro i) hr g1 pr ((hroots _ g1).2 g2) (hc.trans g3.symm)
 subst hro
 exact ⟨k,rfl,dg_of (by omega) hk,⟨A,Z,X,par',sz,nx,rk,h',u',h3,h4,fun j hj=>⟨(h5 j hj).1,(hroots _ (h5 j hj).1).2 (h5 j hj).2.1,(h5 j hj).2.2⟩⟩,he⟩
theorem has_uf {S:Nat→Prop}{w:World}{b n:Nat}{col ro:Nat→Nat}{steps:Int}(h:UFo S w b n col ro steps) (i:Int):
  Calls Tryz.prog 176 #[.pointer (some ⟨b,0,none⟩),.int .i64 i] w fun e w'=>e = .returned (.bool (decide (0≤i∧i<n)))∧w'=w:=by
 obtain ⟨A,Z,X,par,sz,nx,rk,h1,_⟩:=h
 exact has_any h1 i
set_option maxRecDepth 100000 in
theorem root_in {S:Nat→Prop}{w:World}{b n:Nat}{col ro:Nat→Nat}{steps:Int}(h:UFo S w b n col ro steps) (hst:0≤steps∧steps≤100000000000000) (i:Nat) (hi:i<n):
  Calls Tryz.prog 159 #[.pointer (some ⟨b,0,none⟩),.int .i64 i] w fun e w'=>∃k:Nat,e = .returned (.tuple #[.int .i64 (ro i:Nat),.bool true])∧k≤dg n∧UFo S w' b n col ro (steps+k)∧Else S w w':=by
 have HH:=has_uf h (i:Int)
 rw [decide_eq_true (show (0:Int)≤(i:Int)∧(i:Int)<(n:Int) by omega)] at HH
 have HS:=search_uf h hst i hi
 clear h
 go_enter Tryz.func159,Tryz.ntmps159
 go_wp2_with fail
 refine HH.mono ?_
 rintro e w' ⟨rfl,rfl⟩
 go_wp2_with fail
 refine HS.mono ?_
 rintro e w2 ⟨k,rfl,hk,h',he⟩
 have HF:=kI (aI hk (aI h' he))
 clear hk h' he
 go_wp2_with fail
 go_ret2
 exact ⟨k,rfl,HF.out⟩
end Go.Proofs.YtmamdiggjghjkaaGreatDoor.Un
namespace Go.Proofs.YtmamdiggjghjkaaGreatDoor.Un
open Go.RowKit
theorem Ker.symm {n:Nat}{c d:Nat→Nat}(h:Ker n c d):Ker n d c:=fun i j hi hj=>(h i j hi hj).symm
def JoinPost2 (S:Nat→Prop) (w:World) (b n:Nat) (col ro:Nat→Nat) (steps:Int) (x y:Nat) (e:Ending) (w':World):Prop:=
 ∃(r k:Nat) (ro':Nat→Nat),e = .returned (.tuple #[.int .i64 r,.bool (!(col x == col y))])∧r<n∧(∀i,i<n→ro' i=if paint col x y i=paint col x y r then r else ro i)∧(col r=col x∨col r=col y)∧k≤2*dg n∧UFo S w' b n (paint col x y) ro' (steps+k)∧Else S w w'
theorem UFo.idem {S:Nat→Prop}{w:World}{b n:Nat}{col ro:Nat→Nat}{steps:Int}(h:UFo S w b n col ro steps) {i:Nat}(hi:i<n):ro (ro i)=ro i:=by
 obtain ⟨_,_,_,_,_,_,_,_,h2,_,_,h5⟩:=h
 obtain ⟨a1,a2,a3⟩:=h5 i hi
 obtain ⟨b1,b2,b3⟩:=h5 _ a1
 exact h2.root _ _ b1 a1 b2 a2 b3
theorem UFo.uniq {S:Nat→Prop}{w:World}{b n:Nat}{col ro:Nat→Nat}{steps:Int}(h:UFo S w b n col ro steps) {i j:Nat}(hi:i<n) (hj:j<n) (e:col i=col j):ro i=ro j:=by
 obtain ⟨_,_,_,_,_,_,_,_,h2,_,_,h5⟩:=h
 obtain ⟨a1,a2,a3⟩:=h5 i hi
 obtain ⟨b1,b2,b3⟩:=h5 j hj
 exact h2.root _ _ a1 b1 a2 b2 (by rw [a3,b3,e])
theorem join_fin {S:Nat→Prop}{w:World}{b n:Nat}{col ro:Nat→Nat}{steps:Int}{A Z X:Value}{par sz nx rk:Nat→Nat}{x y r o:Nat}
  (h2:UFr n par sz col rk) (h3:Rings n nx col) (h4:n≤1048576)
  (h5:∀i,i<n→ro i<n∧par (ro i)=ro i∧col (ro i)=col i) (hr:r<n) (ho:o<n) (pr:par r=r) (po:par o=o) (hne:r≠o) (hs:sz o≤sz r)
  (hxy:(col r=col x∧col o=col y)∨(col r=col y∧col o=col x))
  (h1:FM S w b n A Z X (upd par o r) (upd sz r (sz r+sz o)) (upd (upd nx r (nx o)) o (nx r)) ((cnt n col:Nat)-1) steps):
  UFo S w b n (paint col x y) (fun i=>if paint col x y i=paint col x y r then r else ro i) steps:=by
 have hcne:col r≠col o:=fun e=>hne (h2.root _ _ hr ho pr po e)
 have hj:=h2.join hr ho pr po hne hs
 have hg:=h3.join hr ho hcne
 have hct:=cnt_paint hr ho hcne
 have hK:Ker n (paint col r o) (paint col x y):=(paint_ker hxy).symm
 refine ⟨A,Z,X,upd par o r,upd sz r (sz r+sz o),swp nx r o,upd rk r (max (rk r) (rk o+1)),?_,hj.ker hK,hg.ker hK,h4,?_⟩
 ·have e:((cnt n (paint col x y):Nat):Int)=(cnt n col:Nat)-1:=by rw [←hK.cnt];omega
  rw [e]
  exact h1
 ·intro i hi
  have prr:upd par o r r=r:=by rw [upd_other _ _ hne];exact pr
  by_cases e:paint col x y i=paint col x y r
  ·simp only [if_pos e]
   exact ⟨hr,prr,e.symm⟩
  ·simp only [if_neg e]
   obtain ⟨g1,g2,g3⟩:=h5 i hi
   have hio:ro i≠o:=fun eo=>e (by
    rw [paint_eq]
    rw [eo] at g3
    rcases hxy with ⟨q1,q2⟩|⟨q1,q2⟩
    ·exact .inr ⟨.inr (g3.symm.trans q2),.inl q1⟩
    ·exact .inr ⟨.inl (g3.symm.trans q2),.inr q1⟩)
   refine ⟨g1,by rw [upd_other _ _ hio];exact g2,?_⟩
   rw [paint_eq];exact .inl g3
theorem Else.drew {S:Nat→Prop}{a w:World}(h:Else S a w):Else S a w.drew:=⟨h.os,h.tape,h.output,h.size,h.block⟩
theorem FM.drew {S:Nat→Prop}{w:World}{b n:Nat}{A Z X:Value}{par sz nx:Nat→Nat}{sets steps:Int}(h:FM S w b n A Z X par sz nx sets steps):FM S w.drew b n A Z X par sz nx sets steps:=
 ⟨h.blk,h.sb,h.ra,h.rz,h.rx,h.sa,h.sz_,h.sx⟩
theorem wp_world {P:Program}{c:Code}{Q:Exit→Act→World→Prop}{a:Act}{W:World}(R:World→Prop) (h:R W) (k:∀Z,R Z→Code.wp P c Q a Z):Code.wp P c Q a W:=k W h
theorem search_ex {S:Nat→Prop}{w:World}{b n:Nat}{A Z X:Value}{par sz nx col rk ro:Nat→Nat}{sets steps:Int}(h:FM S w b n A Z X par sz nx sets steps) (u:UFr n par sz col rk) (hn:n≤1048576) (hst:0≤steps∧steps≤1000000000000000)
  (h5:∀i,i<n→ro i<n∧par (ro i)=ro i∧col (ro i)=col i) (i:Nat) (hi:i<n):
  Calls Tryz.prog 177 #[.pointer (some ⟨b,0,none⟩),.int .i64 i] w fun e w'=>∃(par':Nat→Nat) (k:Nat),e = .returned (.int .i64 (ro i:Nat))∧k≤dg n∧FM S w' b n A Z X par' sz nx sets (steps+k)∧UFr n par' sz col rk∧
   (∀i,i<n→ro i<n∧par' (ro i)=ro i∧col (ro i)=col i)∧Else S w w':=by
 refine (search_any h u hn hst i hi).mono ?_
 rintro e w2 ⟨par',r,k,rfl,hr,pr,hc,hroots,u',h',hk,he⟩
 obtain ⟨g1,g2,g3⟩:=h5 i hi
 have hro:r=ro i:=u'.root r (ro i) hr g1 pr ((hroots _ g1).2 g2) (hc.trans g3.symm)
 subst hro
 exact ⟨par',k,rfl,dg_of (by omega) hk,h',u',fun j hj=>⟨(h5 j hj).1,(hroots _ (h5 j hj).1).2 (h5 j hj).2.1,(h5 j hj).2.2⟩,he⟩
set_option maxRecDepth 100000 in
set_option maxHeartbeats 1000000 in
theorem join_eq {S:Nat→Prop}{w:World}{b n:Nat}{A Z X:Value}{par sz nx col rk ro:Nat→Nat}{steps:Int}(h1:FM S w b n A Z X par sz nx (cnt n col:Nat) steps) (h2:UFr n par sz col rk) (h3:Rings n nx col) (hn:n≤1048576)
  (h5:∀i,i<n→ro i<n∧par (ro i)=ro i∧col (ro i)=col i) (hst:0≤steps∧steps≤10000000000000) (x y:Nat) (hx:x<n) (hy:y<n) (hro:ro x=ro y):
  Calls Tryz.prog 160 #[.pointer (some ⟨b,0,none⟩),.int .i64 x,.int .i64 y] w (JoinPost2 S w b n col ro steps x y):=by
 have hdg:=dg_le hn
 have HH:=has_any h1 (x:Int)
 rw [decide_eq_true (show (0:Int)≤(x:Int)∧(x:Int)<(n:Int) by omega)] at HH
 have HJ:=has_any h1 (y:Int)
 rw [decide_eq_true (show (0:Int)≤(y:Int)∧(y:Int)<(n:Int) by omega)] at HJ
 have HS:=search_ex h1 h2 hn (by omega) h5 x hx
 clear h1 h2 h5
 have HRO:=kI hro
 clear hro
 go_enter Tryz.func160,Tryz.ntmps160
 go_wp2_with fail
 refine HH.mono ?_
 rintro e w' ⟨rfl,rfl⟩
 go_wp2_with fail
 refine HJ.mono ?_
 rintro e w' ⟨rfl,rfl⟩
 go_wp2_with fail
 refine HS.mono ?_
 rintro e w2 ⟨par1,k1,rfl,hk1,h1,h2,h5,he1⟩
 have HT:=search_ex h1 h2 hn (by omega) h5 y hy
 clear h1 h2 h5
 have HF:=kI (aI hk1 he1)
 clear hk1 he1
 go_wp2_with fail
 refine HT.mono ?_
 rintro e w3 ⟨par,k2,rfl,hk2,h1,h2,h5,he2⟩
 clear HH HJ HS HT
 obtain ⟨a1,a2,a3⟩:=h5 x hx
 obtain ⟨b1,b2,b3⟩:=h5 y hy
 have hE:Else S w' w3:=HF.out.2.trans he2
 have hkk:k1+k2≤2*dg n:=by have:=HF.out.1;omega
 have HX:=kI (aI hE (aI hkk (aI a3 b3)))
 obtain ⟨r,hr⟩:∃r,ro x=r:=⟨_,rfl⟩
 obtain ⟨o,ho⟩:∃o,ro y=o:=⟨_,rfl⟩
 rw [hr] at a1 a2 a3
 rw [ho] at b1 b2 b3
 have hro:=HRO.out
 rw [hr,ho] at hro
 have HXR:=kI (aI hr ho)
 rw [hr,ho]
 clear hr ho
 subst hro
 have hce:col x=col y:=a3.symm.trans b3
 have HFIN:=kI (aI hce (⟨A,Z,X,par,sz,nx,rk,h1,h2,h3,hn,h5⟩:UFo S w3 b n col ro (steps+k1+k2)))
 clear h1 h2 h3 h5 a2 a3 b2 b3 hce hE hkk hk2 he2
 go_wp2_with fail
 go_ret2
 obtain ⟨hce,hU⟩:=HFIN.out
 refine ⟨r,k1+k2,ro,?_,a1,fun i hi=>by rw [paint_same hce];split;exact (UFo.uniq hU hi a1 ‹_›).trans (by rw [←HXR.out.1];exact UFo.idem hU hx);rfl,.inl ?_,HX.out.2.1,?_,HX.out.1⟩
 ·have:(col x == col y)=true:=by rw [beq_iff_eq];exact hce
  rw [this];rfl
 ·rw [←HXR.out.1];exact HX.out.2.2.1
 ·rw [paint_same hce,show steps+((k1+k2:Nat):Int)=steps+k1+k2 by omega];exact hU
end Go.Proofs.YtmamdiggjghjkaaGreatDoor.Un
