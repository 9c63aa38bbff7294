/- Texts of one proof, one behind the other. -/
import Derived.Test.YtmamdiggjghjkaaGreatDoorMgSolveOrder14
import Derived.Test.YtmamdiggjghjkaaGreatDoorMgSolveOrder8
import Derived.Test.YtmamdiggjghjkaaGreatDoorMgSolveOrder1
import Derived.Deep.CutRange
set_option linter.unusedVariables false
namespace Go.Proofs.YtmamdiggjghjkaaGreatDoor
section
open Un (paint paint_eq)
structure Ls (G:List Gn) (n:Nat) (c:Nat→Nat) (le:Nat→Option Nat):Prop where
 is:∀i l,i<n→le i=some l→l<n∧(∃p,G[l]? = some p∧p.1=1)∧c l=c i∧∀v p,G[v]? = some p→p.1=1→c v=c i→nmG G l≤p.2.1
 no:∀i v p,i<n→le i=none→G[v]? = some p→p.1=1→c v≠c i
structure Js (G:List Gn) (n:Nat) (col ro:Nat→Nat) (kn:Kn) (E T:List (Nat×Nat)):Prop where
 jn:Jn G col E T
 len:n=G.length
 md:Md G col fun i=>(kn (ro i)).1
 le:Ls G n col fun i=>(kn (ro i)).2
 rt:∀i,i<n→ro i<n∧col (ro i)=col i
 un:∀i j,i<n→j<n→col i=col j→ro i=ro j
section
variable {G:List Gn}{n:Nat}{col ro ro':Nat→Nat}{kn:Kn}{E T V:List (Nat×Nat)}{x y r:Nat}
theorem Js.pair (h:Js G n col ro kn E (T ++ [(x,y)])):x<n∧y<n:=by
 obtain ⟨h1,h2,_⟩:=h.jn.todo x y (by simp)
 have:=h.len
 omega
theorem Js.skip (h:Js G n col ro kn E (T ++ [(x,y)])) (e:ro x=ro y):Js G n col ro kn E T:=by
 obtain ⟨hx,hy⟩:=h.pair
 exact ⟨h.jn.skip (a:=x) (b:=y) (fun e=>by simp [or_comm]) (by rw [←(h.rt x hx).2,←(h.rt y hy).2,e]),h.len,h.md,h.le,h.rt,h.un⟩
theorem Md.congr {c:Nat→Nat}{m m':Nat→Option Nat}(h:Md G c m) (e:∀i,i<G.length→m' i=m i):Md G c m':=by
 refine ⟨fun i j hi hj hc=>by rw [e i hi,e j hj];exact h.col i j hi hj hc,fun i p hp hn=>?_,fun i k hi hk=>?_⟩
 ·rw [e i (lt_of_get hp)] at hn
  exact h.none i p hp hn
 ·rw [e i hi] at hk
  exact h.some i k hi hk
theorem roots_join (h:Js G n col ro kn E T) (hx:x<n) (hy:y<n) (_hr:r<n) (hrc:col r=col (ro x)∨col r=col (ro y))
  (hro:∀i,i<n→ro' i=if paint col (ro x) (ro y) i=paint col (ro x) (ro y) r then r else ro i) (v:Option Nat×Option Nat) (i:Nat) (hi:i<n):
  kup kn r v (ro' i)=if col i=col x∨col i=col y then v else kn (ro i):=by
 have cx:=(h.rt x hx).2
 have cy:=(h.rt y hy).2
 have hp:paint col (ro x) (ro y) i=paint col (ro x) (ro y) r↔(col i=col x∨col i=col y):=by
  rw [paint_eq,cx,cy]
  rw [cx,cy] at hrc
  constructor
  ·rintro (e|⟨e,_⟩)
   ·exact hrc.imp (fun f=>e.trans f) fun f=>e.trans f
   ·exact e
  ·intro e
   exact .inr ⟨e,hrc⟩
 rw [hro i hi]
 by_cases hc:col i=col x∨col i=col y
 ·rw [if_pos (hp.2 hc),if_pos hc]
  simp [kup]
 ·rw [if_neg (fun e=>hc (hp.1 e)),if_neg hc]
  have hne:ro i≠r:=fun e=>hc (by
   have:=(h.rt i hi).2
   rw [e] at this
   rw [←this,←cx,←cy]
   exact hrc)
  simp [kup,hne]
theorem Js.join (h:Js G n col ro kn E (T ++ [(x,y)])) (hr:r<n) (hrc:col r=col (ro x)∨col r=col (ro y))
  (hro:∀i,i<n→ro' i=if paint col (ro x) (ro y) i=paint col (ro x) (ro y) r then r else ro i) (hJ:Jn G (paint col (ro x) (ro y)) E V):
  Js G n (paint col (ro x) (ro y)) ro' (kup kn r ((kn (ro x)).1.or (kn (ro y)).1,ml G (kn (ro x)).2 (kn (ro y)).2)) E V:=by
 obtain ⟨hx,hy⟩:=h.pair
 have cx:=(h.rt x hx).2
 have cy:=(h.rt y hy).2
 have hlen:=h.len
 have hk:=fun v i hi=>roots_join h hx hy hr hrc hro v i hi
 have hpe:∀i j,paint col (ro x) (ro y) i=paint col (ro x) (ro y) j↔(col i=col j∨(col i=col x∨col i=col y)∧(col j=col x∨col j=col y)):=fun i j=>by rw [paint_eq,cx,cy]
 refine ⟨hJ,hlen,?_,?_,fun i hi=>?_,fun i j hi hj e=>?_⟩
 ·refine (h.md.join (d:=paint col (ro x) (ro y)) (a:=x) (b:=y) (by omega) (by omega) hpe).congr fun i hi=>?_
  rw [hk _ i (by omega)]
  split<;>rfl
 ·refine ⟨fun i l hi hl=>?_,fun i v p hi hl hv hp=>?_⟩
  ·rw [hk _ i hi] at hl
   by_cases hc:col i=col x∨col i=col y
   ·rw [if_pos hc] at hl
    dsimp only at hl
    have key:∀l,((kn (ro x)).2=some l∨(kn (ro y)).2=some l)→l<n∧(∃p,G[l]? = some p∧p.1=1)∧paint col (ro x) (ro y) l=paint col (ro x) (ro y) i:=by
     rintro l (e|e)
     ·obtain ⟨g1,g2,g3,_⟩:=h.le.is x l hx e
      exact ⟨g1,g2,(hpe _ _).2 (.inr ⟨.inl g3,hc⟩)⟩
     ·obtain ⟨g1,g2,g3,_⟩:=h.le.is y l hy e
      exact ⟨g1,g2,(hpe _ _).2 (.inr ⟨.inr g3,hc⟩)⟩
    have hmin:∀v p,G[v]? = some p→p.1=1→paint col (ro x) (ro y) v=paint col (ro x) (ro y) i→nmG G l≤p.2.1:=by
     intro v p hv hp hvi
     have hvc:col v=col x∨col v=col y:=by
      rcases (hpe _ _).1 hvi with e|⟨e,_⟩
      ·rw [e];exact hc
      ·exact e
     cases hlx:(kn (ro x)).2 with
     | none=>
      rw [hlx] at hl
      have hl2:(kn (ro y)).2=some l:=by
       cases hly:(kn (ro y)).2<;>(rw [hly] at hl;exact hl)
      rcases hvc with e|e
      ·exact absurd e (h.le.no x v p hx hlx hv hp)
      ·exact (h.le.is y l hy hl2).2.2.2 v p hv hp e
     | some lx=>
      cases hly:(kn (ro y)).2 with
      | none=>
       rw [hlx,hly] at hl
       have hl2:(kn (ro x)).2=some l:=hlx.trans hl
       rcases hvc with e|e
       ·exact (h.le.is x l hx hl2).2.2.2 v p hv hp e
       ·exact absurd e (h.le.no y v p hy hly hv hp)
      | some ly=>
       rw [hlx,hly] at hl
       have hl2:(if nmG G lx<nmG G ly then lx else ly)=l:=Option.some.inj hl
       rcases hvc with e|e
       ·have:=(h.le.is x lx hx hlx).2.2.2 v p hv hp e
        rw [←hl2]
        split<;>omega
       ·have:=(h.le.is y ly hy hly).2.2.2 v p hv hp e
        rw [←hl2]
        split<;>omega
    have hor:(kn (ro x)).2=some l∨(kn (ro y)).2=some l:=by
     cases hlx:(kn (ro x)).2 with
     | none=>
      rw [hlx] at hl
      right
      cases hly:(kn (ro y)).2<;>(rw [hly] at hl;exact hl)
     | some lx=>
      cases hly:(kn (ro y)).2 with
      | none=>rw [hlx,hly] at hl;exact .inl hl
      | some ly=>
       rw [hlx,hly] at hl
       have hl2:(if nmG G lx<nmG G ly then lx else ly)=l:=Option.some.inj hl
       rw [←hl2]
       split
       ·exact .inl rfl
       ·exact .inr rfl
    obtain ⟨k1,k2,k3⟩:=key l hor
    exact ⟨k1,k2,k3,hmin⟩
   ·rw [if_neg hc] at hl
    obtain ⟨g1,g2,g3,g4⟩:=h.le.is i l hi hl
    refine ⟨g1,g2,(hpe _ _).2 (.inl g3),fun v p hv hp hvi=>g4 v p hv hp ?_⟩
    rcases (hpe _ _).1 hvi with e|⟨_,e⟩
    ·exact e
    ·exact absurd e hc
  ·rw [hk _ i hi] at hl
   intro hvi
   by_cases hc:col i=col x∨col i=col y
   ·rw [if_pos hc] at hl
    dsimp only at hl
    have hvc:col v=col x∨col v=col y:=by
     rcases (hpe _ _).1 hvi with e|⟨e,_⟩
     ·rw [e];exact hc
     ·exact e
    have hn:(kn (ro x)).2=none∧(kn (ro y)).2=none:=by
     cases hlx:(kn (ro x)).2<;>cases hly:(kn (ro y)).2<;>rw [hlx,hly] at hl<;>first|exact ⟨rfl,rfl⟩|cases hl
    rcases hvc with e|e
    ·exact h.le.no x v p hx hn.1 hv hp e
    ·exact h.le.no y v p hy hn.2 hv hp e
   ·rw [if_neg hc] at hl
    rcases (hpe _ _).1 hvi with e|⟨_,e⟩
    ·exact h.le.no i v p hi hl hv hp e
    ·exact hc e
 ·rw [hro i hi]
  split
  ·exact ⟨hr,Eq.symm ‹_›⟩
  ·exact ⟨(h.rt i hi).1,(hpe _ _).2 (.inl (h.rt i hi).2)⟩
 ·rw [hro i hi,hro j hj,e]
  split
  ·rfl
  ·rename_i hne
   rcases (hpe _ _).1 e with e2|⟨_,e3⟩
   ·exact h.un i j hi hj e2
   ·exact absurd ((hpe _ _).2 (.inr ⟨e3,by rw [←cx,←cy];exact hrc⟩)) hne
end
end
section
open Go.RowKit
set_option maxRecDepth 100000
def ptV (c:Option Nat) (r:Int):Value:=.agg #[.pointer (c.map fun b=>⟨b,0,none⟩),.int .i64 r]
theorem load_pt {w:World}{g:Nat}{c:Option Nat}{r:Int}(h0:w.cell? ⟨g,0,none⟩=some (.pointer (c.map fun b=>⟨b,0,none⟩))) (h1:w.cell? ⟨g,1,none⟩=some (.int .i64 r)):(loadVar 136 ⟨g,0,none⟩).run Tryz.prog w = .ok (ptV c r) w:=by
 unfold ptV
 go_simp
end
section
open Go.RowKit
open Un (Else StM rowI UFo own_else dg swp wp_world paint)
set_option maxRecDepth 100000
section
variable {O T:Nat→Prop}{w w':World}{cb:Nat}{A:Adr}{st:Int}{cl:Bool}{n:Nat}{G:List Gn}{kn:Kn}{nx col ro col' ro':Nat→Nat}{fs fs':Int}
def errN (cl:Bool):Int:=if cl then 7 else 0
theorem err_cl (h:ClM O w cb A st cl n G kn nx col ro fs):Calls Tryz.prog 109 #[.pointer (some ⟨cb,0,none⟩)] w fun e w'=>e = .returned (.int .i64 (errN cl))∧w'=w:=by
 obtain ⟨hl,hz,c0,c1,c2,c6,c7⟩:=h.cells
 clear h hz c0 c2 c6 c7
 cases cl with
 | true=>
  go_enter Tryz.func109,Tryz.ntmps109
  go_wp2_with fail
  exact bodyPost_ret (results_tmp rfl _ _ _) rfl ⟨rfl,rfl⟩
 | false=>
  go_enter Tryz.func109,Tryz.ntmps109
  go_wp2_with fail
  exact bodyPost_ret (results_tmp rfl _ _ _) rfl ⟨rfl,rfl⟩
theorem steps_cl (h:ClM O w cb A st cl n G kn nx col ro fs):Calls Tryz.prog 78 #[.pointer (some ⟨cb,0,none⟩)] w fun e w'=>e = .returned (.int .i64 st)∧w'=w:=by
 obtain ⟨hl,hz,c0,c1,c2,c6,c7⟩:=h.cells
 clear h hz c1 c2 c6 c7
 go_enter Tryz.func78,Tryz.ntmps78
 go_wp2_with fail
 exact bodyPost_ret (results_tmp rfl _ _ _) rfl ⟨rfl,rfl⟩
theorem node_cl (h:ClM O w cb A st cl n G kn nx col ro fs) (v:Int) (hv:(Lit.int .i64 v).wf=true):Calls Tryz.prog 121 #[.pointer (some ⟨cb,0,none⟩),.int .i64 v] w fun e w'=>e = .returned (.tuple #[.int .i64 ((gvar G v).getD 0:Nat),.bool (gvar G v).isSome])∧Below w.heap.size w w':=by
 obtain ⟨hl,hz,c0,c1,c2,c6,c7⟩:=h.cells
 have HV:=var_graph w 0 A.g A.mb A.V A.L G h.gr v hv
 obtain ⟨z,hz'⟩:∃z:Nat,(gvar G v).getD 0=z:=⟨_,rfl⟩
 obtain ⟨b,hb⟩:∃b,(gvar G v).isSome=b:=⟨_,rfl⟩
 rw [hz',hb] at HV ⊢
 clear h hz c0 c1 c6 c7 hz' hb
 go_enter Tryz.func121,Tryz.ntmps121
 go_wp2_with fail
 refine HV.mono ?_
 rintro e w' ⟨rfl,hb2⟩
 go_wp2_with fail
 exact bodyPost_ret (results_tmp2 rfl _ _ _) rfl ⟨rfl,hb2⟩
theorem part_cl (h:ClM O w cb A st cl n G kn nx col ro fs) (hst:0≤fs∧fs≤10000000000000) (i:Nat) (hi:i<n):Calls Tryz.prog 122 #[.pointer (some ⟨cb,0,none⟩),.int .i64 (i:Nat)] w fun e w'=>∃k:Nat,e = .returned (ptV (some cb) (ro i:Nat))∧k≤dg n∧ClM O w' cb A st cl n G kn nx col ro (fs+k)∧Else A.S w w':=by
 have hb0:Below w.heap.size w (w.alloc (.cells #[.pointer none,.int .i64 0] 136)):=(Below.refl _ _).alloc (Nat.le_refl _) _
 have h1:=h.below hb0
 have HR:=Un.root_st (h1.stm (by omega)) (by omega) i hi
 obtain ⟨hl,hz,c0,c1,c2,c6,c7⟩:=h1.cells
 have HH:=kI (aI h h1)
 clear h h1 hz c0 c1 c2 c6 c7 hb0
 go_enter Tryz.func122,Tryz.ntmps122
 go_wp2_with fail
 refine HR.mono ?_
 rintro e w2 ⟨k,rfl,hk,hs,he⟩
 have hgS:¬ A.S w.heap.size:=fun hx=>Nat.lt_irrefl _ (HH.out.1.sb _ hx)
 have hx2:=(he.block w.heap.size (by simp) hgS).trans (heap_alloc_new w (.cells #[.pointer none,.int .i64 0] 136))
 have hxl:=(gL hx2).1
 have d0:w2.cell? ⟨w.heap.size,0,none⟩=some (.pointer none):=cell_of_row w2 _ 0 _ _ (0,0) hx2
 have d1:w2.cell? ⟨w.heap.size,1,none⟩=some (.int .i64 0):=cell_of_row w2 _ 1 _ _ (0,0) hx2
 have z0:w2.frozen? ⟨w.heap.size,0,none⟩=false:=by simp [World.frozen?,hx2]
 have z1:w2.frozen? ⟨w.heap.size,1,none⟩=false:=by simp [World.frozen?,hx2]
 have HS:=kI (aI hk (aI hs (aI he hx2)))
 clear hk hs he hx2 HR hgS
 go_wp2_with fail
 obtain ⟨hk,hs,he,hx2⟩:=HS.out
 have hC2:=HH.out.2.turn he hs
 have hE:Else (fun k=>k=w.heap.size) w2 ((w2.setCell ⟨w.heap.size,0,none⟩ (.pointer (some ⟨cb,0,none⟩))).setCell ⟨w.heap.size,1,none⟩ (.int .i64 (ro i:Nat))):=(Un.Else.set (S:=fun k=>k=w.heap.size) w2 (p:=⟨w.heap.size,0,none⟩) rfl _).trans (Un.Else.set (S:=fun k=>k=w.heap.size) _ (p:=⟨w.heap.size,1,none⟩) rfl _)
 have hx4:=heap_setCell_same _ w.heap.size 1 _ _ (.int .i64 (ro i:Nat)) (heap_setCell_same w2 w.heap.size 0 _ _ (.pointer (some ⟨cb,0,none⟩)) hx2)
 refine bodyPost_ret (results_box rfl _ _ w.heap.size (ptV (some cb) (ro i:Nat)) rfl (load_pt (c:=some cb) (cell_of_row _ _ 0 _ _ (0,0) hx4) (cell_of_row _ _ 1 _ _ (0,0) hx4))) rfl ⟨k,rfl,hk,hC2.aside hE fun j hj e=>by have:=HH.out.1.lt hj;omega,?_⟩
 exact (((Else.of_below (S:=fun k=>A.S k∨k=w.heap.size) ((Below.refl _ w).alloc (Nat.le_refl _) _)).trans (he.mono fun k hk=>.inl hk)).trans (hE.mono fun k hk=>.inr hk)).old fun k hk=>hk.imp id fun e=>by omega
theorem pt_store {w2:World}{g:Nat}{x y:Value}(hx:w2.heap[g]? = some (Obj.cells #[x,y] 136)) (c:Option Nat) (r:Int):
  ((w2.setCell ⟨g,0,none⟩ (.pointer (c.map fun b=>⟨b,0,none⟩))).setCell ⟨g,1,none⟩ (.int .i64 r)).heap[g]? = some (Obj.cells #[.pointer (c.map fun b=>⟨b,0,none⟩),.int .i64 r] 136)∧Else (fun k=>k=g) w2 ((w2.setCell ⟨g,0,none⟩ (.pointer (c.map fun b=>⟨b,0,none⟩))).setCell ⟨g,1,none⟩ (.int .i64 r)):=
 ⟨heap_setCell_same _ g 1 _ _ (.int .i64 r) (heap_setCell_same w2 g 0 _ _ _ hx),(Un.Else.set (S:=fun k=>k=g) w2 (p:=⟨g,0,none⟩) rfl _).trans (Un.Else.set (S:=fun k=>k=g) _ (p:=⟨g,1,none⟩) rfl _)⟩
theorem pt_load {w2:World}{g:Nat}{c:Option Nat}{r:Int}(hx:w2.heap[g]? = some (Obj.cells #[.pointer (c.map fun b=>⟨b,0,none⟩),.int .i64 r] 136)):(loadVar 136 ⟨g,0,none⟩).run Tryz.prog w2 = .ok (ptV c r) w2:=
 load_pt (cell_of_row _ _ 0 _ _ (0,0) hx) (cell_of_row _ _ 1 _ _ (0,0) hx)
theorem pt_fin {w2 w4:World}{g:Nat}(h:ClM O w cb A st cl n G kn nx col ro fs) (h2:ClM O w2 cb A st cl n G kn nx col ro fs') (hE:Else (fun k=>A.S k∨w.heap.size≤k) w w2) (hE4:Else (fun k=>k=g) w2 w4) (hg:w.heap.size≤g):ClM O w4 cb A st cl n G kn nx col ro fs'∧Else A.S w w4:=
 ⟨h2.aside hE4 fun j hj e=>by have:=h.lt hj;omega,(hE.trans (hE4.mono fun k hk=>.inr (by omega))).old fun k hk=>by rcases hk with hk|hk;exact .inl hk;exact .inr hk⟩
theorem cpart_cl (h:ClM O w cb A st cl n G kn nx col ro fs) (hst:0≤fs∧fs≤10000000000000) (v:Int) (hv:(Lit.int .i64 v).wf=true) (hn:∀i,gvar G v=some i→i<n):
  Calls Tryz.prog 86 #[.pointer (some ⟨cb,0,none⟩),.int .i64 v] w fun e w'=>∃k:Nat,e = .returned (match gvar G v with|some i=>.tuple #[ptV (some cb) (ro i:Nat),.bool true] | none=>.tuple #[ptV none 0,.bool false])∧k≤dg n∧ClM O w' cb A st cl n G kn nx col ro (fs+k)∧Else A.S w w':=by
 have hb0:Below w.heap.size w (w.alloc (.cells #[.pointer none,.int .i64 0] 136)):=(Below.refl _ _).alloc (Nat.le_refl _) _
 have h1:=h.below hb0
 have HV:=node_cl h1 v hv
 have hx:=heap_alloc_new w (.cells #[.pointer none,.int .i64 0] 136)
 have HH:=kI (aI h (aI h1 hx))
 clear h h1 hb0 hx
 cases hg:gvar G v with
 | none=>
  rw [hg] at HV
  clear hg
  go_enter Tryz.func86,Tryz.ntmps86
  go_wp2_with fail
  refine HV.mono ?_
  rintro e w2 ⟨rfl,hb⟩
  have hx2:=(hb.block _ (by simp)).trans HH.out.2.2
  have d0:w2.cell? ⟨w.heap.size,0,none⟩=some (.pointer none):=cell_of_row w2 _ 0 _ _ (0,0) hx2
  have d1:w2.cell? ⟨w.heap.size,1,none⟩=some (.int .i64 0):=cell_of_row w2 _ 1 _ _ (0,0) hx2
  have z0:w2.frozen? ⟨w.heap.size,0,none⟩=false:=by simp [World.frozen?,hx2]
  have z1:w2.frozen? ⟨w.heap.size,1,none⟩=false:=by simp [World.frozen?,hx2]
  have HB:=kI (aI hb hx2)
  clear hb hx2 HV
  go_wp2_with fail
  obtain ⟨hb,hx2⟩:=HB.out
  obtain ⟨hx4,hE4⟩:=pt_store hx2 none 0
  obtain ⟨r1,r2⟩:=pt_fin HH.out.1 (HH.out.2.1.below hb) (((Else.of_below (S:=fun k=>A.S k∨w.heap.size≤k) ((Below.refl _ w).alloc (Nat.le_refl _) _)).trans (Else.of_below hb))) hE4 (Nat.le_refl _)
  exact bodyPost_ret (results_cell_tmp rfl _ _ w.heap.size (ptV none 0) rfl (pt_load (c:=none) hx4)) rfl ⟨0,rfl,Nat.zero_le _,by simpa using r1,r2⟩
 | some i=>
  rw [hg] at HV
  have hi:=hn i hg
  clear hg
  go_enter Tryz.func86,Tryz.ntmps86
  go_wp2_with fail
  refine HV.mono ?_
  rintro e w2 ⟨rfl,hb⟩
  have HP:=part_cl (HH.out.2.1.below hb) hst i hi
  have hx2:=(hb.block _ (by simp)).trans HH.out.2.2
  have HB:=kI (aI hb hx2)
  clear hb hx2 HV
  go_wp2_with fail
  refine HP.mono ?_
  rintro e w3 ⟨k,rfl,hk,hC,hE⟩
  have hg:¬ A.S w.heap.size:=fun hx=>Nat.lt_irrefl _ (HH.out.1.sb _ hx)
  have hx3:=(hE.block w.heap.size (gL HB.out.2).1 hg).trans HB.out.2
  have d0:w3.cell? ⟨w.heap.size,0,none⟩=some (.pointer none):=cell_of_row w3 _ 0 _ _ (0,0) hx3
  have d1:w3.cell? ⟨w.heap.size,1,none⟩=some (.int .i64 0):=cell_of_row w3 _ 1 _ _ (0,0) hx3
  have z0:w3.frozen? ⟨w.heap.size,0,none⟩=false:=by simp [World.frozen?,hx3]
  have z1:w3.frozen? ⟨w.heap.size,1,none⟩=false:=by simp [World.frozen?,hx3]
  have HK:=kI (aI hk (aI hC (aI hE hx3)))
  clear hk hC hE hx3 HP hg
  unfold ptV
  go_wp2_with fail
  obtain ⟨hk,hC,hE,hx3⟩:=HK.out
  obtain ⟨hx4,hE4⟩:=pt_store hx3 (some cb) (ro i:Nat)
  obtain ⟨r1,r2⟩:=pt_fin HH.out.1 hC ((((Else.of_below (S:=fun k=>A.S k∨w.heap.size≤k) ((Below.refl _ w).alloc (Nat.le_refl _) _)).trans (Else.of_below HB.out.1))).trans (hE.mono fun k hk=>.inl hk)) hE4 (Nat.le_refl _)
  exact bodyPost_ret (results_cell_tmp rfl _ _ w.heap.size (ptV (some cb) (ro i:Nat)) rfl (pt_load (c:=some cb) hx4)) rfl ⟨k,rfl,hk,r1,r2⟩
end
end
section
open Go.RowKit
open Un (Else StM rowI UFo own_else dg swp wp_world paint)
set_option maxRecDepth 100000
section
variable {O T:Nat→Prop}{w w':World}{cb:Nat}{A:Adr}{st:Int}{cl:Bool}{n:Nat}{G:List Gn}{kn:Kn}{nx col ro col' ro':Nat→Nat}{fs fs':Int}
def kindO (G:List Gn):Option Nat→Int
 | some i=>((G[i]?).map fun p=>p.1).getD 0
 | none=>0
theorem kind_oi (hG:GrM 0 w A.g A.V A.mb A.L G) (o:Option Nat):Calls Tryz.prog 117 #[.pointer (some ⟨A.g,0,none⟩),.int .i64 (oi o)] w fun e w'=>e = .returned (.int .i64 (kindO G o))∧Below w.heap.size w w':=by
 cases o with
 | none=>exact kind_out w 0 A.g A.mb A.V A.L G hG (-1) (by omega)
 | some i=>
  by_cases hi:i<G.length
  ·have:=kind_in w 0 A.g A.mb A.V A.L G hG i hi
   simp only [kindO,List.getElem?_eq_getElem hi,Option.map_some,Option.getD_some]
   exact this
  ·have:=kind_out w 0 A.g A.mb A.V A.L G hG (i:Int) (by omega)
   simp only [kindO,List.getElem?_eq_none (Nat.le_of_not_lt hi),Option.map_none,Option.getD_none]
   exact this
theorem holds_cl (h:ClM O w cb A st false n G kn nx col ro fs) (r:Int):Calls Tryz.prog 116 #[ptV (some cb) r] w fun e w'=>e = .returned (.bool true)∧Below w.heap.size w w':=by
 have hb0:Below w.heap.size w (w.alloc (.cells #[.pointer (some ⟨cb,0,none⟩),.int .i64 r] 136)):=(Below.refl _ _).alloc (Nat.le_refl _) _
 have HE:=err_cl (h.below hb0)
 show Calls _ _ #[.agg #[.pointer (some ⟨cb,0,none⟩),.int .i64 r]] _ _
 clear h hb0
 go_enter Tryz.func116,Tryz.ntmps116
 go_wp2_with fail
 refine HE.mono ?_
 rintro e w' ⟨rfl,rfl⟩
 go_wp2_with fail
 exact bodyPost_ret (results_tmp rfl _ _ _) rfl ⟨rfl,(Below.refl _ _).alloc (Nat.le_refl _) _⟩
theorem pkind_cl (h:ClM O w cb A st false n G kn nx col ro fs) (r:Nat) (hr:r<n):Calls Tryz.prog 82 #[ptV (some cb) (r:Nat)] w fun e w'=>e = .returned (.int .i64 (kindO G (kn r).1))∧Below w.heap.size w w':=by
 have hb0:Below w.heap.size w (w.alloc (.cells #[.pointer (some ⟨cb,0,none⟩),.int .i64 (r:Nat)] 136)):=(Below.refl _ _).alloc (Nat.le_refl _) _
 have h1:=h.below hb0
 have HO:=holds_cl h1 (r:Nat)
 have hx:=heap_alloc_new w (.cells #[.pointer (some ⟨cb,0,none⟩),.int .i64 (r:Nat)] 136)
 have HH:=kI (aI h1 hx)
 show Calls _ _ #[.agg #[.pointer (some ⟨cb,0,none⟩),.int .i64 (r:Nat)]] _ _
 clear h h1 hb0 hx
 go_enter Tryz.func82,Tryz.ntmps82
 go_wp2_with fail
 refine (show Calls _ _ #[.agg #[.pointer (some ⟨cb,0,none⟩),.int .i64 (r:Nat)]] _ _ from HO).mono ?_
 rintro e w2 ⟨rfl,hb⟩
 have hC:=HH.out.1.below hb
 have hx2:=(hb.block _ (by simp)).trans HH.out.2
 have d0:w2.cell? ⟨w.heap.size,0,none⟩=some (.pointer (some ⟨cb,0,none⟩)):=cell_of_row w2 _ 0 _ _ (0,0) hx2
 have d1:w2.cell? ⟨w.heap.size,1,none⟩=some (.int .i64 (r:Nat)):=cell_of_row w2 _ 1 _ _ (0,0) hx2
 obtain ⟨hl,hz,c0,c1,c2,c6,c7⟩:=hC.cells
 obtain ⟨kb,cK,hK,_,_⟩:=Un.own_shape hC.kr (by omega)
 have hrow:=hC.kr
 rw [hK] at c6 hrow
 have hlen:=knR_len n kn
 have a0:w2.cell? ⟨kb,r*2,none⟩=some (.int .i64 (oi (kn r).1)):=(hrow.cellAt (r*2) (by omega)).trans (knR_get hr).1
 have HKD:=kind_oi (w:=w2.drew) (A:=A) (hC.below (Below.refl _ w2).drew).gr (kn r).1
 have HB:=kI hb
 clear hb hC hx2 hz c0 c1 c7 hK hrow hlen HO
 go_wp2_with fail
 obtain ⟨km,hkm⟩:∃z,oi (kn r).1=z:=⟨_,rfl⟩
 rw [hkm] at a0 HKD
 obtain ⟨S0,hSof,hSto⟩:∃S0:World→Prop,(∀W:World,Below w2.heap.size w2 W→S0 W)∧(∀W,S0 W→W.cell? ⟨w.heap.size,0,none⟩=some (.pointer (some ⟨cb,0,none⟩))∧W.cell? ⟨w.heap.size,1,none⟩=some (.int .i64 (r:Nat))∧W.cell? ⟨cb,2,none⟩=some (.pointer (some ⟨A.g,0,none⟩))∧W.cell? ⟨cb,6,none⟩=some (.slice (some ⟨kb,0,none⟩) n cK)∧W.cell? ⟨kb,r*2,none⟩=some (.int .i64 km)):=
  ⟨fun W=>Below w2.heap.size w2 W,fun _ h=>h,fun W hb=>⟨(hb.cell (World.block_lt_of_cell? _ _ d0)).trans d0,(hb.cell (World.block_lt_of_cell? _ _ d1)).trans d1,(hb.cell (World.block_lt_of_cell? _ _ c2)).trans c2,(hb.cell (World.block_lt_of_cell? _ _ c6)).trans c6,(hb.cell (World.block_lt_of_cell? _ _ a0)).trans a0⟩⟩
 have hS:S0 w2.drew:=hSof _ (Below.refl _ _).drew
 have EX:=kI hSto
 have HSOF:=kI hSof
 have HKH:=kI HKD
 clear hSof hSto HKD d0 d1 c2 c6 a0
 refine wp_region_held (S:=S0) (by kernel_rfl) ?_
 change wpAnyH _ _ _ _ _ 17 (List.replicate 17 false).toArray _ w2.drew
 simp only [List.replicate_succ,List.replicate_zero]
 refine tj (i:=0) (some 6) (.pointer (some ⟨w.heap.size,0,none⟩)) rfl hS ?_
 simp only [Act.put,zA,zB,zC]
 refine tk (i:=1) (some 7) (.pointer (some ⟨cb,0,none⟩)) rfl (fun W hw=>by obtain ⟨n0,n1,n2,n3,n4⟩:=EX.out W hw;clear hw;go_simp) hS ?_
 simp only [Act.put,zA,zB,zC]
 refine tj (i:=2) (some 8) (.pointer (some ⟨cb,0,none⟩)) rfl hS ?_
 simp only [Act.put,zA,zB,zC]
 refine tj (i:=3) (some 9) (.pointer (some ⟨cb,2,none⟩)) rfl hS ?_
 simp only [Act.put,zA,zB,zC]
 refine tk (i:=4) (some 10) (.pointer (some ⟨A.g,0,none⟩)) rfl (fun W hw=>by obtain ⟨n0,n1,n2,n3,n4⟩:=EX.out W hw;clear hw;go_simp) hS ?_
 simp only [Act.put,zA,zB,zC]
 refine tj (i:=5) (some 11) (.pointer (some ⟨w.heap.size,0,none⟩)) rfl hS ?_
 simp only [Act.put,zA,zB,zC]
 refine tk (i:=6) (some 12) (.pointer (some ⟨cb,0,none⟩)) rfl (fun W hw=>by obtain ⟨n0,n1,n2,n3,n4⟩:=EX.out W hw;clear hw;go_simp) hS ?_
 simp only [Act.put,zA,zB,zC]
 refine tj (i:=7) (some 13) (.pointer (some ⟨cb,0,none⟩)) rfl hS ?_
 simp only [Act.put,zA,zB,zC]
 refine tj (i:=8) (some 14) (.pointer (some ⟨cb,6,none⟩)) rfl hS ?_
 simp only [Act.put,zA,zB,zC]
 refine tk (i:=9) (some 15) (.slice (some ⟨kb,0,none⟩) n cK) rfl (fun W hw=>by obtain ⟨n0,n1,n2,n3,n4⟩:=EX.out W hw;clear hw;go_simp) hS ?_
 simp only [Act.put,zA,zB,zC]
 refine tj (i:=10) (some 16) (.pointer (some ⟨w.heap.size,1,none⟩)) rfl hS ?_
 simp only [Act.put,zA,zB,zC]
 refine tk (i:=11) (some 17) (.int .i64 (r:Nat)) rfl (fun W hw=>by obtain ⟨n0,n1,n2,n3,n4⟩:=EX.out W hw;clear hw;go_simp) hS ?_
 simp only [Act.put,zA,zB,zC]
 refine tj (i:=12) (some 18) (.pointer (some ⟨kb,r*2,none⟩)) rfl hS ?_
 simp only [Act.put,zA,zB,zC]
 refine tj (i:=13) (some 19) (.pointer (some ⟨kb,r*2,none⟩)) rfl hS ?_
 simp only [Act.put,zA,zB,zC]
 refine tk (i:=14) (some 20) (.int .i64 km) rfl (fun W hw=>by obtain ⟨n0,n1,n2,n3,n4⟩:=EX.out W hw;clear hw;go_simp) hS ?_
 simp only [Act.put,zA,zB,zC]
 refine aK 15 ?_
 refine ops_call (d:=some 21) rfl (by rfl) (by kernel_rfl) (by go_simp) (HKH.out.mono ?_)
 rintro e w3 ⟨rfl,hb3⟩
 have hb3:Below w2.heap.size w2 w3:=((Below.refl _ w2).drew).trans hb3
 have hS3:=HSOF.out w3 hb3
 have HB3:=kI hb3
 clear hb3
 refine ⟨_,rfl,hS3,?_⟩
 simp only [Act.put,zA,zB,zC]
 refine tj (i:=16) (some 2) (.int .i64 (kindO G (kn r).1)) rfl hS3 ?_
 simp only [Act.put,zA,zB,zC]
 refine wpAnyH_done (by kernel_rfl) ?_ _
 go_wp2_with fail
 refine bodyPost_ret (results_tmp rfl _ _ _) rfl ⟨rfl,?_⟩
 have hb2:Below w.heap.size w w2:=((Below.refl _ w).alloc (Nat.le_refl _) _).trans (HB.out.mono (by simp))
 exact hb2.trans (HB3.out.mono hb2.size)
end
end
section
open Go.RowKit
open Un (Else StM rowI UFo own_else dg swp wp_world paint)
set_option maxRecDepth 100000
section
variable {O T:Nat→Prop}{w w':World}{cb:Nat}{A:Adr}{st:Int}{cl:Bool}{n:Nat}{G:List Gn}{kn:Kn}{nx col ro col' ro':Nat→Nat}{fs fs':Int}
end
end
section
open Go.RowKit
open Un (Else StM rowI UFo own_else dg swp wp_world paint)
set_option maxRecDepth 100000
section
variable {O T:Nat→Prop}{w w' V:World}{cb:Nat}{A:Adr}{st:Int}{cl:Bool}{n:Nat}{G:List Gn}{kn:Kn}{nx col ro col' ro':Nat→Nat}{fs fs':Int}
def Adr.up (A:Adr) (f0 c fo:Nat) (K N:Value) (S:Nat→Prop):Adr:={ A with f0:=f0,c:=c,fo:=fo,K:=K,N:=N,S:=S }
theorem own_cells {base:Nat}{e:TypeId}{size m g c:Nat}{xs:List Value}(h:w.ownsRow base e size (.slice (some ⟨g,0,none⟩) m c) m xs) (_hm:0<m):∃cs,w.heap[g]? = some (Obj.cells cs e):=by
 rcases h.2 with ⟨hv,_⟩|⟨g',cap,cur,hv,_,hg,_⟩
 ·cases hv
 ·cases hv;exact ⟨_,hg⟩
theorem StX.obcb {S:Nat→Prop}{x0 x1 x2 x6 x7:Value}{f0 c fo ob:Nat}(h:StX S w cb x0 x1 x2 f0 c fo ob x6 x7 n col ro fs):ob≠cb:=by
 intro e
 rcases h with h|⟨_,_,h1,h2⟩
 ·obtain ⟨_,_,⟨_,_,hm,_⟩,_⟩:=h.map
  rw [e,h.blk] at hm
  cases hm
 ·obtain ⟨_,_,⟨_,_,hm,_⟩,_⟩:=h2
  rw [e,h1] at hm
  cases hm
theorem StX.rows {S:Nat→Prop}{x0 x1 x2 x6 x7 y6 y7:Value}{f0 c fo ob:Nat}(h:StX S w cb x0 x1 x2 f0 c fo ob x6 x7 n col ro fs) (he:Else T w V) (h2:¬ T ob) (h3:f0≠cb→¬ T f0) (h4:¬ S cb→∀k,S k→¬ T k)
  (hb:∀F,w.heap[cb]? = some (Obj.cells #[x0,x1,x2,F,.int .i64 n,.map (some ob),x6,x7] 150)→V.heap[cb]? = some (Obj.cells #[x0,x1,x2,F,.int .i64 n,.map (some ob),y6,y7] 150)):StX S V cb x0 x1 x2 f0 c fo ob y6 y7 n col ro fs:=by
 rcases h with h|⟨e1,e2,e3,e4⟩
 ·have hne:f0≠cb:=fun e=>Un.row_ne h.row h.blk (by decide) (by rw [e];rfl)
  exact .inl ⟨hb _ h.blk,h.map.block (he.block ob h.map.lt h2),h.ncb,h.nob,h.nf0,own_else h.row he (fun k hk=>by cases hk;exact h3 hne),h.uf.keep he (h4 h.ncb)⟩
 ·subst e1
  exact .inr ⟨rfl,e2,hb _ e3,e4.block (he.block ob e4.lt h2)⟩
theorem grow_fin (h:ClM O w cb A st cl n G kn nx col ro fs) {K' N':Value}{S':Nat→Prop}{f0' c' fo':Nat}(he:Else (fun k=>k=cb∨A.K.ownBlock=some k∨A.N.ownBlock=some k) w V)
  (kr:V.ownsRow 0 188 2 K' (n+1) (knR (n+1) kn)) (nr:V.ownsRow 0 3 1 N' (n+1) (rowI (n+1) nx))
  (hK:K'.ownBlock=A.K.ownBlock∨∃b,K'.ownBlock=some b∧w.heap.size≤b) (hN:N'.ownBlock=A.N.ownBlock∨∃b,N'.ownBlock=some b∧w.heap.size≤b) (hKN:∀k,K'.ownBlock=some k→N'.ownBlock≠some k)
  (he2:Else (fun k=>A.S k∨k=cb) V w') (hs:StM S' w' cb (.int .i64 st) (.bool cl) (.pointer (some ⟨A.g,0,none⟩)) f0' c' fo' A.ob K' N' (n+1) col ro fs) (hS:∀k,S' k→A.S k∨V.heap.size≤k) (hSb:∀k,S' k→k<w'.heap.size) (hf:f0'=A.f0∨V.heap.size≤f0'):
  ClM (fun k=>O k∨w.heap.size≤k) w' cb (A.up f0' c' fo' K' N' S') st cl (n+1) G kn nx col ro fs∧Else O w w':=by
 have hsz:=he.size
 have hsz2:=he2.size
 have hlt:=fun k hk=>h.lt (k:=k) hk
 have hcb:cb<w.heap.size:=hlt _ (.inr (.inr (.inl rfl)))
 have hob:A.ob<w.heap.size:=hlt _ (.inr (.inr (.inr (.inl rfl))))
 have hf0:A.f0<w.heap.size:=hlt _ (.inr (.inr (.inr (.inr (.inl rfl)))))
 have hKk:∀k,K'.ownBlock=some k→(A.K.ownBlock=some k∨w.heap.size≤k):=fun k hk=>by
  rcases hK with e|⟨b,e,hb⟩
  ·exact .inl (e ▸ hk)
  ·rw [e] at hk;cases hk;exact .inr hb
 have hNk:∀k,N'.ownBlock=some k→(A.N.ownBlock=some k∨w.heap.size≤k):=fun k hk=>by
  rcases hN with e|⟨b,e,hb⟩
  ·exact .inl (e ▸ hk)
  ·rw [e] at hk;cases hk;exact .inr hb
 have hSw:∀k,A.S k→k<w.heap.size:=h.sb
 have nK:∀k,K'.ownBlock=some k→¬ A.S k∧k≠cb∧k≠A.ob∧k≠A.f0:=fun k hk=>by
  rcases hKk k hk with e|e
  ·obtain ⟨a,b,c,d,_⟩:=h.ks k e
   exact ⟨a,b,c,d⟩
  ·exact ⟨fun x=>by have:=hSw k x;omega,by omega,by omega,by omega⟩
 have nN:∀k,N'.ownBlock=some k→¬ A.S k∧k≠cb∧k≠A.ob∧k≠A.f0:=fun k hk=>by
  rcases hNk k hk with e|e
  ·exact h.ns k e
  ·exact ⟨fun x=>by have:=hSw k x;omega,by omega,by omega,by omega⟩
 have kl:∀k,K'.ownBlock=some k→k<V.heap.size:=fun k hk=>(kr.lt k hk).2
 have nl:∀k,N'.ownBlock=some k→k<V.heap.size:=fun k hk=>(nr.lt k hk).2
 refine ⟨⟨.inl hs,?_,own_else kr he2 (fun k hk e=>e.elim (nK k hk).1 (nK k hk).2.1),own_else nr he2 (fun k hk e=>e.elim (nN k hk).1 (nN k hk).2.1),?_,fun k hk=>⟨fun x=>?_,(nK k hk).2.1,(nK k hk).2.2.1,?_,hKN k hk⟩,fun k hk=>⟨fun x=>?_,(nN k hk).2.1,(nN k hk).2.2.1,?_⟩,?_,hSb⟩,?_⟩
 ·refine GrM.stay (A:=A.up f0' c' fo' K' N' S') (w:=w) h.gr fun k hk=>?_
  have hk:A.D k:=hk
  have hkl:=h.gr.blocks hk
  have hd:=h.d k hk
  rw [he2.block k (by omega) (fun e=>hd (e.elim .inl fun e=>.inr (.inl e))),he.block k hkl fun e=>hd (by
   rcases e with e|e|e
   ·exact .inr (.inl e)
   ·exact .inr (.inr (.inr (.inr (.inl e))))
   ·exact .inr (.inr (.inr (.inr (.inr e)))))]
 ·intro k hk hF
  have hk:A.D k:=hk
  have hkl:=h.gr.blocks hk
  have hd:=h.d k hk
  rcases hF with e|e|e|e|e|e
  ·rcases hS k e with e|e
   ·exact hd (.inl e)
   ·omega
  ·exact hd (.inr (.inl e))
  ·exact hd (.inr (.inr (.inl e)))
  ·have e:k=f0':=e
   rcases hf with f|f
   ·exact hd (.inr (.inr (.inr (.inl (e.trans f)))))
   ·omega
  ·rcases hKk k e with e|e
   ·exact hd (.inr (.inr (.inr (.inr (.inl e)))))
   ·omega
  ·rcases hNk k e with e|e
   ·exact hd (.inr (.inr (.inr (.inr (.inr e)))))
   ·omega
 ·rcases hS k x with e|e
  ·exact (nK k hk).1 e
  ·have:=kl k hk;omega
 ·show k≠f0'
  rcases hf with f|f
  ·rw [f];exact (nK k hk).2.2.2
  ·have:=kl k hk;omega
 ·rcases hS k x with e|e
  ·exact (nN k hk).1 e
  ·have:=nl k hk;omega
 ·show k≠f0'
  rcases hf with f|f
  ·rw [f];exact (nN k hk).2.2.2
  ·have:=nl k hk;omega
 ·intro k hk
  rcases hk with hk|e|e|e|e|e|e
  ·exact .inl (h.own k (.inl hk))
  ·rcases hS k e with e|e
   ·exact .inl (h.own k (.inr (.inl e)))
   ·exact .inr (by omega)
  ·exact .inl (h.own k (.inr (.inr (.inl e))))
  ·exact .inl (h.own k (.inr (.inr (.inr (.inl e)))))
  ·have e:k=f0':=e
   rcases hf with f|f
   ·exact .inl (h.own k (.inr (.inr (.inr (.inr (.inl (e.trans f)))))))
   ·exact .inr (by omega)
  ·exact (hKk k e).imp (fun e=>h.own k (.inr (.inr (.inr (.inr (.inr (.inl e))))))) id
  ·exact (hNk k e).imp (fun e=>h.own k (.inr (.inr (.inr (.inr (.inr (.inr e))))))) id
 ·refine (he.mono fun k e=>?_).trans (he2.mono fun k e=>?_)
  ·rcases e with e|e|e
   ·exact h.own k (.inr (.inr (.inl e)))
   ·exact h.own k (.inr (.inr (.inr (.inr (.inr (.inl e))))))
   ·exact h.own k (.inr (.inr (.inr (.inr (.inr (.inr e))))))
  ·rcases e with e|e
   ·exact h.own k (.inr (.inl e))
   ·exact h.own k (.inr (.inr (.inl e)))
end
end
section
open Go.RowKit
open Un (Else StM rowI UFo own_else dg swp wp_world paint Ker)
set_option maxRecDepth 100000
section
variable {O T:Nat→Prop}{w w' V:World}{cb:Nat}{A:Adr}{st:Int}{cl:Bool}{n:Nat}{G:List Gn}{kn:Kn}{nx col ro col' ro':Nat→Nat}{fs fs':Int}
theorem UFo.like {S:Nat→Prop}{b:Nat}(h:UFo S w b n col ro fs) (hc:∀i,i<n→col' i=col i) (hr:∀i,i<n→ro' i=ro i):UFo S w b n col' ro' fs:=by
 have k:Ker n col col':=fun i j hi hj=>by rw [hc i hi,hc j hj]
 obtain ⟨a,z,x,par,sz,nx,rk,h1,h2,h3,h4,h5⟩:=h.ker k
 exact ⟨a,z,x,par,sz,nx,rk,h1,h2,h3,h4,fun i hi=>by rw [hr i hi];exact h5 i hi⟩
theorem StM.like {S:Nat→Prop}{x0 x1 x2 x6 x7:Value}{f0 c fo ob:Nat}(h:StM S w cb x0 x1 x2 f0 c fo ob x6 x7 n col ro fs) (hc:∀i,i<n→col' i=col i) (hr:∀i,i<n→ro' i=ro i):StM S w cb x0 x1 x2 f0 c fo ob x6 x7 n col' ro' fs:=
 ⟨h.blk,h.map,h.ncb,h.nob,h.nf0,h.row,UFo.like h.uf hc hr⟩
def Bare (w:World) (cb ob:Nat) (x0 x1 x2 x6 x7:Value):Prop:=w.heap[cb]? = some (Obj.cells #[x0,x1,x2,.slice none 0 0,.int .i64 0,.map (some ob),x6,x7] 150)
theorem add_any {S:Nat→Prop}{x0 x1 x2 x6 x7:Value}{f0 c fo ob:Nat}(h:StX S V cb x0 x1 x2 f0 c fo ob x6 x7 n col ro fs) (hz:n=0→Bare V cb ob x0 x1 x2 x6 x7) (hn:n<1048576) (hc:∀k,k<n→col k≠col n) (hr:ro n=n):
  Calls Tryz.prog 133 #[.pointer (some ⟨cb,3,none⟩)] V fun e w'=>e = .returned (.tuple #[])∧∃f0' c' fo' S',StM S' w' cb x0 x1 x2 f0' c' fo' ob x6 x7 (n+1) col ro fs∧(∀k,S' k→S k∨V.heap.size≤k)∧(∀k,S' k→k<w'.heap.size)∧(f0'=f0∨V.heap.size≤f0')∧Else (fun k=>S k∨k=cb) V w':=by
 by_cases h0:n=0
 ·subst h0
  have hb:=hz rfl
  unfold Bare at hb
  rcases h with h|⟨_,⟨e2,_⟩,e3,e4⟩
  ·have:=h.blk
   rw [hb] at this
   cases this
  ·refine (Un.add_new e3 e4).mono ?_
   rintro e w' ⟨rfl,⟨f0',c',fo',hf,hs⟩,hE⟩
   have hk:StM (fun k=>V.heap.size≤k∧k≠f0') w' cb x0 x1 x2 f0' c' fo' ob x6 x7 1 col (fun j=>j) 0:=by
    refine ⟨hs.blk,hs.map,hs.ncb,hs.nob,hs.nf0,hs.row,hs.uf.ker (d:=col) fun i j hi hj=>?_⟩
    obtain rfl:i=0:=by omega
    obtain rfl:j=0:=by omega
    exact ⟨fun _=>rfl,fun _=>rfl⟩
   have hk2:StM (fun k=>V.heap.size≤k∧k≠f0') w' cb x0 x1 x2 f0' c' fo' ob x6 x7 1 col ro 0:=by
    refine StM.like hk (fun _ _=>rfl) fun i hi=>?_
    obtain rfl:i=0:=by omega
    exact hr
   rw [←e2] at hk2
   exact ⟨rfl,f0',c',fo',_,Un.StM.tight hk2,fun k hk=>.inr hk.1.1,fun k hk=>hk.2,.inr hf,hE.mono fun k hk=>.inr hk⟩
 ·rcases h with h|⟨e1,_⟩
  ·refine (Un.add_st h (by omega) hn (col n) hc).mono ?_
   rintro e w' ⟨rfl,hs,hE⟩
   refine ⟨rfl,f0,c,fo,_,StM.like (Un.StM.tight hs) (fun i hi=>?_) (fun i hi=>?_),fun k hk=>hk.1,fun k hk=>hk.2,.inl rfl,hE⟩
   ·by_cases e:i=n
    ·subst e;rw [Un.upd_same]
    ·rw [Un.upd_other _ _ e]
   ·by_cases e:i=n
    ·subst e;rw [Un.upd_same];exact hr
    ·rw [Un.upd_other _ _ e]
  ·exact absurd e1 h0
theorem clsInfo:(Tryz.prog.info? 188).map (fun i=>(i.zero,i.size,i.bytes))=some (some (.agg #[.int .i64 0,.int .i64 0]),2,16):=by kernel_rfl
theorem app_cls (W:World) (v:Value) (m:Nat) (xs:List Value) (hown:W.ownsRow 0 188 2 v m xs) (a b:Int) (hm:m≤10000000):
  ∃g cp w1,(Un.app_ #[148,148] 148 #[v,.slice (some ⟨W.heap.size,0,none⟩) 1 1]).run Tryz.prog (W.alloc (.cells #[.int .i64 a,.int .i64 b] 188)) = .ok (.slice (some ⟨g,0,none⟩) (m+1) cp) w1∧
   w1.ownsRow 0 188 2 (.slice (some ⟨g,0,none⟩) (m+1) cp) (m+1) (xs ++ [.int .i64 a,.int .i64 b])∧(W.alloc (.cells #[.int .i64 a,.int .i64 b] 188)).grownBy w1 v.ownBlock∧(v.ownBlock=some g∨g=W.heap.size+1):=by
 obtain ⟨i0,hi0,hz0,hz1,hz2⟩:=Un.info_parts clsInfo
 have rd1:Rd (W.alloc (.cells #[.int .i64 a,.int .i64 b] 188)) 2 (.slice (some ⟨W.heap.size,0,none⟩) 1 1) 1 [.int .i64 a,.int .i64 b]:=rd_new W [.int .i64 a,.int .i64 b] 188 2 1 rfl (by unfold maxLen;omega)
 obtain ⟨v',w1,hrun,hown1,hg1,hat⟩:=run_append_rd (P:=Tryz.prog) _ 0 148 148 188 i0 _ 2 16 Tryz.underlying148 hi0 hz0 hz1 hz2 rfl (by omega) v m xs (hown.alloc _) _ 1 _ rd1 (by simp [Value.oneCell']) (by unfold maxLen;omega) (by omega) (by omega)
 obtain ⟨g,cp,rfl,_,_⟩:=Un.own_shape hown1 (by omega)
 refine ⟨g,cp,w1,hrun,hown1,hg1,?_⟩
 rcases hat with e|e
 ·exact .inl e.symm
 ·right
  have e:some g=some (W.heap.size+1):=by rw [←World.size_alloc W (.cells #[.int .i64 a,.int .i64 b] 188)];exact e
  injection e
end
end
section
open Go.RowKit
open Un (Else StM rowI UFo own_else dg swp wp_world paint)
set_option maxRecDepth 100000
attribute [local go_sem] Oper.semAt_some
attribute [local go_sem ↓] Un.builtin_app
section
variable {O T:Nat→Prop}{w w' V:World}{cb:Nat}{A:Adr}{st:Int}{cl:Bool}{n:Nat}{G:List Gn}{kn:Kn}{nx col ro col' ro':Nat→Nat}{fs fs':Int}
theorem ClM.owned {O':Nat→Prop}(h:ClM O w cb A st cl n G kn nx col ro fs) (ho:∀k,O k→O' k):ClM O' w cb A st cl n G kn nx col ro fs:=
 ⟨h.sets,h.gr,h.kr,h.nr,h.d,h.ks,h.ns,fun k hk=>ho k (h.own k hk),h.sb⟩
def GwR (O:Nat→Prop) (w:World) (cb:Nat) (st:Int) (cl:Bool) (n:Nat) (G:List Gn) (kn:Kn) (nx col ro:Nat→Nat) (fs:Int) (s:Value) (wr:World):Prop:=
 ∃(j:Nat) (A:Adr),s = .int .i64 (j:Nat)∧n≤j∧j≤G.length∧ClM (fun k=>O k∨w.heap.size≤k) wr cb A st cl j G kn nx col ro fs∧(j=0→Bare wr cb A.ob (.int .i64 st) (.bool cl) (.pointer (some ⟨A.g,0,none⟩)) A.K A.N)∧Else O w wr
set_option maxHeartbeats 4000000 in
theorem grow_cl (h:ClM O w cb A st cl n G kn nx col ro fs) (hz:n=0→Bare w cb A.ob (.int .i64 st) (.bool cl) (.pointer (some ⟨A.g,0,none⟩)) A.K A.N) (hn:n≤G.length) (hG:G.length≤1000000)
  (hkn:∀i p,n≤i→G[i]? = some p→kn i=if p.1=1 then (none,some i) else (some i,none)) (hnx:∀i,n≤i→nx i=i) (hro:∀i,n≤i→ro i=i) (hco:∀i k,n≤i→k<i→col k≠col i):
  Calls Tryz.prog 111 #[.pointer (some ⟨cb,0,none⟩)] w fun e w'=>e = .returned (.tuple #[])∧(∃A',ClM (fun k=>O k∨w.heap.size≤k) w' cb A' st cl G.length G kn nx col ro fs)∧Else O w w':=by
 obtain ⟨hl,hzf,c0,c1,c2,c6,c7⟩:=h.cells
 obtain ⟨AK,cK,hK,_,hcm⟩:=Un.own_form h.kr
 rw [hK] at c6
 have h0:GwR O w cb st cl n G kn nx col ro fs (.int .i64 (n:Nat)) w:=⟨n,A,rfl,Nat.le_refl _,hn,h.owned fun k hk=>.inl hk,hz,Else.refl _ _⟩
 have H0:=kI h0
 clear h hz hzf c0 c1 c2 c7 hK h0
 go_enter Tryz.func111,Tryz.ntmps111
 go_wp2_with fail
 go_loopw [2] (fun s wr=>GwR O w cb st cl n G kn nx col ro fs s wr) (fun s _=>G.length-(intOf s).toNat)
 case atStart=>exact H0.out
 case round=>
  obtain ⟨j,A1,rfl,hj,hjG,hC,hb,hE⟩:=hrel
  clear c6 hl H0
  obtain ⟨hl,hzf,c0,c1,c2,c6,c7⟩:=hC.cells
  have HL:=len_graph wr 0 A1.g A1.mb A1.V A1.L G hC.gr
  have HH:=kI (aI hC (aI hb hE))
  have hz0:=hzf
  clear hC hb hE c0 c1 hzf hz0
  by_cases hjl:j<G.length
  ·have f1:decide ((j:Int)<(G.length:Int))=true:=decide_eq_true (by omega)
   go_wp2_with fail
   refine HL.mono ?_
   rintro e w2 ⟨rfl,rfl⟩
   obtain ⟨p,hp⟩:∃p,G[j]? = some p:=⟨_,List.getElem?_eq_getElem hjl⟩
   have hkj:=hkn j p hj hp
   have hpp:G[j]=p:=(List.getElem?_eq_some_iff.1 hp).2
   obtain ⟨kk,hkk⟩:∃z,p.1=z:=⟨_,rfl⟩
   have HKJ:=kI (aI hkj (aI hpp hkk))
   clear hkj hpp hkk hp
   go_upto_region 4 with fail
   refine wp_world (fun V=>V.heap[w2.heap.size]? = some (Obj.cells #[.int .i64 (j:Nat),.int .i64 (-1)] 188)∧Below w2.heap.size w2 V) ⟨heap_alloc_new w2 _,(Below.refl _ w2).alloc (Nat.le_refl _) _⟩ ?_
   rintro V ⟨hx,hbV⟩
   clear hl c2 c6 c7 HL
   have hCV:=HH.out.1.below hbV
   obtain ⟨hl,hzf,c0,c1,c2,c6,c7⟩:=hCV.cells
   have HK:=kind_in V 0 A1.g A1.mb A1.V A1.L G hCV.gr j hjl
   rw [HKJ.out.2.1,HKJ.out.2.2] at HK
   have HX:=kI (aI hx hbV)
   clear hx hbV hCV hzf c0 c1
   go_upto_if 26 with (refine HK.mono ?_;rintro e w3 ⟨rfl,hb3⟩)
   have HB3:=kI hb3
   clear hb3 HK c2 c6 c7 hl
   have hx3:=(HB3.out.block _ (gL HX.out.1).1).trans HX.out.1
   have hxl:=(gL hx3).1
   have b0:w3.cell? ⟨w2.heap.size,0,none⟩=some (.int .i64 (j:Nat)):=cell_of_row w3 _ 0 _ _ (0,0) hx3
   have b1:w3.cell? ⟨w2.heap.size,1,none⟩=some (.int .i64 (-1)):=cell_of_row w3 _ 1 _ _ (0,0) hx3
   have z0:w3.frozen? ⟨w2.heap.size,0,none⟩=false:=by simp [World.frozen?,hx3]
   have z1:w3.frozen? ⟨w2.heap.size,1,none⟩=false:=by simp [World.frozen?,hx3]
   have HX3:=kI (aI hx3 (HX.out.2.trans (HB3.out.mono HX.out.2.size)))
   clear hx3 HX HB3
   go_cut [] from 9 to 52 (fun wx=>wx.heap[w2.heap.size]? = some (Obj.cells #[.int .i64 (oi (kn j).1),.int .i64 (oi (kn j).2)] 188)∧Below w2.heap.size w2 wx)
   case first=>
    by_cases hk1:kk=1
    ·have f2:(kk == 1)=true:=by simp [hk1]
     go_wp2_with fail
     go_meet
     obtain ⟨hx3,hb3⟩:=HX3.out
     have e1:kn j=(none,some j):=by rw [HKJ.out.1,if_pos (HKJ.out.2.2.trans hk1)]
     rw [e1]
     exact ⟨heap_setCell_same _ _ 1 _ _ (.int .i64 (j:Nat)) (heap_setCell_same w3 _ 0 _ _ (.int .i64 (-1)) hx3),(hb3.setCell (p:=⟨w2.heap.size,0,none⟩) (Nat.le_refl _) _).setCell (p:=⟨w2.heap.size,1,none⟩) (Nat.le_refl _) _⟩
    ·have f2:(kk == 1)=false:=by simp [hk1]
     go_wp2_with fail
     go_meet
     have e1:kn j=(some j,none):=by rw [HKJ.out.1,if_neg (fun e=>hk1 (HKJ.out.2.2.symm.trans e))]
     rw [e1]
     exact HX3.out
   case rest=>
    obtain ⟨hx,hbw⟩:=hcut
    obtain ⟨la,hla⟩:∃z,oi (kn j).1=z:=⟨_,rfl⟩
    obtain ⟨lb,hlb⟩:∃z,oi (kn j).2=z:=⟨_,rfl⟩
    rw [hla,hlb] at hx
    have hCw:=HH.out.1.below hbw
    obtain ⟨hl,hzf,_,_,_,c6,_⟩:=hCw.cells
    have b0:wc.cell? ⟨w2.heap.size,0,none⟩=some (.int .i64 la):=cell_of_row wc _ 0 _ _ (0,0) hx
    have b1:wc.cell? ⟨w2.heap.size,1,none⟩=some (.int .i64 lb):=cell_of_row wc _ 1 _ _ (0,0) hx
    obtain ⟨g6,p6,w6,run6,own6,gr6,at6⟩:=app_cls wc.drew A1.K j (knR j kn) (hCw.below (Below.refl _ wc).drew).kr la lb (by omega)
    have hE6:Else (fun k=>A1.K.ownBlock=some k) wc w6:=((Un.Else.drew (Else.refl _ wc)).trans (Un.Else.alloc _ _ _)).trans (Un.Else.grown gr6 fun k hk=>hk)
    obtain ⟨Fc,hFc⟩:=hCw.blk
    have hF6:=(hE6.block cb hl fun e=>(hCw.ks cb e).2.1 rfl).trans hFc
    have hl6:=(gL hF6).1
    have hz6:w6.frozen? ⟨cb,6,none⟩=false:=by simp [World.frozen?,hF6]
    have d6:w6.cell? ⟨cb,6,none⟩=some A1.K:=cell_of_row w6 cb 6 _ _ _ hF6
    obtain ⟨Ak,ck,hKe,_,_⟩:=Un.own_form hCw.kr
    rw [hKe] at c6 d6 run6
    have HW:=kI (aI hbw (aI hKe (aI hla (aI hlb (aI own6 (aI hE6 (aI hF6 (aI hFc at6))))))))
    clear hx hbw hCw hzf own6 gr6 at6 hE6 hF6 hFc hla hlb hKe HX3 hxl z0 z1
    go_upto_region 6 with fail
    go_cut [] from 9 to 52 (fun wx=>wx=w6.setCell ⟨cb,6,none⟩ (.slice (some ⟨g6,0,none⟩) (j+1) p6))
    case first=>
     go_region_law (refine step_app (by rfl) (.tmp 33) (.tmp 35) 148 (by rfl) (show (app_ #[148,148] 148 #[.slice Ak j ck,.slice (some ⟨wc.heap.size,0,none⟩) 1 1]).run _ _=_ from run6) (by rfl) (by rfl) ?_)
     all_goals (go_wp2_with fail;go_meet;rfl)
    case rest=>
     subst hcut
     obtain ⟨hbw,hKe,hla,hlb,own6,hE6,hF6,hFc,at6⟩:=HW.out
     have hCw:=HH.out.1.below hbw
     obtain ⟨V,hV⟩:∃V,w6.setCell ⟨cb,6,none⟩ (.slice (some ⟨g6,0,none⟩) (j+1) p6)=V:=⟨_,rfl⟩
     have hEV:Else (fun k=>k=cb∨A1.K.ownBlock=some k) wc V:=by rw [←hV];exact (hE6.mono fun k hk=>.inr hk).trans (Un.Else.set (S:=fun k=>k=cb∨A1.K.ownBlock=some k) w6 (p:=⟨cb,6,none⟩) (.inl rfl) _)
     have hFV:=heap_setCell_same w6 cb 6 _ _ (.slice (some ⟨g6,0,none⟩) (j+1) p6) hF6
     rw [hV] at hFV
     have nrV:=own_else hCw.nr hEV fun k hk e=>e.elim (hCw.ns k hk).2.1 fun e=>(hCw.ks k e).2.2.2.2 hk
     obtain ⟨g7,p7,w7,run7,own7,gr7,at7⟩:=Un.app_int V A1.N j _ nrV (j:Nat) (by omega)
     obtain ⟨An,cn,hNe,_,_⟩:=Un.own_form hCw.nr
     have hlV:=(gL hFV).1
     have e7:V.cell? ⟨cb,7,none⟩=some A1.N:=cell_of_row V cb 7 _ _ _ hFV
     rw [hNe] at e7 run7
     have hE7:Else (fun k=>A1.N.ownBlock=some k) V w7:=(Un.Else.alloc _ _ _).trans (Un.Else.grown gr7 fun k hk=>hk)
     have hF7:=(hE7.block cb hlV fun e=>(hCw.ns cb e).2.1 rfl).trans hFV
     have hl7:=(gL hF7).1
     have hz7:w7.frozen? ⟨cb,7,none⟩=false:=by simp [World.frozen?,hF7]
     have d7:w7.cell? ⟨cb,7,none⟩=some (.slice An j cn):=by rw [←hNe];exact cell_of_row w7 cb 7 _ _ _ hF7
     obtain ⟨V2,hV2⟩:∃V2,w7.setCell ⟨cb,7,none⟩ (.slice (some ⟨g7,0,none⟩) (j+1) p7)=V2:=⟨_,rfl⟩
     have hFV2:=heap_setCell_same w7 cb 7 _ _ (.slice (some ⟨g7,0,none⟩) (j+1) p7) hF7
     rw [hV2] at hFV2
     have hE72:Else (fun k=>k=cb∨A1.N.ownBlock=some k) V V2:=by rw [←hV2];exact (hE7.mono fun k hk=>.inr hk).trans (Un.Else.set (S:=fun k=>k=cb∨A1.N.ownBlock=some k) w7 (p:=⟨cb,7,none⟩) (.inl rfl) _)
     have hE2:Else (fun k=>k=cb∨A1.K.ownBlock=some k∨A1.N.ownBlock=some k) wc V2:=(hEV.mono fun k hk=>hk.imp id .inl).trans (hE72.mono fun k hk=>hk.imp id .inr)
     have hbb:∀F,wc.heap[cb]? = some (Obj.cells #[.int .i64 st,.bool cl,.pointer (some ⟨A1.g,0,none⟩),F,.int .i64 j,.map (some A1.ob),A1.K,A1.N] 150)→V2.heap[cb]? = some (Obj.cells #[.int .i64 st,.bool cl,.pointer (some ⟨A1.g,0,none⟩),F,.int .i64 j,.map (some A1.ob),.slice (some ⟨g6,0,none⟩) (j+1) p6,.slice (some ⟨g7,0,none⟩) (j+1) p7] 150):=by
      intro F hF
      rw [hFc] at hF
      cases hF
      exact hFV2
     have hSX:StX A1.S V2 cb (.int .i64 st) (.bool cl) (.pointer (some ⟨A1.g,0,none⟩)) A1.f0 A1.c A1.fo A1.ob (.slice (some ⟨g6,0,none⟩) (j+1) p6) (.slice (some ⟨g7,0,none⟩) (j+1) p7) j col ro fs:=by
      refine StX.rows hCw.sets hE2 (fun e=>?_) (fun hne e=>?_) (fun hS k hk e=>?_) hbb
      ·rcases e with e|e|e
       ·exact StX.obcb hCw.sets e
       ·exact (hCw.ks _ e).2.2.1 rfl
       ·exact (hCw.ns _ e).2.2.1 rfl
      ·rcases e with e|e|e
       ·exact hne e
       ·exact (hCw.ks _ e).2.2.2.1 rfl
       ·exact (hCw.ns _ e).2.2.2 rfl
      ·rcases e with e|e|e
       ·subst e;exact hS hk
       ·exact (hCw.ks _ e).1 hk
       ·exact (hCw.ns _ e).1 hk
     have hBare:j=0→Bare V2 cb A1.ob (.int .i64 st) (.bool cl) (.pointer (some ⟨A1.g,0,none⟩)) (.slice (some ⟨g6,0,none⟩) (j+1) p6) (.slice (some ⟨g7,0,none⟩) (j+1) p7):=by
      intro h0
      subst h0
      exact hbb _ ((hbw.block cb (gL (HH.out.2.1 rfl)).1).trans (HH.out.2.1 rfl))
     have g6s:A1.K.ownBlock=some g6∨g6=wc.heap.size+1:=at6
     have g6cb:g6≠cb:=by
      rcases g6s with e|e
      ·exact (hCw.ks g6 e).2.1
      ·omega
     have g6N:A1.N.ownBlock≠some g6:=by
      rcases g6s with e|e
      ·exact (hCw.ks g6 e).2.2.2.2
      ·intro e2
       have:=(hCw.nr.lt g6 e2).2
       omega
     have g7cb:g7≠cb:=by
      rcases at7 with e|e
      ·exact (hCw.ns g7 e).2.1
      ·omega
     have krV:V.ownsRow 0 188 2 (.slice (some ⟨g6,0,none⟩) (j+1) p6) (j+1) (knR (j+1) kn):=by
      rw [←hV,knR_snoc,hla,hlb]
      exact own_else own6 (Un.Else.set (S:=fun k=>k=cb) w6 (p:=⟨cb,6,none⟩) rfl _) fun k hk=>by cases hk;exact g6cb
     have krV2:=own_else krV hE72 fun k hk e=>by
      cases hk
      exact e.elim g6cb g6N
     have nrV2:V2.ownsRow 0 3 1 (.slice (some ⟨g7,0,none⟩) (j+1) p7) (j+1) (rowI (j+1) nx):=by
      rw [←hV2,Un.rowI_snoc,hnx j hj]
      exact own_else own7 (Un.Else.set (S:=fun k=>k=cb) w7 (p:=⟨cb,7,none⟩) rfl _) fun k hk=>by cases hk;exact g7cb
     have hKo:(Value.slice (some ⟨g6,0,none⟩) (j+1) p6).ownBlock=A1.K.ownBlock∨∃b,(Value.slice (some ⟨g6,0,none⟩) (j+1) p6).ownBlock=some b∧wc.heap.size≤b:=by
      rcases g6s with e|e
      ·exact .inl e.symm
      ·exact .inr ⟨g6,rfl,by omega⟩
     have hNo:(Value.slice (some ⟨g7,0,none⟩) (j+1) p7).ownBlock=A1.N.ownBlock∨∃b,(Value.slice (some ⟨g7,0,none⟩) (j+1) p7).ownBlock=some b∧wc.heap.size≤b:=by
      rcases at7 with e|e
      ·exact .inl e.symm
      ·exact .inr ⟨g7,rfl,by have:=hEV.size;omega⟩
     have hKN:∀k,(Value.slice (some ⟨g6,0,none⟩) (j+1) p6).ownBlock=some k→(Value.slice (some ⟨g7,0,none⟩) (j+1) p7).ownBlock≠some k:=by
      intro k hk hk2
      have e6:g6=k:=Option.some.inj hk
      have e7:g7=k:=Option.some.inj hk2
      obtain ⟨_,h6⟩:=own_cells krV2 (by omega)
      obtain ⟨_,h7⟩:=own_cells nrV2 (by omega)
      rw [e6] at h6
      rw [e7,h6] at h7
      cases h7
     have HADD:=add_any hSX hBare (by omega) (fun k hk=>hco j k hj hk) (hro j hj)
     have hlV2:=(gL hFV2).1
     have HQ:=kI (aI hCw (aI hE2 (aI krV2 (aI nrV2 (aI hKo (aI hNo (aI hKN hbw)))))))
     clear g6s g6cb g6N g7cb krV krV2 nrV2 hKo hNo hKN hCw hE2 own6 own7 at6 at7 hE72 hE7 hSX hBare hbb hFV2 hF7 hFV hEV nrV gr7 hbw hKe hla hlb hE6 hF6 hFc hNe HW b0 b1 c6 d6 run6 hl6 hz6
     rw [hV]
     clear hV
     go_wp2_with fail
     refine HADD.mono ?_
     rintro e w8 ⟨rfl,f0',c',fo',S',hs,hS1,hS2,hf,hE8⟩
     have HZ:=kI (aI hs (aI hS1 (aI hS2 (aI hf hE8))))
     clear hs hS1 hS2 hf hE8 HADD
     go_wp2_with fail
     obtain ⟨hCw,hE2,krV2,nrV2,hKo,hNo,hKN,hbw⟩:=HQ.out
     obtain ⟨hs,hS1,hS2,hf,hE8⟩:=HZ.out
     obtain ⟨r1,r2⟩:=grow_fin hCw hE2 krV2 nrV2 hKo hNo hKN hE8 hs hS1 hS2 hf
     have hsz:w.heap.size≤w2.heap.size:=HH.out.2.2.size
     have hsz2:=hbw.size
     refine ⟨⟨j+1,A1.up f0' c' fo' _ _ S',congrArg (Value.int .i64) (by omega),by omega,by omega,r1.owned fun k hk=>?_,fun h0=>by omega,?_⟩,?_⟩
     ·rcases hk with hk|hk
      ·exact hk
      ·exact .inr (by omega)
     ·exact ((HH.out.2.2.mono fun k hk=>.inl hk).trans ((Else.of_below (S:=fun k=>O k∨w.heap.size≤k) hbw).trans r2)).old fun k hk=>hk
     ·show G.length-(intOf (.int .i64 ((j:Int)+1))).toNat<G.length-(intOf (.int .i64 (j:Nat))).toNat
      simp only [intOf]
      omega
  ·obtain rfl:j=G.length:=by omega
   have f1:decide ((G.length:Int)<(G.length:Int))=false:=decide_eq_false (by omega)
   go_wp2_with fail
   refine HL.mono ?_
   rintro e w2 ⟨rfl,rfl⟩
   go_wp2_with fail
   exact bodyPost_end (results_none rfl _ _ _) rfl ⟨rfl,⟨A1,HH.out.1⟩,HH.out.2.2⟩
end
end
end Go.Proofs.YtmamdiggjghjkaaGreatDoor
