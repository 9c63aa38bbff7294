/- Texts of one proof, one behind the other. -/
import Derived.Test.YtmamdiggjghjkaaGreatDoorMgSolveOrder1
import Derived.Test.YtmamdiggjghjkaaGreatDoorMgSolveOrder30
import Derived.Test.YtmamdiggjghjkaaGreatDoorMgSolveOrder24
import Derived.Test.YtmamdiggjghjkaaGreatDoorMgSolveOrder3
set_option linter.unusedVariables false
namespace Go.Proofs.YtmamdiggjghjkaaGreatDoor
section
open Go.RowKit
open Un (Else StM rowI UFo own_else dg swp wp_world paint)
attribute [local go_sem] Oper.semAt_some
attribute [local go_sem ↓] builtin_app
set_option maxRecDepth 100000
def mnV (t:Ty1) (z:Nat):Value:=.agg #[.int .i64 t.1,.int .i64 t.2.1,slv t.2.2.1,.int .i64 (z:Nat)]
theorem zeroMn (w:World):(zeroValue 139).run Tryz.prog w = .ok (.agg #[.int .i64 0,.int .i64 0,.slice none 0 0,.int .i64 0]) w:=by kernel_rfl
theorem mnTy:MapTy 78 139 (.agg #[.int .i64 0,.int .i64 0,.slice none 0 0,.int .i64 0]):=⟨Tryz.underlying78,zeroMn⟩
def knF (D:List Nat) (tt:Nat→Ty1) (z:Nat→Nat) (n:Int):Option Value:=if 0≤n∧n.toNat∈D then some (mnV (tt n.toNat) (z n.toNat)) else none
theorem knF_at {D:List Nat}{r:Nat}(h:r∈D) (tt:Nat→Ty1) (z:Nat→Nat) (v:Value):(knF D tt z (r:Int)).getD v=mnV (tt r) (z r):=by
 unfold knF
 rw [if_pos ⟨by omega,by simpa using h⟩]
 simp
theorem knF_upd {D:List Nat}{r:Nat}(h:r ∉ D) (tt:Nat→Ty1) (z:Nat→Nat) (t:Ty1):upd (knF D tt z) (r:Int) (mnV t (z r))=knF (D ++ [r]) (fun x=>if x=r then t else tt x) z:=by
 funext m
 unfold upd knF
 by_cases hm:m=r
 ·subst hm
  rw [if_pos rfl,if_pos ⟨by omega,by simp⟩]
  simp
 ·rw [if_neg hm]
  have hne:0≤m→m.toNat≠r:=fun h e=>hm (by omega)
  by_cases h1:0≤m∧m.toNat∈D
  ·rw [if_pos h1,if_pos ⟨h1.1,List.mem_append_left _ h1.2⟩]
   simp only [if_neg (hne h1.1)]
  ·rw [if_neg h1,if_neg (fun e=>h1 ⟨e.1,by
    rcases List.mem_append.1 e.2 with h2|h2
    ·exact h2
    ·exact absurd (by simpa using h2) (hne e.1)⟩)]
theorem app_tyr (W:World) (v:Value) (L:List Ty1) (base:Nat) (hb:base≤W.heap.size) (hown:W.ownsRow base 25 3 v L.length (rowC L)) (t:Ty1) (hm:L.length≤100000):
  ∃g cp w1,(app_ #[23,23] 23 #[v,.slice (some ⟨W.heap.size,0,none⟩) 1 1]).run Tryz.prog (W.alloc (.cells #[.int .i64 t.1,.int .i64 t.2.1,slv t.2.2.1] 25)) = .ok (.slice (some ⟨g,0,none⟩) (L.length+1) cp) w1∧
   w1.ownsRow base 25 3 (.slice (some ⟨g,0,none⟩) (L.length+1) cp) (L ++ [t]).length (rowC (L ++ [t]))∧(W.alloc (.cells #[.int .i64 t.1,.int .i64 t.2.1,slv t.2.2.1] 25)).grownBy w1 v.ownBlock∧(v.ownBlock=some g∨g=W.heap.size+1):=by
 obtain ⟨i0,hi0,hz0,hz1,hz2⟩:=Un.info_parts tyInfo
 have rd1:Rd (W.alloc (.cells #[.int .i64 t.1,.int .i64 t.2.1,slv t.2.2.1] 25)) 3 (.slice (some ⟨W.heap.size,0,none⟩) 1 1) 1 [.int .i64 t.1,.int .i64 t.2.1,slv t.2.2.1]:=rd_new W [.int .i64 t.1,.int .i64 t.2.1,slv t.2.2.1] 25 3 1 rfl (by unfold maxLen;omega)
 obtain ⟨v',w1,hrun,hown1,hg1,hat⟩:=run_append_rd (P:=Tryz.prog) _ base 23 23 25 i0 _ 3 40 Tryz.underlying23 hi0 hz0 hz1 hz2 rfl (by omega) v L.length (rowC L) (hown.alloc _) _ 1 _ rd1 (by simp [Value.oneCell',slv]) (by unfold maxLen;omega) (by omega) (by simp;omega)
 obtain ⟨g,cp,rfl,_,_⟩:=Un.own_shape hown1 (by omega)
 refine ⟨g,cp,w1,hrun,?_,hg1,?_⟩
 ·rw [rowC_app,List.length_append];exact hown1
 rcases hat with e|e
 ·exact .inl e.symm
 ·right
  have e:some g=some (W.heap.size+1):=by rw [←World.size_alloc W (.cells #[.int .i64 t.1,.int .i64 t.2.1,slv t.2.2.1] 25)];exact e
  injection e
def TellJ (sb kb cb:Nat) (w0:World) (G:List Gn) (ro:Nat→Nat) (D:List Nat) (W:World):Prop:=
 W.heap[sb]? = some (Obj.cells #[.pointer (some ⟨cb,0,none⟩),.map (some kb)] 80)∧w0.heap.size≤W.heap.size∧∃(tt:Nat→Ty1) (S:Nat),MapF (knF D tt fun r=>tsz (mnR G ro r)) S D.length kb W∧∀r∈D,tpOf (tt r)=mnR G ro r∧FreshT 25 w0.heap.size W idn (tt r).2.2.2 (tt r).2.2.1
theorem TellJ.keep {sb kb cb:Nat}{w0 W W':World}{G:List Gn}{ro:Nat→Nat}{D:List Nat}{S:Nat→Prop}(h:TellJ sb kb cb w0 G ro D W) (hk:KJ w0 S W W') (h1:sb<w0.heap.size∧¬ S sb) (h2:kb<w0.heap.size∧¬ S kb):TellJ sb kb cb w0 G ro D W':=by
 obtain ⟨a,b,tt,Sz,hm,hf⟩:=h
 exact ⟨(hk.2.1 sb h1.1 h1.2).trans a,Nat.le_trans b hk.1,tt,Sz,hm.block (hk.2.1 kb h2.1 h2.2),fun r hr=>⟨(hf r hr).1,(hf r hr).2.to hk.1 hk.2.2⟩⟩
theorem sum_take_ (P:List Nat) (f:Nat→Nat):∀k,((P.take k).map f).sum≤(P.map f).sum:=by
 induction P with
 | nil=>intro k;simp
 | cons x P ih=>
  intro k
  cases k with
  | zero=>simp
  | succ k=>
   have:=ih k
   rw [List.take_succ_cons,List.map_cons,List.map_cons,List.sum_cons,List.sum_cons]
   omega
theorem take_sum (C:List Nat) (f:Nat→Nat) {j x:Nat}(hx:C[j]? = some x):((C.take (j+1)).map f).sum=((C.take j).map f).sum+f x:=by
 rw [List.take_add_one,hx,List.map_append,List.sum_append]
 simp
theorem take_sum_le (C:List Nat) (f:Nat→Nat) (j:Nat):((C.take j).map f).sum≤(C.map f).sum:=sum_take_ C f j
def B8At (Y7:World) (k1 n1:Int) (u:Sl) (q:Nat) (s8:Value) (Z8:World):Prop:=∃b8:Nat,s8 = .pointer (some ⟨b8,0,none⟩)∧Below Y7.heap.size Y7 Z8∧Y7.heap.size≤b8∧Z8.heap[b8]? = some (Obj.cells #[.int .i64 k1,.int .i64 n1,slv u,.int .i64 (q:Nat)] 139)
section SvHs
variable {O:Nat→Prop}{cb:Nat}{A:Adr}{st:Int}{G:List Gn}{kn:Kn}{nx col ro:Nat→Nat}{E:List (Nat×Nat)}
set_option maxHeartbeats 16000000 in
theorem visit_any (hB:Both G col ro kn E ro) (ha:∀i,i<G.length→AccC G ro (ro i)) (hz:∀i,i<G.length→tsz (mnR G ro (ro i))≤1000000) (hP:∀p∈G,p.2.2.2.length≤8∧∀u∈p.2.2.2,u<G.length) (hro:∀i,i<G.length→ro i<G.length) (hG:G.length≤70000) (w0:World) (sb kb:Nat) (hsb:sb<w0.heap.size) (hkb:kb<w0.heap.size) (hne:sb≠kb) (hkA:∀k,A.D k∨A.F cb k→k≠kb):
  VisOk (fun r=>∃i,i<G.length∧ro i=r) 81 #[.pointer (some ⟨sb,0,none⟩)] cb G.length (chR G kn ro) (fun k=>k=kb) (TellJ sb kb cb w0 G ro) (fun W=>∃f,ClM O W cb A st false G.length G kn nx col ro f):=by
 intro D W r P hQ hJ hrd hch hrD hrn hR hDl
 obtain ⟨f0,hC⟩:=hQ
 obtain ⟨hbx,hws,tt,S,hm,hk⟩:=hJ
 obtain ⟨P1,P2,P3⟩:=P
 obtain ⟨ri,hri,hre⟩:=hR
 have hrr:ro r=r:=by rw [←hre];exact ro_ro hB hri
 obtain ⟨C,hCC⟩:∃C,chR G kn ro r=C:=⟨_,rfl⟩
 have hC8:C.length≤8:=by rw [←hCC];exact chR_le hP r
 rw [hCC] at hrd hch
 obtain ⟨kk0,hk0⟩:∃k,kindO G (kn r).1=k:=⟨_,rfl⟩
 have hacr:AccC G ro (ro r):=ha r hrn
 have hszr:tsz (mnR G ro r)=1+(C.map fun u=>tsz (mnR G ro u)).sum:=by
  have h:=mn_size hB hrn hacr
  rw [hrr,hCC] at h
  exact h
 have hzr:tsz (mnR G ro r)≤1000000:=by have h:=hz r hrn;rwa [hrr] at h
 have hmn:(kk0=0→mnR G ro r=(1,leastV G (kn r).2,.nil)∧C=[]∧∀l,(kn r).2=some l→∃p,G[l]? = some p∧p.1=1)∧(kk0≠0→mnR G ro r=(kk0,0,tpRow (C.map fun u=>mnR G ro u))):=by
  constructor
  ·intro h0
   have h:=mn_var hB hrn hacr (by rw [hrr,hk0];exact h0)
   rw [hrr,hCC] at h
   obtain ⟨h1,h2,l,h3,h4⟩:=h
   exact ⟨h1,h2,fun l' hl'=>by rw [h3] at hl';cases hl';exact h4⟩
  ·intro h0
   have h:=(mn_node hB hrn hacr (by rw [hrr,hk0];exact h0)).2
   rw [hrr,hCC,hk0] at h
   exact h
 have hb0:Below W.heap.size W (W.alloc (.cells #[.pointer (some ⟨cb,0,none⟩),.int .i64 (r:Nat)] 136)):=(Below.refl _ _).alloc (Nat.le_refl _) _
 have hx0:=heap_alloc_new W (.cells #[.pointer (some ⟨cb,0,none⟩),.int .i64 (r:Nat)] 136)
 have hP2:P2=C.length:=by
  obtain ⟨A',c',hv⟩:=hrd.form
  have hv:Value.slice P1 P2 P3 = .slice A' C.length c':=hv
  injection hv
 subst hP2
 have HKD:=kI (pkind_cl (hC.below hb0) r hrn)
 rw [hk0] at HKD
 have HPR:=kI (aI hP hro)
 have H:=kI (aI hC (aI hbx (aI hws (aI hm (aI hk (aI hrd (aI hch (aI hrD (aI hrn (aI hDl (aI hCC hC8)))))))))))
 have HM:=kI (aI hszr (aI hzr hmn))
 have HK0:=kI hk0
 have HS:=kI (aI hsb (aI hkb (aI hne (aI hkA hG))))
 have H0:=kI (aI hb0 hx0)
 clear hC hbx hws hm hk hrd hch hrD hrn hDl hCC hC8 hszr hzr hmn hsb hkb hne hb0 hx0 hri hre hrr hacr hk0 hB ha hz hP hkA hG hro
 show Calls _ _ #[.agg #[.pointer (some ⟨cb,0,none⟩),.int .i64 (r:Nat)],.slice P1 C.length P3,.pointer (some ⟨sb,0,none⟩)] W _
 go_enter Tryz.func81,Tryz.ntmps81
 go_wp2_with fail
 refine (show Calls _ _ #[.agg #[.pointer (some ⟨cb,0,none⟩),.int .i64 (r:Nat)]] _ _ from HKD.out).mono ?_
 clear HKD
 rintro x w1 ⟨rfl,hb1⟩
 have hx1:=(hb1.block _ (gL H0.out.2).1).trans H0.out.2
 have z0:w1.cell? ⟨W.heap.size,0,none⟩=some (.pointer (some ⟨cb,0,none⟩)):=cell_of_row w1 _ 0 _ _ (0,0) hx1
 have z1:w1.cell? ⟨W.heap.size,1,none⟩=some (.int .i64 (r:Nat)):=cell_of_row w1 _ 1 _ _ (0,0) hx1
 have hW1:=H0.out.1.trans (hb1.mono H0.out.1.size)
 have H1:=kI (aI hx1 (aI hW1 (gL hx1).1))
 clear hb1 hx1 hW1
 go_upto_region 2 with fail
 refine wp_world (fun Y=>Below w1.heap.size w1 Y∧Y.heap[w1.heap.size]? = some (Obj.cells #[.int .i64 kk0,.int .i64 0,.slice none 0 0,.int .i64 1] 139)) ⟨(Below.refl _ _).alloc (Nat.le_refl _) _,heap_alloc_new w1 _⟩ ?_
 rintro Y ⟨hY,hxY⟩
 have hY0:=(hY.block _ H1.out.2.2).trans H1.out.1
 have y0:Y.cell? ⟨W.heap.size,0,none⟩=some (.pointer (some ⟨cb,0,none⟩)):=cell_of_row Y _ 0 _ _ (0,0) hY0
 have y1:Y.cell? ⟨W.heap.size,1,none⟩=some (.int .i64 (r:Nat)):=cell_of_row Y _ 1 _ _ (0,0) hY0
 have hWY:=H1.out.2.1.trans (hY.mono H1.out.2.1.size)
 have hCY:=H.out.1.below hWY
 have HKD:=kI (pkind_cl hCY r H.out.2.2.2.2.2.2.2.2.1)
 rw [HK0.out] at HKD
 have HPV:Hid (kk0=0→∀W',Below Y.heap.size Y W'→Calls Tryz.prog 83 #[ptV (some cb) (r:Nat)] W' fun e w'=>e = .returned (.int .i64 (leastV G (kn r).2))∧Below W'.heap.size W' w'):=kI fun h0 W' hW'=>pvar_cl (hCY.below hW') r H.out.2.2.2.2.2.2.2.2.1 ((HM.out.2.2.1 h0).2.2)
 have HY:=kI (aI hWY (aI hY0 hxY))
 clear hY hxY hY0 hWY hCY z0 z1
 go_wp2_with fail
 refine (show Calls _ _ #[.agg #[.pointer (some ⟨cb,0,none⟩),.int .i64 (r:Nat)]] _ _ from HKD.out).mono ?_
 clear HKD
 rintro x w2 ⟨rfl,hb2⟩
 have HB2:=kI hb2
 clear hb2
 rcases Classical.em (kk0=0) with h0|h0
 have g1:(kk0 == 0)=true:=by simpa using h0
 obtain ⟨lv,hlv⟩:∃lv,leastV G (kn r).2=lv:=⟨_,rfl⟩
 have HMN:Hid (mnR G ro r=(1,lv,tpRow (C.map fun u=>mnR G ro u))):=kI (by
  obtain ⟨a,b,_⟩:=HM.out.2.2.1 h0
  rw [a,b,hlv]
  rfl)
 have HPW:=kI (HPV.out h0 w2 HB2.out)
 rw [hlv] at HPW
 have hY2:=(HB2.out.block _ (gL HY.out.2.1).1).trans HY.out.2.1
 have x0:w2.cell? ⟨W.heap.size,0,none⟩=some (.pointer (some ⟨cb,0,none⟩)):=cell_of_row w2 _ 0 _ _ (0,0) hY2
 have x1:w2.cell? ⟨W.heap.size,1,none⟩=some (.int .i64 (r:Nat)):=cell_of_row w2 _ 1 _ _ (0,0) hY2
 clear h0 hlv hY2 y0 y1
 go_wp2_with fail
 refine (show Calls _ _ #[.agg #[.pointer (some ⟨cb,0,none⟩),.int .i64 (r:Nat)]] _ _ from HPW.out).mono ?_
 clear HPW
 rintro x w3 ⟨rfl,hb3⟩
 have HB3:=kI hb3
 clear hb3
 go_wp2_with fail
 refine (var_any _ w3).mono ?_
 rintro x w4 ⟨rfl,hb4⟩
 have hY4:Below Y.heap.size Y w4:=HB2.out.trans ((HB3.out.trans (hb4.mono HB3.out.size)).mono HB2.out.size)
 have h54:=(hY4.block _ (gL HY.out.2.2).1).trans HY.out.2.2
 have e0:w4.cell? ⟨w1.heap.size,0,none⟩=some (.int .i64 kk0):=cell_of_row w4 _ 0 _ _ (0,0) h54
 have e1:w4.cell? ⟨w1.heap.size,1,none⟩=some (.int .i64 0):=cell_of_row w4 _ 1 _ _ (0,0) h54
 have e2:w4.cell? ⟨w1.heap.size,2,none⟩=some (.slice none 0 0):=cell_of_row w4 _ 2 _ _ (0,0) h54
 have z0:w4.frozen? ⟨w1.heap.size,0,none⟩=false:=by simp [World.frozen?,h54]
 have z1:w4.frozen? ⟨w1.heap.size,1,none⟩=false:=by simp [World.frozen?,h54]
 have z2:w4.frozen? ⟨w1.heap.size,2,none⟩=false:=by simp [World.frozen?,h54]
 have H4:=kI (aI hY4 h54)
 clear hb4 hY4 h54 x0 x1
 unfold tyVal
 go_upto_region 4 with fail
 refine wp_world (fun Z=>∃ak an:Int,mnR G ro r=(ak,an,tpRow (C.map fun u=>mnR G ro u))∧Below W.heap.size W Z∧Z.heap[W.heap.size]? = some (Obj.cells #[.pointer (some ⟨cb,0,none⟩),.int .i64 (r:Nat)] 136)∧Z.heap[w1.heap.size]? = some (Obj.cells #[.int .i64 ak,.int .i64 an,.slice none 0 0,.int .i64 (1:Nat)] 139)) ?_ ?_
 ·have hE:Else (fun k=>k=w1.heap.size) w4 (((w4.setCell ⟨w1.heap.size,0,none⟩ (.int .i64 1)).setCell ⟨w1.heap.size,1,none⟩ (.int .i64 lv)).setCell ⟨w1.heap.size,2,none⟩ (.slice none 0 0)):=((Un.Else.set (S:=fun k=>k=w1.heap.size) w4 (p:=⟨w1.heap.size,0,none⟩) rfl _).trans (Un.Else.set (S:=fun k=>k=w1.heap.size) _ (p:=⟨w1.heap.size,1,none⟩) rfl _)).trans (Un.Else.set (S:=fun k=>k=w1.heap.size) _ (p:=⟨w1.heap.size,2,none⟩) rfl _)
  refine ⟨1,lv,HMN.out,(HY.out.1.trans (H4.out.1.mono HY.out.1.size)).trans (hE.below (fun k hk=>by subst hk;have:=H1.out.2.2;omega) (by have:=HY.out.1.size;have:=H4.out.1.size;omega)),?_,?_⟩
  ·exact (hE.block _ (by have:=(gL HY.out.2.1).1;have:=H4.out.1.size;omega) (fun h=>by have:=H1.out.2.2;omega)).trans ((H4.out.1.block _ (gL HY.out.2.1).1).trans HY.out.2.1)
  ·exact heap_setCell_same _ _ 2 _ _ _ (heap_setCell_same _ _ 1 _ _ _ (heap_setCell_same _ _ 0 _ _ _ H4.out.2))
 rintro Z ⟨ak,an,hMN,hz1,hz2,hz3⟩
 have HZ:=kI (aI hz1 (aI hz2 hz3))
 clear HMN hz1 hz2 hz3 e0 e1 e2 z0 z1 z2
 have HMN:=kI hMN
 clear hMN
 rotate_left
 have g1:(kk0 == 0)=false:=by simpa using h0
 have HMN:Hid (mnR G ro r=(kk0,0,tpRow (C.map fun u=>mnR G ro u))):=kI (HM.out.2.2.2 h0)
 clear h0
 go_upto_region 4 with fail
 refine wp_world (fun Z=>∃ak an:Int,mnR G ro r=(ak,an,tpRow (C.map fun u=>mnR G ro u))∧Below W.heap.size W Z∧Z.heap[W.heap.size]? = some (Obj.cells #[.pointer (some ⟨cb,0,none⟩),.int .i64 (r:Nat)] 136)∧Z.heap[w1.heap.size]? = some (Obj.cells #[.int .i64 ak,.int .i64 an,.slice none 0 0,.int .i64 (1:Nat)] 139)) ⟨kk0,0,HMN.out,HY.out.1.trans (HB2.out.mono HY.out.1.size),(HB2.out.block _ (gL HY.out.2.1).1).trans HY.out.2.1,(HB2.out.block _ (gL HY.out.2.2).1).trans HY.out.2.2⟩ ?_
 rintro Z ⟨ak,an,hMN,hz1,hz2,hz3⟩
 have HZ:=kI (aI hz1 (aI hz2 hz3))
 clear HMN hz1 hz2 hz3 y0 y1
 have HMN:=kI hMN
 clear hMN
 all_goals
  try rw [g1]
  go_wp2_with fail
  try rw [g1]
  go_loopw [22] (fun s22 wr=>∃(j z:Nat) (v:Value),s22 = .int .i64 (j:Nat)∧j≤C.length∧z=1+((C.take j).map fun u=>tsz (mnR G ro u)).sum∧wr.heap[w1.heap.size]? = some (Obj.cells #[.int .i64 ak,.int .i64 an,v,.int .i64 (z:Nat)] 139)∧wr.heap[W.heap.size]? = some (Obj.cells #[.pointer (some ⟨cb,0,none⟩),.int .i64 (r:Nat)] 136)∧wr.ownsRow W.heap.size 25 3 v ((C.take j).map tt).length (rowC ((C.take j).map tt))∧Below W.heap.size W wr) (fun s _=>C.length-(intOf s).toNat)
  case atStart=>exact ⟨0,1,.slice none 0 0,rfl,Nat.zero_le _,by simp,HZ.out.2.2,HZ.out.2.1,World.ownsRow_nil _ _ _ _,HZ.out.1⟩
  case round=>
   obtain ⟨j,z,v,rfl,hj,hz,hb5,hb3,ho,hb⟩:=hrel
   obtain ⟨Av,cv,rfl,_,_⟩:=Un.own_form ho
   have hml:((C.take j).map tt).length=j:=by rw [List.length_map,List.length_take,Nat.min_eq_left hj]
   have hz2:z≤1000000:=by have h1:=take_sum_le C (fun u=>tsz (mnR G ro u)) j;have h2:=HM.out.1;have h3:=HM.out.2.1;omega
   have HT:=kI (aI hz (aI hb5 (aI hb3 (aI ho (aI hb (aI hml hz2))))))
   have HC8:C.length≤8:=H.out.2.2.2.2.2.2.2.2.2.2.2
   clear hz hml ho hz2
   by_cases hjl:j<C.length
   ·have f1:decide ((j:Int)<(C.length:Int))=true:=decide_eq_true (by omega)
    have f2:decide (j<C.length)=true:=decide_eq_true hjl
    obtain ⟨x,hx⟩:∃x,C[j]? = some x:=⟨_,List.getElem?_eq_getElem hjl⟩
    obtain ⟨bp,op,cp,hsh,hcp,hcm,hbp,hcc⟩:=H.out.2.2.2.2.2.1.2.resolve_left (by rintro ⟨h,_⟩;omega)
    have hsh:Value.slice P1 C.length P3 = .slice (some ⟨bp,op,none⟩) C.length cp:=hsh
    injection hsh with hA1 _ hA3
    subst hA1;subst hA3
    have hpc:=ptC_at cb C j x hx
    have x0:wr.cell? ⟨bp,op+j*2,none⟩=some (.pointer (some ⟨cb,0,none⟩)):=(hb.cell (p:=⟨bp,op+j*2,none⟩) hbp).trans (hcc _ _ hpc.1)
    have x1:wr.cell? ⟨bp,op+j*2+1,none⟩=some (.int .i64 (x:Nat)):=(hb.cell (p:=⟨bp,op+j*2+1,none⟩) hbp).trans (by have h:=hcc _ _ hpc.2;rwa [show op+(j*2+1)=op+j*2+1 by omega] at h)
    have hxD:x∈D:=H.out.2.2.2.2.2.2.1 x (List.mem_of_getElem? hx)
    have HX:=kI (aI hx hxD)
    clear hx hpc hcc hcm hxD hbp
    go_upto_region 7 with fail
    refine wp_world (fun Y=>Below wr.heap.size wr Y∧Y.heap[wr.heap.size]? = some (Obj.cells #[.pointer (some ⟨cb,0,none⟩),.int .i64 (x:Nat)] 136)) ⟨(Below.refl _ _).alloc (Nat.le_refl _) _,heap_alloc_new wr _⟩ ?_
    rintro Y7 ⟨hY,hxY⟩
    clear x0 x1
    have hWY:=HT.out.2.2.2.2.1.trans (hY.mono HT.out.2.2.2.2.1.size)
    have hmY:=H.out.2.2.2.1.below hWY
    have hsY:=(hWY.block _ (gL H.out.2.1).1).trans H.out.2.1
    obtain ⟨⟨k1,n1,⟨u1,u2,u3⟩,ps1⟩,htx⟩:∃t,tt x=t:=⟨_,rfl⟩
    obtain ⟨q,hq⟩:∃q,tsz (mnR G ro x)=q:=⟨_,rfl⟩
    have hrw:(Lit.int .i64 (x:Nat)).wf=true:=by
     have h:=wrap64_wf (x:Nat)
     rwa [IntWalk.wrap64_in _ (by
      have h1:=chR_lt (n:=G.length) (kn:=kn) HPR.out.1 HPR.out.2 r x (by rw [H.out.2.2.2.2.2.2.2.2.2.2.1];exact List.mem_of_getElem? HX.out.1)
      have:=HS.out.2.2.2.2
      omega)] at h
    have EX:Hid (∀W',Below Y7.heap.size Y7 W'→W'.cell? ⟨sb,1,none⟩=some (.map (some kb))∧W'.cell? ⟨wr.heap.size,0,none⟩=some (.pointer (some ⟨cb,0,none⟩))∧W'.cell? ⟨wr.heap.size,1,none⟩=some (.int .i64 (x:Nat))∧(Instr.lookup 78 (.map (some kb)) (.int .i64 (x:Nat)) false).run Tryz.prog W' = .ok (.agg #[.int .i64 k1,.int .i64 n1,.slice u1 u2 u3,.int .i64 (q:Nat)]) W'):=kI fun W' hW=>by
     have hb:=(hW.block _ (gL hxY).1).trans hxY
     have hs:=(hW.block _ (gL hsY).1).trans hsY
     have hl:=(hmY.below hW).look mnTy (x:Nat) hrw
     rw [knF_at HX.out.2] at hl
     simp only [htx,hq] at hl
     exact ⟨cell_of_row W' _ 1 _ _ (0,0) hs,cell_of_row W' _ 0 _ _ (0,0) hb,cell_of_row W' _ 1 _ _ (0,0) hb,hl⟩
    have HID:Hid (∀W',Below Y7.heap.size Y7 W'→Calls Tryz.prog 84 #[.agg #[.pointer (some ⟨cb,0,none⟩),.int .i64 (x:Nat)]] W' fun e w'=>e = .returned (.int .i64 (x:Nat))∧Below W'.heap.size W' w'):=kI fun W' hW=>pid_cl ((H.out.1.below hWY).below hW) x
    have HY7:=kI (aI hY (aI hWY (aI htx (aI hq hxY))))
    clear hY hxY hWY hmY hsY htx hq hrw
    go_cut [8] from 26 to 30 (fun s8 Z8=>B8At Y7 k1 n1 (u1,u2,u3) q s8 Z8)
    case first=>
     go_wp2_with fail
     have hS:Below Y7.heap.size Y7 Y7.drew:=(Below.refl _ _).drew
     refine wp_region_held (S:=(fun W=>Below Y7.heap.size Y7 W)) (by kernel_rfl) ?_
     change wpAnyH _ _ _ _ _ 7 (List.replicate 7 false).toArray _ Y7.drew
     simp only [List.replicate_succ,List.replicate_zero]
     refine tj (i:=0) (some 26) (.pointer (some ⟨sb,1,none⟩)) rfl hS ?_
     simp only [Act.put,zA,zB,zC]
     refine tk (i:=1) (some 27) (.map (some kb)) rfl (fun W hw=>by obtain ⟨n0_,n1_,n2_,n3_⟩:=EX.out W hw;clear hw;go_simp) hS ?_
     simp only [Act.put,zA,zB,zC]
     refine tk (i:=2) (some 28) (.agg #[.pointer (some ⟨cb,0,none⟩),.int .i64 (x:Nat)]) rfl (fun W hw=>by obtain ⟨n0_,n1_,n2_,n3_⟩:=EX.out W hw;clear hw;go_simp) hS ?_
     simp only [Act.put,zA,zB,zC]
     refine wpAnyH_all (rs:=[3,5]) (by kernel_rfl) (by simp) fun q' hq'=>?_
     rcases (by simpa using hq':q'=3∨q'=5) with rfl|rfl
     ·refine ops_call (d:=some 29) rfl (by rfl) (by kernel_rfl) (by go_simp) ((HID.out _ hS).mono ?_)
      rintro y wi ⟨rfl,hbi⟩
      have hSi:Below Y7.heap.size Y7 wi:=hS.trans (hbi.mono hS.size)
      refine ⟨_,rfl,hSi,?_⟩
      simp only [Act.put,zA,zB,zC]
      refine tk (i:=4) (some 30) (.agg #[.int .i64 k1,.int .i64 n1,.slice u1 u2 u3,.int .i64 (q:Nat)]) rfl (fun W hw=>by obtain ⟨n0_,n1_,n2_,n3_⟩:=EX.out W hw;clear hw;go_simp) hSi ?_
      simp only [Act.put,zA,zB,zC]
      have hS1:Below Y7.heap.size Y7 (wi.alloc (.cells #[.int .i64 0,.int .i64 0,.slice none 0 0,.int .i64 0] 139)):=hSi.alloc hSi.size _
      have hS2:Below Y7.heap.size Y7 (wi.alloc (.cells #[.int .i64 k1,.int .i64 n1,.slice u1 u2 u3,.int .i64 (q:Nat)] 139)):=hSi.alloc hSi.size _
      refine aK 5 ?_
      refine ops_val (d:=some 8) (v:=.pointer (some ⟨wi.heap.size,0,none⟩)) (w':=wi.alloc (.cells #[.int .i64 0,.int .i64 0,.slice none 0 0,.int .i64 0] 139)) rfl (by rfl) (by kernel_rfl) (by clear hS hSi hS1 hS2 EX;go_simp) hS1 ?_
      simp only [Act.put,zA,zB,zC]
      refine aK 6 ?_
      obtain ⟨Y8,hYe⟩:∃Y8,wi.alloc (.cells #[.int .i64 k1,.int .i64 n1,.slice u1 u2 u3,.int .i64 (q:Nat)] 139)=Y8:=⟨_,rfl⟩
      have hbY:Below Y7.heap.size Y7 Y8:=by rw [←hYe];exact hS2
      have hbx8:Y8.heap[wi.heap.size]? = some (Obj.cells #[.int .i64 k1,.int .i64 n1,.slice u1 u2 u3,.int .i64 (q:Nat)] 139):=by rw [←hYe];exact heap_alloc_new wi _
      refine ops_skip (w':=Y8) rfl (by kernel_rfl) (by rw [←hYe];clear hYe hbY hbx8 hS hSi hS1 hS2 EX;go_simp) hbY rfl ?_
      refine wpAnyH_done (by kernel_rfl) ?_ _
      have hsz8:=hSi.size
      have HB8:=kI (aI hbY (aI hsz8 hbx8))
      clear hYe hS hSi hS1 hS2 hbi EX HID hbY hbx8 hsz8
      go_wp2_with fail
      go_meet
      case rel=>exact ⟨_,rfl,HB8.out⟩
     ·have hS1:Below Y7.heap.size Y7 (Y7.drew.alloc (.cells #[.int .i64 0,.int .i64 0,.slice none 0 0,.int .i64 0] 139)):=hS.alloc hS.size _
      refine ops_val (d:=some 8) (v:=.pointer (some ⟨Y7.heap.size,0,none⟩)) (w':=Y7.drew.alloc (.cells #[.int .i64 0,.int .i64 0,.slice none 0 0,.int .i64 0] 139)) rfl (by rfl) (by kernel_rfl) (by clear hS hS1 EX;go_simp) hS1 ?_
      simp only [Act.put,zA,zB,zC]
      have hn1:(Y7.drew.alloc (.cells #[.int .i64 0,.int .i64 0,.slice none 0 0,.int .i64 0] 139)).heap[Y7.heap.size]? = some (Obj.cells #[.int .i64 0,.int .i64 0,.slice none 0 0,.int .i64 0] 139):=heap_alloc_new Y7.drew _
      refine aK 3 ?_
      refine ops_call (d:=some 29) rfl (by rfl) (by kernel_rfl) (by go_simp) ((HID.out _ hS1).mono ?_)
      rintro y wi ⟨rfl,hbi⟩
      have hSi:Below Y7.heap.size Y7 wi:=hS1.trans (hbi.mono hS1.size)
      have hni:wi.heap[Y7.heap.size]? = some (Obj.cells #[.int .i64 0,.int .i64 0,.slice none 0 0,.int .i64 0] 139):=(hbi.block _ (gL hn1).1).trans hn1
      clear hn1
      refine ⟨_,rfl,hSi,?_⟩
      simp only [Act.put,zA,zB,zC]
      refine tk (i:=4) (some 30) (.agg #[.int .i64 k1,.int .i64 n1,.slice u1 u2 u3,.int .i64 (q:Nat)]) rfl (fun W hw=>by obtain ⟨n0_,n1_,n2_,n3_⟩:=EX.out W hw;clear hw;clear hni;go_simp) hSi ?_
      simp only [Act.put,zA,zB,zC]
      have d0:wi.cell? ⟨Y7.heap.size,0,none⟩=some (.int .i64 0):=cell_of_row wi _ 0 _ _ (0,0) hni
      have d1:wi.cell? ⟨Y7.heap.size,1,none⟩=some (.int .i64 0):=cell_of_row wi _ 1 _ _ (0,0) hni
      have d2:wi.cell? ⟨Y7.heap.size,2,none⟩=some (.slice none 0 0):=cell_of_row wi _ 2 _ _ (0,0) hni
      have d3:wi.cell? ⟨Y7.heap.size,3,none⟩=some (.int .i64 0):=cell_of_row wi _ 3 _ _ (0,0) hni
      have z0:wi.frozen? ⟨Y7.heap.size,0,none⟩=false:=by simp [World.frozen?,hni]
      have z1:wi.frozen? ⟨Y7.heap.size,1,none⟩=false:=by simp [World.frozen?,hni]
      have z2:wi.frozen? ⟨Y7.heap.size,2,none⟩=false:=by simp [World.frozen?,hni]
      have z3:wi.frozen? ⟨Y7.heap.size,3,none⟩=false:=by simp [World.frozen?,hni]
      obtain ⟨Y8,hYe⟩:∃Y8,(((wi.setCell ⟨Y7.heap.size,0,none⟩ (.int .i64 k1)).setCell ⟨Y7.heap.size,1,none⟩ (.int .i64 n1)).setCell ⟨Y7.heap.size,2,none⟩ (.slice u1 u2 u3)).setCell ⟨Y7.heap.size,3,none⟩ (.int .i64 (q:Nat))=Y8:=⟨_,rfl⟩
      have hbY:Below Y7.heap.size Y7 Y8:=by
       rw [←hYe]
       refine Below.setCell (p:=⟨Y7.heap.size,3,none⟩) ?_ (Nat.le_refl _) _
       refine Below.setCell (p:=⟨Y7.heap.size,2,none⟩) ?_ (Nat.le_refl _) _
       refine Below.setCell (p:=⟨Y7.heap.size,1,none⟩) ?_ (Nat.le_refl _) _
       exact Below.setCell (p:=⟨Y7.heap.size,0,none⟩) hSi (Nat.le_refl _) _
      have hbx8:Y8.heap[Y7.heap.size]? = some (Obj.cells #[.int .i64 k1,.int .i64 n1,.slice u1 u2 u3,.int .i64 (q:Nat)] 139):=by
       rw [←hYe]
       exact heap_setCell_same _ _ 3 _ _ _ (heap_setCell_same _ _ 2 _ _ _ (heap_setCell_same _ _ 1 _ _ _ (heap_setCell_same _ _ 0 _ _ _ hni)))
      refine aK 6 ?_
      refine ops_skip (w':=Y8) rfl (by kernel_rfl) (by clear hbY hbx8 hS hSi hS1 EX hni hbi;go_simp) hbY rfl ?_
      refine wpAnyH_done (by kernel_rfl) ?_ _
      have HB8:=kI (aI hbY (aI (Nat.le_refl Y7.heap.size) hbx8))
      clear hYe hS hSi hS1 hbi EX HID hbY hbx8 hni d0 d1 d2 d3 z0 z1 z2 z3
      go_wp2_with fail
      go_meet
      case rel=>exact ⟨_,rfl,HB8.out⟩
    case rest=>
     obtain ⟨b8,rfl,hbY,hb8,hbx8⟩:=hcut
     dsimp only [slv] at hbx8
     obtain ⟨Y8,rfl⟩:∃Y8:World,Y8=wc:=⟨_,rfl⟩
     clear EX HID
     have hbr8:=HY7.out.1.trans (hbY.mono HY7.out.1.size)
     have hlt5:=(gL HT.out.2.1).1
     have h58:=(hbr8.block _ hlt5).trans HT.out.2.1
     have c2:Y8.cell? ⟨w1.heap.size,2,none⟩=some (.slice Av j cv):=by
      have h:=cell_of_row Y8 w1.heap.size 2 _ _ (0,0) h58
      have e:=HT.out.2.2.2.2.2.1
      rw [e] at h
      exact h
     have d0:Y8.cell? ⟨b8,0,none⟩=some (.int .i64 k1):=cell_of_row Y8 _ 0 _ _ (0,0) hbx8
     have d1:Y8.cell? ⟨b8,1,none⟩=some (.int .i64 n1):=cell_of_row Y8 _ 1 _ _ (0,0) hbx8
     have d2:Y8.cell? ⟨b8,2,none⟩=some (.slice u1 u2 u3):=cell_of_row Y8 _ 2 _ _ (0,0) hbx8
     have ho8:=own_below HT.out.2.2.2.1 hbr8
     obtain ⟨g9,c9,w9,hrun,ho9,hgr9,hat9⟩:=app_tyr Y8 _ _ W.heap.size (by have:=HT.out.2.2.2.2.1.size;have:=hbr8.size;omega) ho8 (k1,n1,(u1,u2,u3),ps1) (by have:=HT.out.2.2.2.2.2.1;omega)
     rw [HT.out.2.2.2.2.2.1] at hrun
     dsimp only [slv] at hrun ho9 hgr9
     have hE9:Else (fun k=>W.heap.size≤k∧k<Y8.heap.size∧(∀cs:Array Value,Y8.heap[k]?≠some (Obj.cells cs 139))∧(∀cs:Array Value,Y8.heap[k]?≠some (Obj.cells cs 136))) Y8 w9:=(Else.alloc _ _ _).trans (Else.grown hgr9 fun k hk=>⟨(ho8.lt k hk).1,(ho8.lt k hk).2,row_not ho8 (by decide) k hk,row_not ho8 (by decide) k hk⟩)
     have h59:=(hE9.block _ (gL h58).1 fun h=>h.2.2.1 _ h58).trans h58
     have h89:=(hE9.block _ (gL hbx8).1 fun h=>h.2.2.1 _ hbx8).trans hbx8
     have h38:=(hbr8.block _ (gL HT.out.2.2.1).1).trans HT.out.2.2.1
     have h39:=(hE9.block _ (gL h38).1 fun h=>h.2.2.2 _ h38).trans h38
     have hfz:w9.frozen? ⟨w1.heap.size,2,none⟩=false:=by simp [World.frozen?,h59]
     have hcw:w9.cell? ⟨w1.heap.size,2,none⟩=some (.slice Av ((C.take j).map tt).length cv):=cell_of_row w9 _ 2 _ _ (0,0) h59
     rw [HT.out.2.2.2.2.2.1] at hcw
     have HL8B:=kI hb8
     clear hb8
     have HL8:=kI (aI ho9 (aI hE9 (aI h59 (aI h89 (aI h39 hbr8)))))
     clear ho8 ho9 hgr9 hat9 hE9 h59 h89 h38 h39 hbr8 hbx8 hbY h58 hlt5
     go_upto_region 9 with fail
     refine wp_world (fun Y9=>Y9.heap[w1.heap.size]? = some (Obj.cells #[.int .i64 ak,.int .i64 an,.slice (some ⟨g9,0,none⟩) (j+1) c9,.int .i64 (z:Nat)] 139)∧Else (fun k=>k=w1.heap.size) w9 Y9) ?_ ?_
     ·refine ⟨?_,Un.Else.set (S:=fun k=>k=w1.heap.size) w9 (p:=⟨w1.heap.size,2,none⟩) rfl _⟩
      exact heap_setCell_same w9 _ 2 _ _ _ HL8.out.2.2.1
     rintro Y9 ⟨h5,hE⟩
     have h8:=(hE.block _ (gL HL8.out.2.2.2.1).1 (fun h=>by
      have h1:=HY7.out.1.size
      have h2:=(gL HT.out.2.1).1
      have h3:=HL8B.out
      omega)).trans HL8.out.2.2.2.1
     have e3:Y9.cell? ⟨w1.heap.size,3,none⟩=some (.int .i64 (z:Nat)):=cell_of_row Y9 _ 3 _ _ (0,0) h5
     have e8:Y9.cell? ⟨b8,3,none⟩=some (.int .i64 (q:Nat)):=cell_of_row Y9 _ 3 _ _ (0,0) h8
     have fz3:Y9.frozen? ⟨w1.heap.size,3,none⟩=false:=by simp [World.frozen?,h5]
     obtain ⟨zq,hzq⟩:∃zq:Nat,z+q=zq:=⟨_,rfl⟩
     have hqq:zq≤1000000:=by
      have h1:=take_sum C (fun u=>tsz (mnR G ro u)) HX.out.1
      have h2:=take_sum_le C (fun u=>tsz (mnR G ro u)) (j+1)
      have h3:=HM.out.1
      have h4:=HM.out.2.1
      have h5:=HT.out.1
      have h6:=HY7.out.2.2.2.1
      omega
     have hwr:IntKind.i64.wrap ((z:Int)+(q:Int))=(zq:Int):=by rw [IntWalk.i64_in _ (by omega)];omega
     have hmn:=min_run Y9 (zq:Int) 2147483648
     rw [if_neg (by omega)] at hmn
     have H9:=kI (aI h5 (aI hE hzq))
     clear h5 hE h8 hzq hqq hrun hcw hfz c2 d0 d1 d2
     go_wp2_with fail
     go_roundw
     case rel=>
      obtain ⟨ho9,hE9,h59,h89,h39,hbr8⟩:=HL8.out
      have hE99:Else (fun k=>k=w1.heap.size) w9 (Y9.setCell ⟨w1.heap.size,3,none⟩ (.int .i64 (zq:Nat))):=H9.out.2.1.trans (Un.Else.set (S:=fun k=>k=w1.heap.size) Y9 (p:=⟨w1.heap.size,3,none⟩) rfl _)
      have e1:(C.take (j+1)).map tt=(C.take j).map tt ++ [(k1,n1,(u1,u2,u3),ps1)]:=by rw [List.take_add_one,HX.out.1,List.map_append,←HY7.out.2.2.1];rfl
      refine ⟨j+1,zq,.slice (some ⟨g9,0,none⟩) (j+1) c9,by go_num,hjl,?_,?_,?_,?_,?_⟩
      ·rw [take_sum C (fun u=>tsz (mnR G ro u)) HX.out.1,←H9.out.2.2,HT.out.1,HY7.out.2.2.2.1]
       omega
      ·exact heap_setCell_same Y9 _ 3 _ _ _ H9.out.1
      ·exact (hE99.block _ (gL h39).1 (fun h=>by have:=H1.out.2.2;omega)).trans h39
      ·rw [e1]
       rw [HT.out.2.2.2.2.2.1] at ho9
       refine own_else ho9 hE99 fun g hg he=>?_
       subst he
       exact row_not ho9 (by decide) _ hg _ h59
      ·exact HT.out.2.2.2.2.1.trans ((hbr8.mono HT.out.2.2.2.2.1.size).trans ((hE9.below (fun k hk=>hk.1) (by have:=hbr8.size;have:=HT.out.2.2.2.2.1.size;omega)).trans (hE99.below (fun k hk=>by subst hk;have:=H1.out.2.2;omega) (by have:=hE9.size;have:=hbr8.size;have:=HT.out.2.2.2.2.1.size;omega))))
     case measure=>simp [intOf];omega
   ·have f1:decide ((j:Int)<(C.length:Int))=false:=decide_eq_false (by omega)
    have f2:decide (j<C.length)=false:=decide_eq_false hjl
    have hje:j=C.length:=by omega
    have HJE:=kI hje
    have hsr:=(hb.block _ (gL H.out.2.1).1).trans H.out.2.1
    obtain ⟨T5,hT5⟩:∃m,((C.take j).map tt).length=m:=⟨_,rfl⟩
    have hb5':=hb5
    rw [hT5] at hb5'
    have EX:Hid (∀W',Else (fun k=>k=kb) wr W'→W'.cell? ⟨sb,1,none⟩=some (.map (some kb))∧W'.cell? ⟨W.heap.size,0,none⟩=some (.pointer (some ⟨cb,0,none⟩))∧W'.cell? ⟨W.heap.size,1,none⟩=some (.int .i64 (r:Nat))∧W'.cell? ⟨w1.heap.size,0,none⟩=some (.int .i64 ak)∧W'.cell? ⟨w1.heap.size,1,none⟩=some (.int .i64 an)∧W'.cell? ⟨w1.heap.size,2,none⟩=some (.slice Av T5 cv)∧W'.cell? ⟨w1.heap.size,3,none⟩=some (.int .i64 (z:Nat))):=kI fun W' hW=>by
     have h3:=(hW.block _ (gL hb3).1 (fun h=>by have:=HS.out.2.1;have:=H.out.2.2.1;omega)).trans hb3
     have h5:=(hW.block _ (gL hb5').1 (fun h=>by have:=HS.out.2.1;have:=H.out.2.2.1;have:=H1.out.2.2;omega)).trans hb5'
     have hs:=(hW.block _ (gL hsr).1 (fun h=>HS.out.2.2.1 h)).trans hsr
     exact ⟨cell_of_row W' _ 1 _ _ (0,0) hs,cell_of_row W' _ 0 _ _ (0,0) h3,cell_of_row W' _ 1 _ _ (0,0) h3,cell_of_row W' _ 0 _ _ (0,0) h5,cell_of_row W' _ 1 _ _ (0,0) h5,cell_of_row W' _ 2 _ _ (0,0) h5,cell_of_row W' _ 3 _ _ (0,0) h5⟩
    have HID:Hid (∀W',Below wr.heap.size wr W'→Calls Tryz.prog 84 #[.agg #[.pointer (some ⟨cb,0,none⟩),.int .i64 (r:Nat)]] W' fun e w'=>e = .returned (.int .i64 (r:Nat))∧Below W'.heap.size W' w'):=kI fun W' hW=>pid_cl ((H.out.1.below hb).below hW) r
    have HT5:=kI hT5
    clear hje hsr hb5 hb5' hb3 hb hT5
    go_wp2_with fail
    have hB:Below wr.heap.size wr wr.drew:=(Below.refl _ _).drew
    have hS:Else (fun k=>k=kb) wr wr.drew:=Else.of_below hB
    refine wp_region_held (S:=(fun W=>Else (fun k=>k=kb) wr W)) (by kernel_rfl) ?_
    change wpAnyH _ _ _ _ _ 6 (List.replicate 6 false).toArray _ wr.drew
    simp only [List.replicate_succ,List.replicate_zero]
    refine tj (i:=0) (some 48) (.pointer (some ⟨sb,1,none⟩)) rfl hS ?_
    simp only [Act.put,zA,zB,zC]
    refine tk (i:=1) (some 49) (.map (some kb)) rfl (fun W hw=>by obtain ⟨n0_,n1_,n2_,n3_,n4_,n5_,n6_⟩:=EX.out W hw;clear hw;go_simp) hS ?_
    simp only [Act.put,zA,zB,zC]
    refine tk (i:=2) (some 50) (.agg #[.pointer (some ⟨cb,0,none⟩),.int .i64 (r:Nat)]) rfl (fun W hw=>by obtain ⟨n0_,n1_,n2_,n3_,n4_,n5_,n6_⟩:=EX.out W hw;clear hw;go_simp) hS ?_
    simp only [Act.put,zA,zB,zC]
    refine tk (i:=4) (some 52) (.agg #[.int .i64 ak,.int .i64 an,.slice Av T5 cv,.int .i64 (z:Nat)]) rfl (fun W hw=>by obtain ⟨n0_,n1_,n2_,n3_,n4_,n5_,n6_⟩:=EX.out W hw;clear hw;go_simp) hS ?_
    simp only [Act.put,zA,zB,zC]
    refine aK 3 ?_
    refine ops_call (d:=some 51) rfl (by rfl) (by kernel_rfl) (by go_simp) ((HID.out _ hB).mono ?_)
    rintro y wi ⟨rfl,hbi⟩
    have hBi:Below wr.heap.size wr wi:=hB.trans (hbi.mono hB.size)
    have hSi:Else (fun k=>k=kb) wr wi:=Else.of_below hBi
    refine ⟨_,rfl,hSi,?_⟩
    simp only [Act.put,zA,zB,zC]
    have hrw:(Lit.int .i64 (r:Nat)).wf=true:=by have h:=wrap64_wf (r:Nat);rwa [IntWalk.wrap64_in _ (by have:=H.out.2.2.2.2.2.2.2.2.1;have:=HS.out.2.2.2.2;omega)] at h
    have hWi:Below W.heap.size W wi:=HT.out.2.2.2.2.1.trans (hBi.mono HT.out.2.2.2.2.1.size)
    obtain ⟨w5,hput,hm5,hg5,hs5,_⟩:=(H.out.2.2.2.1.below hWi).put mnTy (by have:=H.out.2.2.2.2.2.2.2.2.2.1;have:=HS.out.2.2.2.2;omega) (r:Nat) hrw (.agg #[.int .i64 ak,.int .i64 an,.slice Av T5 cv,.int .i64 (z:Nat)])
    have hE5:Else (fun k=>k=kb) wi w5:=Else.grown hg5 fun k hk=>by cases hk;rfl
    have hEW:Else (fun k=>k=kb) W w5:=(Else.of_below hWi).trans hE5
    have hrE:Else (fun k=>k=kb) wr w5:=hSi.trans hE5
    have H5:=kI (aI hm5 (aI hEW hrE))
    refine aK 5 ?_
    refine ops_skip (w':=w5) rfl (by kernel_rfl) (by clear hS hSi hB hBi hbi EX;go_simp) hrE rfl ?_
    refine wpAnyH_done (by kernel_rfl) ?_ _
    clear hput hWi hm5 hg5 hs5 hE5 hEW hrw hS hSi hB hBi hbi hrE EX HID
    go_wp2_with fail
    refine bodyPost_end (results_none rfl _ _ _) rfl ⟨rfl,?_,H5.out.2.1⟩
    obtain ⟨hz,hb5,hb3,ho,hb,hml,hz2⟩:=HT.out
    obtain ⟨hm5,hEW,hrE⟩:=H5.out
    obtain ⟨S5,hm5⟩:∃S5,MapF (upd (knF D tt fun r=>tsz (mnR G ro r)) (r:Int) (.agg #[.int .i64 ak,.int .i64 an,.slice Av T5 cv,.int .i64 (z:Nat)])) S5 (D.length+1) kb w5:=⟨_,hm5⟩
    rw [HJE.out,List.take_length] at ho hz hml
    have hzr:z=tsz (mnR G ro r):=by rw [hz,HM.out.1]
    have hTL:T5=C.length:=by rw [←HT5.out,HJE.out,List.take_length,List.length_map]
    have hkbW:kb<W.heap.size:=by have:=HS.out.2.1;have:=H.out.2.2.1;omega
    have hsbW:sb<W.heap.size:=by have:=HS.out.1;have:=H.out.2.2.1;omega
    have hmc:=H.out.2.2.2.1
    have hTy:∀(b:Nat) (cs:Array Value),W.heap[b]? = some (Obj.cells cs 25)→w5.heap[b]? = some (Obj.cells cs 25):=fun b cs hc=>(hEW.block b (gL hc).1 fun h=>by subst h;exact hmc.not_cells _ cs hc).trans hc
    have hTyr:∀(b:Nat) (cs:Array Value),wr.heap[b]? = some (Obj.cells cs 25)→w5.heap[b]? = some (Obj.cells cs 25):=fun b cs hc=>(hrE.block b (gL hc).1 fun h=>by
     subst h
     exact (hmc.below hb).not_cells _ cs hc).trans hc
    have hfr:∀u∈C,FreshT 25 w0.heap.size wr idn (tt u).2.2.2 (tt u).2.2.1:=fun u hu=>(H.out.2.2.2.2.1 u (H.out.2.2.2.2.2.2.1 u hu)).2.to hb.size fun b cs _ hc=>(hb.block b (gL hc).1).trans hc
    have hrowT:FreshT 25 w0.heap.size wr idn (rowF (C.map tt)) (Av,T5,cv):=by
     refine fresh_row (own_mono (by rw [hml] at ho ⊢;rw [hTL];exact ho) H.out.2.2.1) fun p hp=>?_
     obtain ⟨u,hu,rfl⟩:=List.mem_map.1 hp
     exact hfr u hu
    refine ⟨(hEW.block _ hsbW fun h=>HS.out.2.2.1 h).trans H.out.2.1,Nat.le_trans H.out.2.2.1 hEW.size,fun y=>if y=r then (ak,an,(Av,T5,cv),rowF (C.map tt)) else tt y,S5,?_,fun y hy=>?_⟩
    ·have e:=knF_upd H.out.2.2.2.2.2.2.2.1 tt (fun r=>tsz (mnR G ro r)) (ak,an,(Av,T5,cv),rowF (C.map tt))
     rw [List.length_append,←e]
     rw [hzr] at hm5
     exact hm5
    ·by_cases hyr:y=r
     ·subst hyr
      simp only [if_true]
      refine ⟨?_,hrowT.to hrE.size fun b cs _ hc=>hTyr b cs hc⟩
      rw [HMN.out]
      show (_,_,_)=_
      rw [rowF_pure,List.map_map]
      congr 3
      refine List.map_congr_left fun u hu=>?_
      exact (H.out.2.2.2.2.1 u (H.out.2.2.2.2.2.2.1 u hu)).1
     ·simp only [if_neg hyr]
      have hyD:y∈D:=by
       rcases List.mem_append.1 hy with h|h
       ·exact h
       ·exact absurd (by simpa using h) hyr
      obtain ⟨q1,q2⟩:=H.out.2.2.2.2.1 y hyD
      exact ⟨q1,q2.to hEW.size fun b cs _ hc=>hTy b cs hc⟩
end SvHs
end
section
open Go.RowKit
open Un (Else StM rowI UFo own_else dg swp wp_world paint)
attribute [local go_sem] Oper.semAt_some
attribute [local go_sem ↓] builtin_app
set_option maxRecDepth 100000
def KnM (B:Nat) (W:World) (kb:Nat) (G:List Gn) (ro:Nat→Nat) (D:List Nat):Prop:=
 ∃(tt:Nat→Ty1) (S:Nat),MapF (knF D tt fun r=>tsz (mnR G ro r)) S D.length kb W∧∀r∈D,tpOf (tt r)=mnR G ro r∧FreshT 25 B W idn (tt r).2.2.2 (tt r).2.2.1
def TelPost (O:Nat→Prop) (cb:Nat) (A:Adr) (st:Int) (G:List Gn) (kn:Kn) (nx col ro:Nat→Nat) (fs:Int) (V:List Int) (w:World) (x:Ending) (w':World):Prop:=
 ∃(kb f:Nat) (D:List Nat),x = .returned (.agg #[.pointer (some ⟨cb,0,none⟩),.map (some kb)])∧ClM O w' cb A st false G.length G kn nx col ro (fs+f)∧f≤21*V.length+168*(2*G.length+V.length)∧w.heap.size≤kb∧KnM w.heap.size w' kb G ro D∧(∀x∈rootsOf G ro V,x∈D)∧D.length≤G.length∧Else A.S w w'
theorem load_sol {W:World}{g:Nat}{a b:Value}(h0:W.cell? ⟨g,0,none⟩=some a) (h1:W.cell? ⟨g,1,none⟩=some b):(loadVar 80 ⟨g,0,none⟩).run Tryz.prog W = .ok (.agg #[a,b]) W:=by
 go_simp
section SvIs
variable {O:Nat→Prop}{w:World}{cb:Nat}{A:Adr}{st fs:Int}{G:List Gn}{kn:Kn}{nx col ro:Nat→Nat}{E:List (Nat×Nat)}
set_option maxHeartbeats 4000000 in
theorem tell_any (hC:ClM O w cb A st false G.length G kn nx col ro fs) (hfs:0≤fs∧fs≤500000000) (hB:Both G col ro kn E ro) (ha:∀i,i<G.length→AccC G ro (ro i)) (hz:∀i,i<G.length→tsz (mnR G ro (ro i))≤1000000) (hP:∀p∈G,p.2.2.2.length≤8∧∀u∈p.2.2.2,u<G.length) (hro:∀i,i<G.length→ro i<G.length) (hG:G.length≤70000)
  (V:List Int) (v:Value) (hV:RdD (fun k=>¬ A.S k) w 1 v V.length (ints V)) (hVl:V.length≤20000) (hVw:∀x∈V,(Lit.int .i64 x).wf=true):
  Calls Tryz.prog 42 #[.pointer (some ⟨cb,0,none⟩),v] w (TelPost O cb A st G kn nx col ro fs V w):=by
 obtain ⟨Av,cv,rfl⟩:=hV.1.form
 have hmm:=@run_makeMap Tryz.prog
 obtain ⟨w3,hw3⟩:∃w3,((w.alloc (.cells #[.pointer none,.map none] 80)).alloc (Obj.map #[] 0)).alloc (.cells #[.pointer (some ⟨cb,0,none⟩),.map (some (w.heap.size+1))] 80)=w3:=⟨_,rfl⟩
 have hb3:Below w.heap.size w w3:=by rw [←hw3];exact (((Below.refl _ _).alloc (Nat.le_refl _) _).alloc (by simp) _).alloc (by simp;omega) _
 have hs3:w3.heap.size=w.heap.size+3:=by rw [←hw3];simp
 have hr3:w3.heap[w.heap.size]? = some (Obj.cells #[.pointer none,.map none] 80):=by
  rw [←hw3]
  exact (Below.heap_alloc _ _ _ (by simp;omega)).trans ((Below.heap_alloc _ _ _ (by simp)).trans (heap_alloc_new w _))
 have hm3:MapF (fun _=>none) 0 0 (w.heap.size+1) w3:=by
  rw [←hw3]
  have h:=MapF.made (w.alloc (.cells #[.pointer none,.map none] 80))
  rw [World.size_alloc] at h
  exact h.kept (World.grownBy_alloc _ (.cells #[.pointer (some ⟨cb,0,none⟩),.map (some (w.heap.size+1))] 80) none) (by simp)
 have hx3:w3.heap[w.heap.size+2]? = some (Obj.cells #[.pointer (some ⟨cb,0,none⟩),.map (some (w.heap.size+1))] 80):=by
  rw [←hw3]
  have h:=heap_alloc_new ((w.alloc (.cells #[.pointer none,.map none] 80)).alloc (Obj.map #[] 0)) (.cells #[.pointer (some ⟨cb,0,none⟩),.map (some (w.heap.size+1))] 80)
  simpa using h
 have hAS:∀k,A.D k∨A.F cb k→k<w.heap.size:=fun k hk=>hC.lt hk
 have hJ0:TellJ (w.heap.size+2) (w.heap.size+1) cb w3 G ro [] w3:=⟨hx3,Nat.le_refl _,fun _=>(0,0,(none,0,0),.nil),0,hm3.ext fun n _=>by unfold knF;rw [if_neg (by simp)],fun r hr=>by cases hr⟩
 have HEA:=kI (each_any (gf:=81) (lb:=#[.pointer (some ⟨w.heap.size+2,0,none⟩)]) (enters_of Tryz.func81 (by kernel_rfl) rfl) (hC.below hb3) hfs hG rfl hP hro (fun r=>tsz (mnR G ro r)) (fun r _ hR y hy=>by
   obtain ⟨i,hi,rfl⟩:=hR
   exact mn_less hB hi (ha i hi) y hy) V (.slice Av V.length cv) (hV.to hb3.size fun b _ hlt=>hb3.block b hlt) hVl hVw
  (visit_any (A:=A) (O:=O) (st:=st) (nx:=nx) hB ha hz hP hro hG w3 (w.heap.size+2) (w.heap.size+1) (by omega) (by omega) (by omega) (fun k hk e=>by have:=hAS k hk;omega)) (fun k hk=>⟨by omega,fun h=>by have:=hAS k h;omega⟩)
  (fun D W W' hj hk=>hj.keep hk ⟨by omega,fun h=>by have:=hAS _ (.inr (.inl h));omega⟩ ⟨by omega,fun h=>by have:=hAS _ (.inr (.inl h));omega⟩) hJ0)
 have H:=kI (aI hb3 (aI hs3 (aI hr3 (aI hAS hfs))))
 have HW3:=kI hw3
 clear hC hfs hB ha hz hP hro hG hV hVl hVw hb3 hs3 hr3 hm3 hx3 hAS hJ0 hw3
 go_enter Tryz.func42,Tryz.ntmps42
 go_wp2_with fail
 rw [HW3.out]
 refine HEA.out.mono ?_
 clear HEA
 rintro x w4 ⟨D,f,rfl,hC4,hf,hJ4,hE4,hin,_,hdl⟩
 obtain ⟨hbx,_,tt,S,hm,hk⟩:=hJ4
 have hr4:=(hE4.block _ (gL H.out.2.2.1).1 (fun h=>by rcases h with h|h;(have:=H.out.2.2.2.1 _ (.inr (.inl h));omega);omega)).trans H.out.2.2.1
 have c0:w4.cell? ⟨w.heap.size+2,0,none⟩=some (.pointer (some ⟨cb,0,none⟩)):=cell_of_row w4 _ 0 _ _ (0,0) hbx
 have c1:w4.cell? ⟨w.heap.size+2,1,none⟩=some (.map (some (w.heap.size+1))):=cell_of_row w4 _ 1 _ _ (0,0) hbx
 have d0:w4.cell? ⟨w.heap.size,0,none⟩=some (.pointer none):=cell_of_row w4 _ 0 _ _ (0,0) hr4
 have d1:w4.cell? ⟨w.heap.size,1,none⟩=some (.map none):=cell_of_row w4 _ 1 _ _ (0,0) hr4
 have z0:w4.frozen? ⟨w.heap.size,0,none⟩=false:=by simp [World.frozen?,hr4]
 have z1:w4.frozen? ⟨w.heap.size,1,none⟩=false:=by simp [World.frozen?,hr4]
 have H4:=kI (aI hC4 (aI hf (aI hm (aI hk (aI hE4 (aI hin (aI hdl hr4)))))))
 clear hC4 hf hm hk hE4 hin hdl hbx hr4
 go_wp2_with fail
 have hE5:Else (fun k=>k=w.heap.size) w4 ((w4.setCell ⟨w.heap.size,0,none⟩ (.pointer (some ⟨cb,0,none⟩))).setCell ⟨w.heap.size,1,none⟩ (.map (some (w.heap.size+1)))):=(Un.Else.set (S:=fun k=>k=w.heap.size) w4 (p:=⟨w.heap.size,0,none⟩) rfl _).trans (Un.Else.set (S:=fun k=>k=w.heap.size) _ (p:=⟨w.heap.size,1,none⟩) rfl _)
 have h5:=heap_setCell_same _ w.heap.size 1 _ _ (.map (some (w.heap.size+1))) (heap_setCell_same w4 w.heap.size 0 _ _ (.pointer (some ⟨cb,0,none⟩)) H4.out.2.2.2.2.2.2.2)
 obtain ⟨hC4,hf,hm,hk,hE4,hin,hdl,hr4⟩:=H4.out
 refine bodyPost_ret (results_box rfl _ _ w.heap.size (.agg #[.pointer (some ⟨cb,0,none⟩),.map (some (w.heap.size+1))]) rfl (load_sol (cell_of_row _ _ 0 _ _ (0,0) h5) (cell_of_row _ _ 1 _ _ (0,0) h5))) rfl ⟨w.heap.size+1,f,D,rfl,hC4.aside hE5 fun k hk e=>by have:=H.out.2.2.2.1 k hk;omega,hf,by omega,⟨tt,S,hm.block (hE5.block _ hm.lt fun h=>by omega),fun r hr=>⟨(hk r hr).1,?_⟩⟩,hin,hdl,?_⟩
 ·refine ((hk r hr).2.to hE5.size fun b cs hb hc=>?_).mono (C:=w.heap.size) (by have:=H.out.2.1;omega)
  exact (hE5.block b (gL hc).1 fun h=>by have:=H.out.2.1;omega).trans hc
 ·exact (((Else.of_below (S:=fun k=>A.S k∨w.heap.size≤k) H.out.1).trans (hE4.mono fun k hk=>hk.imp id fun h=>by omega)).trans (hE5.mono fun k hk=>.inr (by omega))).old fun k hk=>hk
end SvIs
end
end Go.Proofs.YtmamdiggjghjkaaGreatDoor
