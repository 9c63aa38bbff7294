/- Texts of one proof, one behind the other. -/
import Derived.Test.YtmamdiggjghjkaaGreatDoorMgSolveOrder1
import Derived.Test.YtmamdiggjghjkaaGreatDoorMgSolveOrder8
import Derived.Test.YtmamdiggjghjkaaGreatDoorMgSolveOrder9
import Derived.Test.YtmamdiggjghjkaaGreatDoorMgSolveOrder7
import Derived.Deep.RegionHeld3
import Derived.Shelf.AbstractIn
import Derived.Test.YtmamdiggjghjkaaGreatDoorMgSolveOrder4
set_option linter.unusedVariables false
namespace Go.Proofs.YtmamdiggjghjkaaGreatDoor
section
open Go.RowKit Go.Shelf
set_option maxRecDepth 100000
theorem own_mono {w:World}{base base':Nat}{e:TypeId}{size:Nat}{v:Value}{n:Nat}{xs:List Value}(h:w.ownsRow base e size v n xs) (hb:base'≤base):w.ownsRow base' e size v n xs:=
 ⟨h.1,h.2.imp id fun ⟨g,cap,cur,h1,h2,h3⟩=>⟨g,cap,cur,h1,Nat.le_trans hb h2,h3⟩⟩
theorem has_in (w:World) (B g mb:Nat) (v:Value) (L:List Nd) (G:List Gn) (hG:GrM B w g v mb L G) (i:Nat) (hi:i<G.length):Calls Tryz.prog 140 #[.pointer (some ⟨g,0,none⟩),.int .i64 (i:Nat)] w fun e w'=>e = .returned (.bool true)∧Below w.heap.size w w':=by
 have f1:decide ((0:Int)≤(i:Int))=true:=by simp
 have f2:decide ((i:Int)<(G.length:Int))=true:=by simpa using hi
 have HG:=kI hG
 clear hG
 go_enter Tryz.func140,Tryz.ntmps140
 go_wp2_with (go_at_call 132;refine (len_graph _ B g mb v L G (by first|exact HG.out|exact HG.out.below (Below.refl _ _).drew)).mono ?_;rintro e w' ⟨rfl,rfl⟩)
 first|exact bodyPost_ret (results_tmp rfl _ _ _) rfl ⟨rfl,Below.refl _ _⟩|exact bodyPost_ret (results_tmp rfl _ _ _) rfl ⟨rfl,(Below.refl _ _).drew⟩
theorem has_out (w:World) (B g mb:Nat) (v:Value) (L:List Nd) (G:List Gn) (hG:GrM B w g v mb L G) (i:Int) (hi:¬ (0≤i∧i<G.length)):Calls Tryz.prog 140 #[.pointer (some ⟨g,0,none⟩),.int .i64 i] w fun e w'=>e = .returned (.bool false)∧Below w.heap.size w w':=by
 have HG:=kI hG
 by_cases h:0≤i
 ·have f1:decide ((0:Int)≤i)=true:=by simpa using h
  have f2:decide (i<(G.length:Int))=false:=by simp;omega
  clear hG
  go_enter Tryz.func140,Tryz.ntmps140
  go_wp2_with (go_at_call 132;refine (len_graph _ B g mb v L G (by first|exact HG.out|exact HG.out.below (Below.refl _ _).drew)).mono ?_;rintro e w' ⟨rfl,rfl⟩)
  first|exact bodyPost_ret (results_tmp rfl _ _ _) rfl ⟨rfl,Below.refl _ _⟩|exact bodyPost_ret (results_tmp rfl _ _ _) rfl ⟨rfl,(Below.refl _ _).drew⟩
 ·have f1:decide ((0:Int)≤i)=false:=by simpa using h
  clear hG
  go_enter Tryz.func140,Tryz.ntmps140
  go_wp2_with fail
  exact bodyPost_ret (results_tmp rfl _ _ _) rfl ⟨rfl,Below.refl _ _⟩
theorem kind_out (w:World) (B g mb:Nat) (v:Value) (L:List Nd) (G:List Gn) (hG:GrM B w g v mb L G) (i:Int) (hi:¬ (0≤i∧i<G.length)):Calls Tryz.prog 117 #[.pointer (some ⟨g,0,none⟩),.int .i64 i] w fun e w'=>e = .returned (.int .i64 0)∧Below w.heap.size w w':=by
 have HG:=kI hG
 clear hG
 go_enter Tryz.func117,Tryz.ntmps117
 go_wp2_with fail
 refine (has_out _ B g mb v L G (HG.out.below (Below.refl _ _)) i hi).mono ?_
 rintro e w' ⟨rfl,hb⟩
 go_wp2_with fail
 exact bodyPost_ret (results_tmp rfl _ _ _) rfl ⟨rfl,hb⟩
theorem kind_in (w:World) (B g mb:Nat) (v:Value) (L:List Nd) (G:List Gn) (hG:GrM B w g v mb L G) (i:Nat) (hi:i<G.length):Calls Tryz.prog 117 #[.pointer (some ⟨g,0,none⟩),.int .i64 (i:Nat)] w fun e w'=>e = .returned (.int .i64 G[i].1)∧Below w.heap.size w w':=by
 have HG:=kI hG
 have hl:=hG.nodes.len
 obtain ⟨z,hz⟩:∃z,G[i].1=z:=⟨_,rfl⟩
 rw [hz]
 have HZ:=kI hz
 clear hG hz
 go_enter Tryz.func117,Tryz.ntmps117
 go_wp2_with fail
 refine (has_in _ B g mb v L G (HG.out.below (Below.refl _ _)) i hi).mono ?_
 rintro e w' ⟨rfl,hb⟩
 have hG:=HG.out.below hb
 obtain ⟨a,c,rfl,-,-⟩:=own_shape hG.row (by omega)
 have hnd:=hG.nodes.at i (by omega) hi
 obtain ⟨q0,-,-,-⟩:=ndC_at L i (by omega)
 have x0:w'.cell? ⟨a,i*4,none⟩=some (.int .i64 L[i].1):=by rw [hG.row.cellAt _ (by omega)];exact q0
 rw [hnd.1,HZ.out] at x0
 have g0:w'.cell? ⟨g,0,none⟩=some (.slice (some ⟨a,0,none⟩) L.length c):=cell_of_row w' _ 0 _ _ (0,0) hG.cell
 have hiL:i<L.length:=by omega
 clear hnd q0 hG hl HG
 go_wp2_with fail
 exact bodyPost_ret (results_tmp rfl _ _ _) rfl ⟨rfl,hb⟩
theorem parts_out (w:World) (B g mb:Nat) (v:Value) (L:List Nd) (G:List Gn) (hG:GrM B w g v mb L G) (i:Int) (hi:¬ (0≤i∧i<G.length)):Calls Tryz.prog 138 #[.pointer (some ⟨g,0,none⟩),.int .i64 i] w fun e w'=>e = .returned (.slice none 0 0)∧Below w.heap.size w w':=by
 have HG:=kI hG
 clear hG
 go_enter Tryz.func138,Tryz.ntmps138
 go_wp2_with fail
 refine (has_out _ B g mb v L G (HG.out.below (Below.refl _ _)) i hi).mono ?_
 rintro e w' ⟨rfl,hb⟩
 go_wp2_with fail
 exact bodyPost_ret (results_tmp rfl _ _ _) rfl ⟨rfl,hb⟩
theorem parts_in (w:World) (B g mb:Nat) (v:Value) (L:List Nd) (G:List Gn) (hG:GrM B w g v mb L G) (i:Nat) (hi:i<G.length) (hP:G[i].2.2.2.length≤1000000):Calls Tryz.prog 138 #[.pointer (some ⟨g,0,none⟩),.int .i64 (i:Nat)] w fun e w'=>∃v',e = .returned v'∧w'.ownsRow w.heap.size 3 1 v' G[i].2.2.2.length (nums G[i].2.2.2)∧Below w.heap.size w w':=by
 have HG:=kI hG
 have hl:=hG.nodes.len
 obtain ⟨P,hPe⟩:∃P,G[i].2.2.2=P:=⟨_,rfl⟩
 rw [hPe] at hP ⊢
 have HPE:=kI hPe
 clear hG hPe
 go_enter Tryz.func138,Tryz.ntmps138
 go_wp2_with fail
 refine (has_in _ B g mb v L G (HG.out.below (Below.refl _ _)) i hi).mono ?_
 rintro e w' ⟨rfl,hb⟩
 have hG:=HG.out.below hb
 obtain ⟨a,c,rfl,-,-⟩:=own_shape hG.row (by omega)
 have hnd:=hG.nodes.at i (by omega) hi
 obtain ⟨-,-,-,q3⟩:=ndC_at L i (by omega)
 have x3:w'.cell? ⟨a,i*4+3,none⟩=some (slv L[i].2.2.2):=by rw [hG.row.cellAt _ (by omega)];exact q3
 have g0:w'.cell? ⟨g,0,none⟩=some (.slice (some ⟨a,0,none⟩) L.length c):=cell_of_row w' _ 0 _ _ (0,0) hG.cell
 have HR:=kI (Rd.of_own hnd.2.2.2)
 rw [HPE.out] at HR
 obtain ⟨⟨s1,s2,s3⟩,hz⟩:∃z,L[i].2.2.2=z:=⟨_,rfl⟩
 rw [hz] at x3 HR
 dsimp only [slv] at x3 HR
 have hiL:i<L.length:=by omega
 have hbs:=hb.size
 clear hnd q3 hG hz hl HG
 go_wp2_with fail
 refine (clone_ints _ _ (toI P) (by rw [toI_len];exact HR.out) (by rw [toI_len];omega)).mono ?_
 rintro e w3 ⟨vq,rfl,ownq,hb3⟩
 rw [toI_len] at ownq
 go_wp2_with fail
 exact bodyPost_ret (results_tmp rfl _ _ _) rfl ⟨_,rfl,own_mono ownq hbs,hb.trans (hb3.mono hbs)⟩
theorem var_graph (w:World) (B g mb:Nat) (v:Value) (L:List Nd) (G:List Gn) (hG:GrM B w g v mb L G) (n:Int) (hn:(Lit.int .i64 n).wf=true):Calls Tryz.prog 144 #[.pointer (some ⟨g,0,none⟩),.int .i64 n] w fun e w'=>e = .returned (.tuple #[.int .i64 ((gvar G n).getD 0:Nat),.bool (gvar G n).isSome])∧Below w.heap.size w w':=by
 obtain ⟨S,hm⟩:=hG.vars
 have g1:w.cell? ⟨g,1,none⟩=some (.map (some mb)):=cell_of_row w _ 1 _ _ (0,0) hG.cell
 have hlk:=hm.look_ok intsTy n hn
 have e1:((gvf G n).getD (.int .i64 0)) = .int .i64 (((gvar G n).getD 0:Nat):Int):=by
  unfold gvf
  cases gvar G n<;>rfl
 have e2:(gvf G n).isSome=(gvar G n).isSome:=by unfold gvf;cases gvar G n<;>rfl
 rw [e1,e2] at hlk
 obtain ⟨z,hz⟩:∃z:Nat,(gvar G n).getD 0=z:=⟨_,rfl⟩
 obtain ⟨b,hb⟩:∃b,(gvar G n).isSome=b:=⟨_,rfl⟩
 rw [hz,hb] at hlk ⊢
 clear hG hm hz hb e1 e2
 go_enter Tryz.func144,Tryz.ntmps144
 go_wp2_with fail
 exact bodyPost_ret (results_tmp2 rfl _ _ _) rfl ⟨rfl,Below.refl _ _⟩
theorem name_out (w:World) (B g mb:Nat) (v:Value) (L:List Nd) (G:List Gn) (hG:GrM B w g v mb L G) (i:Int) (hi:¬ (0≤i∧i<G.length)):Calls Tryz.prog 118 #[.pointer (some ⟨g,0,none⟩),.int .i64 i] w fun e w'=>e = .returned (.tuple #[.int .i64 0,.bool false])∧Below w.heap.size w w':=by
 have HG:=kI hG
 clear hG
 go_enter Tryz.func118,Tryz.ntmps118
 go_wp2_with fail
 refine (kind_out _ B g mb v L G (HG.out.below (Below.refl _ _)) i hi).mono ?_
 rintro e w' ⟨rfl,hb⟩
 go_wp2_with fail
 exact bodyPost_ret (results_tmp2 rfl _ _ _) rfl ⟨rfl,hb⟩
theorem name_in (w:World) (B g mb:Nat) (v:Value) (L:List Nd) (G:List Gn) (hG:GrM B w g v mb L G) (i:Nat) (hi:i<G.length):Calls Tryz.prog 118 #[.pointer (some ⟨g,0,none⟩),.int .i64 (i:Nat)] w fun e w'=>e = .returned (if G[i].1=1 then .tuple #[.int .i64 G[i].2.1,.bool true] else .tuple #[.int .i64 0,.bool false])∧Below w.heap.size w w':=by
 have HG:=kI hG
 have hl:=hG.nodes.len
 obtain ⟨y,hy⟩:∃y,G[i].2.1=y:=⟨_,rfl⟩
 have hk:=kind_in w B g mb v L G hG i hi
 obtain ⟨z,hz⟩:∃z,G[i].1=z:=⟨_,rfl⟩
 rw [hz] at hk ⊢
 rw [hy]
 have HY:=kI hy
 have HK:=kI hk
 clear hG hy hz hk
 go_enter Tryz.func118,Tryz.ntmps118
 go_wp2_with fail
 refine HK.out.mono ?_
 rintro e w' ⟨rfl,hb⟩
 have hG:=HG.out.below hb
 obtain ⟨a,c,rfl,-,-⟩:=own_shape hG.row (by omega)
 have hnd:=hG.nodes.at i (by omega) hi
 obtain ⟨-,q1,-,-⟩:=ndC_at L i (by omega)
 have x1:w'.cell? ⟨a,i*4+1,none⟩=some (.int .i64 L[i].2.1):=by rw [hG.row.cellAt _ (by omega)];exact q1
 rw [hnd.2.1,HY.out] at x1
 have g0:w'.cell? ⟨g,0,none⟩=some (.slice (some ⟨a,0,none⟩) L.length c):=cell_of_row w' _ 0 _ _ (0,0) hG.cell
 have hiL:i<L.length:=by omega
 clear hnd q1 hG hl HG
 by_cases hk:z=1
 ·subst hk
  go_wp2_with fail
  exact bodyPost_ret (results_tmp2 rfl _ _ _) rfl ⟨rfl,hb⟩
 ·have f1:(z == 1)=false:=by simpa using hk
  go_wp2_with fail
  exact bodyPost_ret (results_tmp2 rfl _ _ _) rfl ⟨rfl,hb⟩
end
section
open Go.RowKit Go.Shelf
attribute [local go_sem] Oper.semAt_some
attribute [local go_sem ↓] builtin_app
def GeInv (w2:World) (B:Nat) (F0:Fo) (t4 t5:Value) (wr:World) (s:Nat):Prop:=
 ∃(F:Fo) (pre:List Tr),F.size=s∧s≤1000000∧wr.ownsRow w2.heap.size 25 3 t4 pre.length (pre.flatMap trC)∧wr.ownsRow w2.heap.size 25 3 t5 F.len (F.top.flatMap trC)∧
  (∀k,t4.ownBlock=some k→t5.ownBlock≠some k)∧TyL B wr F∧pre++grO F=grO F0∧pre.length+s≤1000001∧Below w2.heap.size w2 wr
def Its (M:Nat) (W W':World):Prop:=∃row,W.grownBy W' row∧∀r,row=some r→M≤r∧∃o:Obj,W.heap[r]? = some o∧(o.isCells=false∨∃cs,o = .cells cs 169)
theorem Its.alloc (M:Nat) (W:World) (o:Obj):Its M W (W.alloc o):=⟨none,World.grownBy_alloc W _ none,fun _ h=>by cases h⟩
theorem Its.below {M:Nat}{W W':World}(h:Its M W W') (hM:M≤W.heap.size):Below M W W':=by
 obtain ⟨row,hg,hr⟩:=h
 exact (Below.refl _ _).grown hg hM (fun k e=>(hr k e).1)
def EgI (J:Nat→List Tr→World→Prop) (L:List Tr) (w:World) (B s8 vb:Nat) (vc:Obj) (pre:List (Int×Tr)) (W:World):Prop:=
 J s8 (pre.map (·.2)) W∧pre.map (·.2)=L.reverse.take pre.length∧Below B w W∧s8≤W.heap.size∧W.heap[vb]? = some vc
theorem EgI.to {J:Nat→List Tr→World→Prop}{L:List Tr}{w:World}{B s8 vb:Nat}{vc:Obj}(hJ:∀M pre W W',w.heap.size≤M→J M pre W→Its M W W'→J M pre W') (hB:B≤w.heap.size) (h8:w.heap.size≤s8) (hv:vb<s8) {pre:List (Int×Tr)}{W W':World}
  (h:EgI J L w B s8 vb vc pre W) (hb:Its s8 W W'):EgI J L w B s8 vb vc pre W':=
 ⟨hJ _ _ _ _ h8 h.1 hb,h.2.1,h.2.2.1.trans ((hb.below h.2.2.2.1).mono (Nat.le_trans hB h8)),Nat.le_trans h.2.2.2.1 (hb.below h.2.2.2.1).size,((hb.below h.2.2.2.1).block _ hv).trans h.2.2.2.2⟩
theorem EgI.own {J:Nat→List Tr→World→Prop}{L:List Tr}{w:World}{B s8 vb:Nat}{vc:Obj}(hJ:∀M pre W W',w.heap.size≤M→J M pre W→Its M W W'→J M pre W') (hB:B≤w.heap.size) (h8:w.heap.size≤s8) (hv:vb<s8):OwnFrom s8 (EgI J L w B s8 vb vc):=
 fun _ _ _ row hs hg hr=>hs.to hJ hB h8 hv ⟨row,hg,fun r e=>⟨(hr r e).1,by obtain ⟨o,ho,hc⟩:=(hr r e).2;exact ⟨o,ho,.inl hc⟩⟩⟩
theorem EgI.ab {J:Nat→List Tr→World→Prop}{L:List Tr}{w:World}{B s8 vb:Nat}{vc:Obj}(hJ:∀M pre W W',w.heap.size≤M→J M pre W→Its M W W'→J M pre W') (hB:B≤w.heap.size) (h8:w.heap.size≤s8) (hv:vb<s8):AbC s8 169 (EgI J L w B s8 vb vc):=
 fun _ _ _ hs ⟨row,hg,hr⟩=>hs.to hJ hB h8 hv ⟨row,hg,fun r e=>⟨(hr r e).1,by obtain ⟨cs,hc⟩:=(hr r e).2;exact ⟨_,hc,.inr ⟨cs,rfl⟩⟩⟩⟩
set_option maxHeartbeats 4000000 in
set_option maxRecDepth 100000 in
theorem each_graph (w:World) (B:Nat) (hB:B≤w.heap.size) (gf:Nat) (lb:Array Value) (eg:∀args w,(callFunc gf args).run Tryz.prog w = .ok (.enter gf args) w)
  (BT:Nat) (hBT:BT≤w.heap.size) (k n:Int) (u:Sl) (ps:Fo) (hps:TyV BT w ps (slv u)) (hs:ps.size<1000000)
  (J:Nat→List Tr→World→Prop) (hJ:∀M pre W W',w.heap.size≤M→J M pre W→Its M W W'→J M pre W') (h0:∀W,Below w.heap.size w W→J W.heap.size [] W)
  (hv:∀(M:Nat) (pre:List Tr) (x:Tr) (W:World),w.heap.size≤M→M≤W.heap.size→J M pre W→Below B w W→(∃r,pre++x :: r=(grO (.cons k n u ps .nil)).reverse)→Calls Tryz.prog gf (#[trV x]++lb) W fun e W'=>(∃v,e = .returned v)∧J M (pre ++ [x]) W'∧Bt3 B w.heap.size M W W'):
  Calls Tryz.prog 129 #[tyVal k n (slv u),.func (.func gf) #[] lb] w fun e w'=>(∃v,e = .returned v)∧(∃M,w.heap.size≤M∧M≤w'.heap.size∧J M (grO (.cons k n u ps .nil)).reverse w')∧Below B w w':=by
 obtain ⟨F0,hF0⟩:∃F0,Fo.cons k n u ps .nil=F0:=⟨_,rfl⟩
 obtain ⟨u1,u2,u3⟩:=u
 dsimp only [tyVal,slv] at hps ⊢
 obtain ⟨w1,hw1⟩:∃w1,w.alloc (.cells #[.int .i64 k,.int .i64 n,.slice u1 u2 u3] 25)=w1:=⟨_,rfl⟩
 obtain ⟨w2,hw2⟩:∃w2,w1.alloc (.cells #[.func (.func gf) #[] lb] 164)=w2:=⟨_,rfl⟩
 obtain ⟨w3,hw3⟩:∃w3,w2.alloc (.cells #[.int .i64 k,.int .i64 n,.slice u1 u2 u3] 25)=w3:=⟨_,rfl⟩
 have hb1:Below w.heap.size w w1:=by rw [←hw1];exact (Below.refl _ _).alloc (Nat.le_refl _) _
 have hs1:w1.heap.size=w.heap.size+1:=by rw [←hw1];simp
 have hs2:w2.heap.size=w.heap.size+2:=by rw [←hw2];simp;omega
 have hs3:w3.heap.size=w.heap.size+3:=by rw [←hw3];simp;omega
 have hb2:Below w.heap.size w w2:=by rw [←hw2];exact hb1.alloc (by omega) _
 have hb3:Below w2.heap.size w2 w3:=by rw [←hw3];exact (Below.refl _ _).alloc (Nat.le_refl _) _
 have hB1:w1.heap[w.heap.size]? = some (.cells #[.int .i64 k,.int .i64 n,.slice u1 u2 u3] 25):=by rw [←hw1];exact heap_alloc_new _ _
 have hV2:w2.heap[w1.heap.size]? = some (.cells #[.func (.func gf) #[] lb] 164):=by rw [←hw2];exact heap_alloc_new _ _
 have hB2:w2.heap[w.heap.size]? = some (.cells #[.int .i64 k,.int .i64 n,.slice u1 u2 u3] 25):=by rw [←hw2];exact (Below.heap_alloc _ _ _ (by omega)).trans hB1
 have hB3:w3.heap[w2.heap.size]? = some (.cells #[.int .i64 k,.int .i64 n,.slice u1 u2 u3] 25):=by rw [←hw3];exact heap_alloc_new _ _
 have c0:w2.cell? ⟨w.heap.size,0,none⟩=some (.int .i64 k):=cell_of_row w2 _ 0 _ _ (0,0) hB2
 have c1:w2.cell? ⟨w.heap.size,1,none⟩=some (.int .i64 n):=cell_of_row w2 _ 1 _ _ (0,0) hB2
 have c2:w2.cell? ⟨w.heap.size,2,none⟩=some (.slice u1 u2 u3):=cell_of_row w2 _ 2 _ _ (0,0) hB2
 have hinv:GeInv w2 BT F0 (.slice none 0 0) (.slice (some ⟨w2.heap.size,0,none⟩) 1 1) w3 (1+ps.size):=by
  refine ⟨F0,[],by rw [←hF0];simp [Fo.size],by omega,World.ownsRow_nil _ _ _ _,?_,fun k h=>by simp [Value.ownBlock] at h,?_,rfl,by simp;omega,hb3⟩
  ·rw [←hF0];exact own_one (u:=(u1,u2,u3)) (by omega) hB3 ps
  ·rw [←hF0];exact ⟨hps.below ((hb2.mono hBT).trans (hb3.mono (by omega))),trivial⟩
 have hL0:(grO F0).length≤1000000:=by rw [←hF0,grO_size];simp only [Fo.size];omega
 rw [hF0] at hv ⊢
 have HI:=kI hinv
 have HJ:=kI hJ
 have HV:=kI hv
 have H0:=kI h0
 have HB2:=kI hb2
 have HVB:=kI hV2
 have HW3:=kI hw3
 have HS:=kI (aI hs1 (aI hs2 hs3))
 clear hinv hJ h0 hv hps hb1 hb2 hb3 hB1 hB2 hB3 hF0 hw3 hs1 hs2 hs3
 refine (callsIn_wide (n:=4)).1 ?_
 refine callsIn_of_wp_marks Tryz.func129 rfl trivial ?_ rfl
 simp only [Tryz.ntmps129,List.size_toArray,List.length_cons,List.length_nil,Nat.reduceAdd,Nat.reduceSub,Array.replicate_succ,Array.replicate_zero,List.push_toArray,List.append_toArray,List.nil_append,List.cons_append]
 gi_wp2
 rw [HW3.out]
 gi_loopw [4,5] (fun t4 t5 wr=>∃s,GeInv w2 BT F0 t4 t5 wr s) (fun t4 t5 wr=>least (GeInv w2 BT F0 t4 t5 wr))
 case atStart=>exact ⟨_,HI.out⟩
 case round=>
  obtain ⟨s,hs⟩:=hrel
  obtain ⟨⟨F,pre,hFs,hsm,o4,o5,hne,hTL,hpre,hlen,hb⟩,_⟩:=least_of hs
  have hsF6:F.size≤1000000:=by rw [hFs];exact hsm
  have HFS:=kI hFs
  have HLN:=kI hlen
  have hpl6:pre.length≤1000001:=by omega
  clear hs hFs hsm hlen
  have hbz:=hb.size
  rcases Nat.eq_zero_or_pos F.len with hz0|hz0
  ·have hFn:F = .nil:=by cases F with
    | nil=>rfl
    | cons=>simp [Fo.len] at hz0
   subst hFn
   obtain ⟨A,c,rfl,_,_⟩:=own_form o5
   obtain ⟨A4,c4,rfl,_,_⟩:=own_form o4
   have hpv:pre=grO F0:=by simpa [grO] using hpre
   subst hpv
   have HO4:=kI o4
   have HB:=kI hb
   clear hb o4 o5 hTL hpre hne
   dsimp only [Fo.len]
   gi_wp2_with (refine ⟨trivial,?_⟩;gi_at_call 71;refine (callsIn_wide.2 (back_make A4 (grO F0).length c4 _)).mono ?_;rintro e w' ⟨rfl,rfl⟩)
   obtain ⟨w8,hw8⟩:∃w8,wr.alloc (.cells #[.slice A4 (grO F0).length c4] 23)=w8:=⟨_,rfl⟩
   have hs8:w8.heap.size=wr.heap.size+1:=by rw [←hw8];simp
   have hbr8:Below wr.heap.size wr w8:=by rw [←hw8];exact (Below.refl _ _).alloc (Nat.le_refl _) _
   have hbs8:Boxed w8 wr.heap.size 23 (.slice A4 (grO F0).length c4):=by rw [←hw8];exact heap_alloc_new _ _
   obtain ⟨hs1,hs2,hs3⟩:=HS.out
   have hb28:Below w2.heap.size w2 w8:=HB.out.trans (hbr8.mono hbz)
   have hR8:RdY (fun b=>w.heap.size≤b∧b<w8.heap.size) w8 (.slice A4 (grO F0).length c4) (grO F0):=(own_rdY HO4.out _ fun g hg=>by have:=HO4.out.lt g hg;omega).below hbr8
   have hi8:EgI J (grO F0) w B w8.heap.size w1.heap.size (.cells #[.func (.func gf) #[] lb] 164) [] w8:=
    ⟨H0.out _ (HB2.out.trans (hb28.mono (by omega))),rfl,(HB2.out.mono hB).trans (hb28.mono (by omega)),Nat.le_refl _,(hb28.block _ (by omega)).trans HVB.out⟩
   have hvb:w1.heap.size<w8.heap.size:=by omega
   have hw08:w.heap.size≤w8.heap.size:=by omega
   rw [hw8]
   clear hw8 hs1 hs2 hs3
   refine wpIn_rangeG (by omega) (gf:=102) (lb:=#[.pointer (some ⟨wr.heap.size,0,none⟩)]) rfl (enters_of Tryz.func102 (by kernel_rfl) rfl)
    (back_seqS 3 (by omega) wr.heap.size (fun b=>w.heap.size≤b∧b<w8.heap.size) (by have:=HS.out;omega) 169 A4 c4 (grO F0) hL0 w8 hbs8 hR8) (Below.refl _ _) KpS.t (fun W l o o' _ h h1 _=>KpS.b W l o o' h h1) (fun _=>rfl)
    (EgI J (grO F0) w B w8.heap.size w1.heap.size (.cells #[.func (.func gf) #[] lb] 164)) (fun _ _ _=>False)
    (EgI.own HJ.out hB hw08 hvb) (fun _ _ _ _ _ hs _ _=>hs) (EgI.ab HJ.out hB hw08 hvb) (fun _ _ _ _ hs _=>hs)
    hi8
    (fun x a' W=>∃Bx,W.heap[Bx]? = some (Obj.cells #[.int .i64 x.2.1,.int .i64 x.2.2.1,slv x.2.2.2] 25)∧a' = { tmps:=#[.agg #[.int .i64 k,.int .i64 n,.slice u1 u2 u3],.func (.func gf) #[] lb,.pointer (some ⟨w.heap.size,0,none⟩),.pointer (some ⟨w1.heap.size,0,none⟩),.slice A4 (grO F0).length c4,
     .slice A 0 c,u6,u7,undef,.pointer (some ⟨Bx,0,none⟩),.agg #[.int .i64 k,.int .i64 n,.slice u1 u2 u3],.slice (some ⟨w2.heap.size,0,none⟩) 1 1,.slice A 0 c,.int .i64 0,.bool false,u15,u16,u17,u18,u19,u20,u21,u22,u23,u24,u25,u26,u27,u28,u29,u30,u31,
     .slice A4 (grO F0).length c4,.func (.func 102) #[] #[.pointer (some ⟨wr.heap.size,0,none⟩)],.int .i64 x.1,trV x.2,undef,undef,undef],defers:=[] })
    (fun x a' s W W' row hs hg hr=>by
     obtain ⟨Bx,hc,ha⟩:=hs
     refine ⟨Bx,(hg.block Bx (gL hc).1 fun e=>?_).trans hc,ha⟩
     obtain ⟨o,ho,hoc⟩:=(hr Bx e.symm).2
     rw [hc] at ho
     cases ho
     cases hoc) ?assign ?body ?done ?stop
   case assign=>
    rintro l pre x W K hi hK
    obtain ⟨x0,x1,x2,A3,n3,c3⟩:=x
    dsimp only [trV,slv] at hK ⊢
    have HI:=kI hi
    clear hi
    gi_wp2
    refine hK _ _ ((KeepsOthers.alloc _ _).from _) (fun b _ o ho _=>(Below.heap_alloc _ _ _ (gL ho).1).trans ho) ?_ ⟨W.heap.size,heap_alloc_new W _,rfl⟩
    exact HI.out.to HJ.out hB hw08 hvb (Its.alloc _ _ _)
   case body=>
    rintro l pre x a' W hl hi ⟨Bx,hc,rfl⟩ ⟨hpl,hx⟩
    subst hx
    have hrl:pre.length<(grO F0).reverse.length:=by simpa using hpl
    have hget:(grO F0)[(grO F0).length-1-pre.length]=(grO F0).reverse[pre.length]:=by rw [List.getElem_reverse]
    have hcall:=HV.out w8.heap.size (pre.map (·.2)) ((grO F0)[(grO F0).length-1-pre.length]) W hw08 hi.2.2.2.1 hi.1 hi.2.2.1 ⟨(grO F0).reverse.drop (pre.length+1),by
     rw [hget,hi.2.1,←List.drop_eq_getElem_cons hrl,List.take_append_drop]⟩
    have hnew:(pre ++ [((((grO F0).length-1-pre.length:Nat):Int),(grO F0)[(grO F0).length-1-pre.length])]).map (·.2)=(grO F0).reverse.take (pre ++ [((((grO F0).length-1-pre.length:Nat):Int),(grO F0)[(grO F0).length-1-pre.length])]).length:=by
     rw [List.map_append,List.length_append,hi.2.1]
     simp only [List.map_cons,List.map_nil,List.length_cons,List.length_nil,hget]
     exact (List.take_succ_eq_append_getElem hrl).symm
    obtain ⟨x,hx⟩:∃x,(grO F0)[(grO F0).length-1-pre.length]=x:=⟨_,rfl⟩
    obtain ⟨z,hz⟩:∃z:Int,(((grO F0).length-1-pre.length:Nat):Int)=z:=⟨_,rfl⟩
    rw [hx] at hcall hc hnew ⊢
    rw [hz] at hnew ⊢
    have HX:=kI (aI hx hz)
    clear hx hz hget
    obtain ⟨x1,x2,A3,n3,c3⟩:=x
    dsimp only [trV,slv] at hc hcall ⊢
    have v0:W.cell? ⟨w1.heap.size,0,none⟩=some (.func (.func gf) #[] lb):=cell_of_row W _ 0 _ _ (0,0) hi.2.2.2.2
    have y0:W.cell? ⟨Bx,0,none⟩=some (.int .i64 x1):=cell_of_row W Bx 0 _ _ (0,0) hc
    have y1:W.cell? ⟨Bx,1,none⟩=some (.int .i64 x2):=cell_of_row W Bx 1 _ _ (0,0) hc
    have y2:W.cell? ⟨Bx,2,none⟩=some (.slice A3 n3 c3):=cell_of_row W Bx 2 _ _ (0,0) hc
    have HCALL:=kI hcall
    have HI:=kI hi
    have HN:=kI hnew
    have HRL:=kI (aI hrl hpl)
    have HL8:=kI hl
    clear hcall hi hnew hc hR8 hi8 hbs8 hb28 hbr8 hrl
    gi_wp2_with (refine ⟨trivial,?_⟩;gi_at_fn gf;refine (CallsIn.inRound l (callsIn_wide.2 HCALL.out)).mono ?_;rintro e w10 ⟨⟨v10,rfl⟩,hj10,hbt⟩)
    obtain ⟨q1,q2,q3,q4,q5⟩:=HI.out
    have hmp:pre.map (·.2) ++ [(x1,x2,A3,n3,c3)]=(pre ++ [(z,x1,x2,A3,n3,c3)]).map (·.2):=by simp
    have hj10':J w8.heap.size (pre.map (·.2) ++ [(x1,x2,A3,n3,c3)]) w10:=hj10
    refine ⟨⟨hbt.size,fun k o hk ho hc=>hbt.same k o hk ho hc⟩,fun b hb o ho _=>(hbt.block b (.inr hb) (gL ho).1).trans ho,by rw [←hmp];exact hj10',HN.out,q3.trans (hbt.below (Nat.le_trans hB (Nat.le_trans hw08 q4))),Nat.le_trans q4 hbt.size,(hbt.block _ (.inr ⟨by have:=HS.out;omega,hvb⟩) (Nat.lt_of_lt_of_le hvb q4)).trans q5⟩
   case done=>
    rintro D ys W hD hys hi hK
    have hi2:=(EgI.own (J:=J) (L:=grO F0) (B:=B) (vc:=.cells #[.func (.func gf) #[] lb] 164) HJ.out hB hw08 hvb).putObj (.deferred none) hi hD hK rfl
    have e:ys.map (·.2)=(grO F0).reverse:=hys
    have HI:=kI hi2
    have HE:=kI e
    clear hi hi2 e hys hi8 hbs8 hR8 hb28 hbr8
    gi_wp2
    refine ⟨by simp,.inl ⟨_,_,rfl,run_takeDeferred hK,?_⟩⟩
    obtain ⟨q1,q2,q3,q4,q5⟩:=HI.out
    rw [HE.out] at q1
    exact ⟨_,results_none rfl _ _ _,⟨_,rfl⟩,⟨_,hw08,q4,q1⟩,q3⟩
   case stop=>
    rintro D c pre W _ _ h _
    exact h.elim
  ·obtain ⟨q,hq⟩:∃q,F.len=q+1:=⟨F.len-1,by omega⟩
   obtain ⟨a,ca,rfl,ha1,ha2⟩:=own_shape o5 hz0
   obtain ⟨A4,c4,rfl,_,_⟩:=own_form o4
   obtain ⟨F',fk,fn,⟨f1,f2,f3⟩,fps,hFe,hFl⟩:=F.last q hq
   subst hFe
   rw [hq] at o5 HFS HLN ⊢
   obtain ⟨e0,e1,e2,ownF⟩:=last_cells hFl o5
   rw [hFl] at ownF
   dsimp only [slv] at e2
   obtain ⟨hT1,hT2⟩:=hTL.unapp
   have hsF:(F'.app (.cons fk fn (f1,f2,f3) fps .nil)).size=F'.size+(1+fps.size):=by rw [Fo.size_app];simp [Fo.size]
   have hlf:=fps.len_le_size
   have hln:f2=fps.len:=TyV.len (u:=(f1,f2,f3)) hT2.1
   subst hln
   have hvs:grO (F'.app (.cons fk fn (f1,fps.len,f3) fps .nil))=(fk,fn,(f1,fps.len,f3)) :: (grO fps++grO F'):=by
    rw [grO_app];simp [grO]
   rw [hvs] at hpre
   have hql:q≤1000000:=by have:=(F'.app (.cons fk fn (f1,fps.len,f3) fps .nil)).len_le_size;omega
   have hz0':(0:Int)≤(q:Int):=by omega
   have hcp:q+1≤ca:=by
    obtain ⟨_,_,hv,h1,_⟩:=own_form o5
    injection hv with _ _ h3
    omega
   have hz:decide ((q:Int)≤(ca:Int))=true:=by simp;omega
   have hq1:((q+1:Nat):Int)-1=(q:Int):=by omega
      -- the box, the list of one, the append
   obtain ⟨w4,hw4⟩:∃w4,(wr.alloc (.cells #[.int .i64 fk,.int .i64 fn,.slice f1 fps.len f3] 25)).alloc (.cells #[.int .i64 fk,.int .i64 fn,.slice f1 fps.len f3] 25)=w4:=⟨_,rfl⟩
   have hs4:w4.heap.size=wr.heap.size+2:=by rw [←hw4];simp
   have hb4:Below wr.heap.size wr w4:=by rw [←hw4];exact ((Below.refl _ _).alloc (Nat.le_refl _) _).alloc (by simp) _
   have hx4:w4.heap[wr.heap.size]? = some (.cells #[.int .i64 fk,.int .i64 fn,.slice f1 fps.len f3] 25):=by rw [←hw4];exact (Below.heap_alloc _ _ _ (by simp)).trans (heap_alloc_new _ _)
   have hy4:w4.heap[wr.heap.size+1]? = some (.cells #[.int .i64 fk,.int .i64 fn,.slice f1 fps.len f3] 25):=by
    rw [←hw4]
    have:=heap_alloc_new (wr.alloc (.cells #[.int .i64 fk,.int .i64 fn,.slice f1 fps.len f3] 25)) (.cells #[.int .i64 fk,.int .i64 fn,.slice f1 fps.len f3] 25)
    rwa [World.size_alloc] at this
   have o44:w4.ownsRow w2.heap.size 25 3 (.slice A4 pre.length c4) pre.length (pre.flatMap trC):=by rw [←hw4];exact (o4.alloc _).alloc _
   have o54:w4.ownsRow w2.heap.size 25 3 (.slice (some ⟨a,0,none⟩) q ca) q (F'.top.flatMap trC):=by rw [←hw4];exact (ownF.alloc _).alloc _
   have rd4:Rd w4 3 (.slice (some ⟨wr.heap.size+1,0,none⟩) 1 1) 1 (trC (fk,fn,(f1,fps.len,f3))):=by
    refine ⟨rfl,.inr ⟨_,0,1,rfl,Nat.le_refl _,by unfold maxLen;omega,by omega,fun j u hu=>?_⟩⟩
    have hj:j<3:=(List.getElem?_eq_some_iff.1 hu).1
    rw [cell_of_row w4 (wr.heap.size+1) (0+j) _ _ (0,0) hy4]
    rcases (by omega:j=0∨j=1∨j=2) with rfl|rfl|rfl<;>simpa [trC,slv] using hu
   obtain ⟨v4,w6,run6,o6,b6,g6,at6⟩:=app_one w4 w2.heap.size (.slice A4 pre.length c4) pre o44 _ _ rd4 (by omega) (by omega)
   have x6:w6.heap[wr.heap.size]? = some (.cells #[.int .i64 fk,.int .i64 fn,.slice f1 fps.len f3] 25):=(g6.block _ (by omega) (fun e=>by have:=(o4.lt _ e.symm).2;omega)).trans hx4
   have i2:w6.cell? ⟨wr.heap.size,2,none⟩=some (.slice f1 fps.len f3):=cell_of_row w6 _ 2 _ _ (0,0) x6
   have o56:w6.ownsRow w2.heap.size 25 3 (.slice (some ⟨a,0,none⟩) q ca) q (F'.top.flatMap trC):=o54.kept g6 (.inr fun e=>hne a e.symm rfl)
   have hz6:=b6.size
   have hS2:=HS.out.2.1
   have bB:Below BT wr w6:=(hb4.mono (by omega)).trans (b6.mono (by omega))
   have hF1:=hT1.below bB
   have hF2:=hT2.1.below bB
   have n6:∀k,v4.ownBlock=some k→a≠k:=by
    intro k h e
    subst e
    rcases at6 with h2|h2
    ·exact hne a (h2.symm.trans h) rfl
    ·rw [h2] at h;injection h with h;omega
   obtain ⟨v7,w7,run7,o7,b7,g7,at7⟩:=app_ty w6.drew w2.heap.size (.slice (some ⟨a,0,none⟩) q ca) F' (by rw [hFl];exact o56) (.slice f1 fps.len f3) fps (TyV.rd3 (B:=BT) (by have:=HS.out;simp only [World.drew];omega) (hF2.below (Below.refl _ _).drew)) (by omega) (by simp only [World.drew];omega)
   have e4:w4.cell? ⟨wr.heap.size,0,none⟩=some (.int .i64 fk):=cell_of_row w4 _ 0 _ _ (0,0) hx4
   have HX:=kI (aI o6 (aI o7 (aI b6 (aI b7 (aI g7 (aI at7 (aI n6 (aI hF1 hF2))))))))
   have HPRE:=kI hpre
   have hw4b:=kI hb4
   have HSF:=kI hsF
   have HBW:=kI hb
   have HQ:=kI (aI hs4 (aI hz6 (aI hbz hFl)))
   clear o6 o7 b6 b7 g6 g7 at6 at7 n6 hF1 hF2 hpre hsF hb hs4 hz6 hbz hFl o4 o44 o5 o54 o56 ownF rd4 hx4 hy4 hb4 hTL hT1 hT2 hne hvs hq hz0 bB x6 hS2
   gi_wp2
   have hmix:Tryz.prog.follows Departure.mixedOrders=true:=by kernel_rfl
   have i2d:w6.drew.cell? ⟨wr.heap.size,2,none⟩=some (.slice f1 fps.len f3):=i2
   clear i2 e4 run6
   refine Code.wpIn_mono NoPanic.imp ?_
   gi_region_with_o (fail)
   all_goals
    refine NoPanic.normal ?_
    obtain ⟨o6,o7,b6,b7,g7,at7,n6,hF1,hF2⟩:=HX.out
    obtain ⟨hs4,hz6,hbz,hFl⟩:=HQ.out
    have hpre:=HPRE.out
    have hb7:Below w2.heap.size wr w7:=((hw4b.out.mono hbz).trans b6).trans ((Below.refl _ _).drew.trans b7)
    have hfin:GeInv w2 BT F0 v4 v7 w7 (F'.size+fps.size):=by
     have hn4:v4.ownBlock=none∨v4.ownBlock≠(Value.slice (some ⟨a,0,none⟩) q ca).ownBlock:=by
      cases h4:v4.ownBlock with
      | none=>exact .inl rfl
      | some k=>exact .inr fun e=>n6 k h4 (by injection e with e;exact e.symm)
     have hb7B:Below BT w6.drew w7:=b7.mono (by have:=HS.out;omega)
     refine ⟨F'.app fps,pre ++ [(fk,fn,(f1,fps.len,f3))],by rw [Fo.size_app],by have:=HSF.out;omega,?_,o7,?_,(hF1.below ((Below.refl _ _).drew.trans hb7B)).app ((TyV.list hF2).below ((Below.refl _ _).drew.trans hb7B)),?_,?_,HBW.out.trans hb7⟩
     ·exact World.ownsRow.kept (w:=w6.drew) o6 g7 hn4
     ·intro k h4 h7
      rcases at7 with h|h
      ·exact n6 k h4 (by rw [h] at h7;injection h7 with h7)
      ·rw [h] at h7
       injection h7 with h7
       have:=(o6.lt k h4).2
       simp only [World.drew] at h7
       omega
     ·rw [grO_app,List.append_assoc]
      exact hpre
     ·have:=HLN.out
      have:=HFS.out
      have:=HSF.out
      simp only [List.length_append,List.length_cons,List.length_nil]
      omega
    have HF:=kI hfin
    clear hfin o6 o7 b6 b7 g7 at7 n6 hF1 hF2 hs4 hz6 hbz hFl hpre hb7
    go_simp
    gi_wp2
    go_roundw
    case rel=>exact ⟨_,HF.out⟩
    case measure=>
     have h1:=HFS.out
     have h2:=HSF.out
     refine Nat.lt_of_lt_of_le (Nat.lt_of_le_of_lt (least_of HF.out).2 ?_) (Nat.le_of_eq h1)
     omega
end
section
def LenOk:Fo→Prop
 | .nil=>True
 | .cons _ _ u ps r=>u.2.1=ps.len∧LenOk ps∧LenOk r
theorem gadd_nil (G:List Gn):gadd G .nil=(G,[]):=by simp [gadd]
theorem gadd_cons (G:List Gn) (k n:Int) (u:Sl) (ps r:Fo):gadd G (.cons k n u ps r)=((gadd (gadd1 G k n ps).1 r).1,(gadd1 G k n ps).2 :: (gadd (gadd1 G k n ps).1 r).2):=by simp [gadd]
theorem gadd1_eq (G:List Gn) (k n:Int) (ps:Fo):gadd1 G k n ps=gnode (gadd G ps).1 k n (gadd G ps).2:=by simp [gadd1]
theorem gadd_len (F:Fo):∀G,(gadd G F).2.length=F.len:=by
 induction F with
 | nil=>intro G;simp [gadd_nil,Fo.len]
 | cons k n u ps r _ ih=>intro G;rw [gadd_cons];simp [Fo.len,ih]
theorem gfold (F:Fo):∀(G:List Gn) (M:List Nat),LenOk F→(grO F).reverse.foldl gstep (G,M)=((gadd G F).1,M++(gadd G F).2):=by
 induction F with
 | nil=>intro G M _;simp [grO,gadd_nil]
 | cons k n u ps r i1 i2=>
  intro G M h
  obtain ⟨h1,h2,h3⟩:=h
  have e:(grO (.cons k n u ps r)).reverse=(grO ps).reverse++(k,n,u) :: (grO r).reverse:=by simp [grO]
  rw [e,List.foldl_append,List.foldl_cons,i1 G M h2]
  have hl:=gadd_len ps G
  have es:gstep ((gadd G ps).1,M++(gadd G ps).2) (k,n,u)=((gadd1 G k n ps).1,M ++ [(gadd1 G k n ps).2]):=by
   have hm:(M++(gadd G ps).2).length-u.2.1=M.length:=by rw [List.length_append,hl,h1];omega
   simp only [gstep,hm,gadd1_eq]
   simp
  rw [es,i2 _ _ h3,gadd_cons]
  simp
theorem TyL.lenOk {B:Nat}{w:World}{f:Fo}(h:TyL B w f):LenOk f:=by
 induction f with
 | nil=>trivial
 | cons k n u ps r i1 i2=>exact ⟨TyV.len (u:=u) h.1,i1 (TyV.list h.1),i2 h.2⟩
end
section
def Vok:Fo→Prop
 | .nil=>True
 | .cons k _ _ ps r=>(k=1→ps = .nil)∧Vok ps∧Vok r
def GI (G:List Gn):Prop:=∀x∈G,x.1=1→x.2.2.1=1
theorem gsum_nil (G:List Gn):gsum G []=0:=rfl
theorem gsum_cons (G:List Gn) (p:Nat) (P:List Nat):gsum G (p :: P)=(G[p]?.map (·.2.2.1)).getD 0+gsum G P:=by simp [gsum]
theorem gvar_at {G:List Gn}{n:Int}{i:Nat}(h:gvar G n=some i):∃x,G[i]? = some x∧x.1=1∧x.2.1=n:=by
 induction G generalizing i with
 | nil=>cases h
 | cons x G ih=>
  simp only [gvar] at h
  split at h
  ·rename_i hx
   cases h
   exact ⟨x,rfl,hx⟩
  ·obtain ⟨j,hj,rfl⟩:=Option.map_eq_some_iff.1 h
   exact ih hj
theorem gnode_ok (G:List Gn) (k n:Int) (P:List Nat) (hG:GI G) (hk:k=1→P=[]):
  (∃E,(gnode G k n P).1=G++E∧E.length≤1)∧GI (gnode G k n P).1∧(gnode G k n P).2<(gnode G k n P).1.length∧((gnode G k n P).1[(gnode G k n P).2]?.map (·.2.2.1)).getD 0=1+gsum G P:=by
 unfold gnode
 split
 ·rename_i i hi
  split at hi
  ·rename_i h1
   obtain ⟨x,hx,hx1,_⟩:=gvar_at hi
   refine ⟨⟨[],by simp,by simp⟩,hG,gvar_lt hi,?_⟩
   rw [hk h1,hx,gsum_nil]
   have:=hG x (List.mem_of_getElem? hx) hx1
   simp [this]
  ·cases hi
 ·refine ⟨⟨[(k,n,1+gsum G P,P)],rfl,by simp⟩,?_,by simp,by simp⟩
  intro x hx h1
  rcases List.mem_append.1 hx with h|h
  ·exact hG x h h1
  ·simp only [List.mem_cons,List.not_mem_nil,or_false] at h
   subst h
   simp only at h1
   simp [hk h1,gsum_nil]
structure Gad (G:List Gn) (F:Fo):Prop where
 more:∃E,(gadd G F).1=G++E∧E.length≤F.size
 ok:GI (gadd G F).1
 lt:∀p∈(gadd G F).2,p<(gadd G F).1.length
 sum:gsum (gadd G F).1 (gadd G F).2=F.size
theorem Vok.nil_of_len {F:Fo}(h:F.len=0):F = .nil:=by cases F with
 | nil=>rfl
 | cons=>simp [Fo.len] at h
theorem gadd_ok (F:Fo):∀G,GI G→Vok F→Gad G F:=by
 induction F with
 | nil=>intro G hG _;exact ⟨⟨[],by simp [gadd_nil],by simp⟩,by rw [gadd_nil];exact hG,by simp [gadd_nil],by simp [gadd_nil,gsum_nil,Fo.size]⟩
 | cons k n u ps r i1 i2=>
  intro G hG hv
  obtain ⟨h1,h2,h3⟩:=hv
  obtain ⟨⟨E1,e1,l1⟩,ok1,lt1,s1⟩:=i1 G hG h2
  have hk:k=1→(gadd G ps).2=[]:=fun h=>by rw [h1 h,gadd_nil]
  obtain ⟨⟨E2,e2,l2⟩,ok2,lt2,s2⟩:=gnode_ok (gadd G ps).1 k n (gadd G ps).2 ok1 hk
  rw [←gadd1_eq] at e2 ok2 lt2 s2
  obtain ⟨⟨E3,e3,l3⟩,ok3,lt3,s3⟩:=i2 (gadd1 G k n ps).1 ok2 h3
  have hlt:(gadd1 G k n ps).2<(gadd (gadd1 G k n ps).1 r).1.length:=by rw [e3,List.length_append];omega
  refine ⟨⟨E1++(E2++E3),?_,?_⟩,?_,?_,?_⟩
  ·rw [gadd_cons]
   show (gadd (gadd1 G k n ps).1 r).1=_
   rw [e3,e2,e1]
   simp only [List.append_assoc]
  ·simp only [List.length_append,Fo.size];omega
  ·rw [gadd_cons];exact ok3
  ·rw [gadd_cons]
   intro p hp
   rcases List.mem_cons.1 hp with rfl|hp
   ·exact hlt
   ·exact lt3 p hp
  ·rw [gadd_cons,gsum_cons,s3]
   simp only [e3]
   rw [List.getElem?_append_left lt2,s2,s1]
   simp only [Fo.size]
theorem fold_len (l:List Tr):∀s,(l.foldl gstep s).1.length≤s.1.length+l.length∧(l.foldl gstep s).2.length≤s.2.length+l.length:=by
 induction l with
 | nil=>intro s;simp
 | cons x l ih=>
  intro s
  have h:=ih (gstep s x)
  have h1:(gstep s x).1.length≤s.1.length+1:=by
   simp only [gstep,gnode]
   split<;>simp
  have h2:(gstep s x).2.length≤s.2.length+1:=by
   simp only [gstep,List.length_append,List.length_take,List.length_cons,List.length_nil]
   omega
  simp only [List.foldl_cons,List.length_cons]
  omega
structure VOk (N:Nat) (s:List Gn×List Nat) (x:Tr):Prop where
 len:x.2.2.2.1≤s.2.length
 lt:∀p∈s.2,p<s.1.length
 sum:gsum s.1 (s.2.drop (s.2.length-x.2.2.2.1))+1≤N
theorem visit_ok (F:Fo):∀(G:List Gn) (M:List Nat) (pre:List Tr) (x:Tr) (r:List Tr),GI G→Vok F→LenOk F→(∀p∈M,p<G.length)→pre++x :: r=(grO F).reverse→VOk F.size (pre.foldl gstep (G,M)) x:=by
 induction F with
 | nil=>intro G M pre x r _ _ _ _ h;simp [grO] at h
 | cons k n u ps q i1 i2=>
  intro G M pre x r hG hv hl hM h
  obtain ⟨v1,v2,v3⟩:=hv
  obtain ⟨l1,l2,l3⟩:=hl
  have e:(grO (.cons k n u ps q)).reverse=(grO ps).reverse++(k,n,u) :: (grO q).reverse:=by simp [grO]
  rw [e] at h
  obtain ⟨⟨E1,e1,le1⟩,ok1,lt1,s1⟩:=gadd_ok ps G hG v2
  have hk:k=1→(gadd G ps).2=[]:=fun h=>by rw [v1 h,gadd_nil]
  have hMl:∀p∈M++(gadd G ps).2,p<(gadd G ps).1.length:=fun p hp=>by
   rcases List.mem_append.1 hp with hp|hp
   ·have:=hM p hp
    rw [e1,List.length_append];omega
   ·exact lt1 p hp
  have hgl:=gadd_len ps G
  have hdrop:(M++(gadd G ps).2).drop ((M++(gadd G ps).2).length-u.2.1)=(gadd G ps).2:=by
   have hm:(M++(gadd G ps).2).length-u.2.1=M.length:=by rw [List.length_append,hgl,l1];omega
   rw [hm];simp
  rcases List.append_eq_append_iff.1 h with ⟨a,ha,hb⟩|⟨a,ha,hb⟩
  · -- it is the list's,or lies in the parts
   cases a with
   | nil=>
    simp only [List.append_nil,List.nil_append] at ha hb
    injection hb with hx hr
    subst hx
    rw [←ha,gfold ps G M l2]
    refine ⟨?_,hMl,?_⟩
    ·simp only [List.length_append,hgl,l1];omega
    ·simp only [hdrop,s1,Fo.size];omega
   | cons y a=>
    simp only [List.cons_append] at hb
    injection hb with hx hr
    subst hx
    have:=i1 G M pre x a hG v2 l2 hM ha.symm
    exact ⟨this.len,this.lt,by have:=this.sum;simp only [Fo.size];omega⟩
  ·cases a with
   | nil=>
    simp only [List.append_nil,List.nil_append] at ha hb
    injection hb with hx hr
    subst hx
    rw [ha,gfold ps G M l2]
    refine ⟨?_,hMl,?_⟩
    ·simp only [List.length_append,hgl,l1];omega
    ·simp only [hdrop,s1,Fo.size];omega
   | cons y a=>
    simp only [List.cons_append] at hb
    injection hb with hx hr
    subst hx
    obtain ⟨⟨E2,e2,le2⟩,ok2,lt2,s2⟩:=gnode_ok (gadd G ps).1 k n (gadd G ps).2 ok1 hk
    have es:gstep ((gadd G ps).1,M++(gadd G ps).2) (k,n,u)=((gadd1 G k n ps).1,M ++ [(gadd1 G k n ps).2]):=by
     have hm:(M++(gadd G ps).2).length-u.2.1=M.length:=by rw [List.length_append,hgl,l1];omega
     simp only [gstep,hm,gadd1_eq]
     simp
    rw [←gadd1_eq] at e2 ok2 lt2
    have hM2:∀p∈M ++ [(gadd1 G k n ps).2],p<(gadd1 G k n ps).1.length:=fun p hp=>by
     rcases List.mem_append.1 hp with hp|hp
     ·have:=hM p hp
      rw [e2,e1];simp only [List.length_append];omega
     ·simp only [List.mem_cons,List.not_mem_nil,or_false] at hp
      subst hp
      exact lt2
    have:=i2 (gadd1 G k n ps).1 (M ++ [(gadd1 G k n ps).2]) a x r ok2 v3 l3 hM2 hr.symm
    rw [ha,List.foldl_append,List.foldl_cons,gfold ps G M l2,es]
    exact ⟨this.len,this.lt,by have:=this.sum;simp only [Fo.size];omega⟩
theorem vok_of {F:Fo}(h:allAlone F.pre=true) (hl:LenOk F):Vok F:=by
 induction F with
 | nil=>trivial
 | cons k n u ps r i1 i2=>
  obtain ⟨l1,l2,l3⟩:=hl
  have h':∀x∈(Fo.cons k n u ps r).pre,alone x.1 x.2.1 x.2.2.2.1=true:=by simpa [allAlone] using h
  have hp:∀x∈ps.pre,alone x.1 x.2.1 x.2.2.2.1=true:=fun x hx=>h' x (by simp [Fo.pre,hx])
  have hr:∀x∈r.pre,alone x.1 x.2.1 x.2.2.2.1=true:=fun x hx=>h' x (by simp [Fo.pre,hx])
  refine ⟨fun hk=>?_,i1 (by simpa [allAlone] using hp) l2,i2 (by simpa [allAlone] using hr) l3⟩
  have:=h' (k,n,u) (by simp [Fo.pre])
  subst hk
  simp only [alone,if_true,Bool.and_eq_true,beq_iff_eq] at this
  exact Vok.nil_of_len (by omega)
end
section
open Go.RowKit Go.Shelf
set_option maxRecDepth 100000
def NoP (r:Option Nat) (L:List Nd):Prop:=∀x∈L,∀b,(slv x.2.2.2).ownBlock=some b→r≠some b
theorem NdL.to2 {B:Nat}{w w':World}{L:List Nd}{G:List Gn}(r:Option Nat) (h:NdL B w L G) (hr:NoP r L) (hk:∀(b:Nat) (cs:Array Value),B≤b→r≠some b→w.heap[b]? = some (Obj.cells cs 3)→w'.heap[b]? = some (Obj.cells cs 3)):NdL B w' L G:=by
 induction L generalizing G with
 | nil=>cases G with
  | nil=>trivial
  | cons=>exact h.elim
 | cons x L ih=>cases G with
  | nil=>exact h.elim
  | cons y G=>
   obtain ⟨⟨h1,h2,h3,h4⟩,h5⟩:=h
   refine ⟨⟨h1,h2,h3,h4.1,?_⟩,ih h5 fun z hz=>hr z (List.mem_cons_of_mem _ hz)⟩
   rcases h4.2 with h|⟨g,cap,cur,hv,hb,hg,hq⟩
   ·exact .inl h
   ·exact .inr ⟨g,cap,cur,hv,hb,hk _ _ hb (hr x List.mem_cons_self g (by rw [hv];rfl)) hg,hq⟩
theorem GrM.to2 {B:Nat}{w w':World}{g:Nat}{v:Value}{mb:Nat}{L:List Nd}{G:List Gn}(h:GrM B w g v mb L G) (r:Option Nat) (hr:NoP r L)
  (hg:w'.heap[g]? = w.heap[g]?) (hm:w'.heap[mb]? = w.heap[mb]?) (hv:∀b,v.ownBlock=some b→w'.heap[b]? = w.heap[b]?)
  (hk:∀(b:Nat) (cs:Array Value),B≤b→r≠some b→w.heap[b]? = some (Obj.cells cs 3)→w'.heap[b]? = some (Obj.cells cs 3)):GrM B w' g v mb L G:=by
 refine ⟨hg.trans h.cell,⟨h.row.1,?_⟩,h.nodes.to2 r hr hk,?_,h.ge⟩
 ·rcases h.row.2 with h2|⟨b,cap,cur,hv2,hb,hh,hr2⟩
  ·exact .inl h2
  ·exact .inr ⟨b,cap,cur,hv2,hb,(hv b (by rw [hv2];rfl)).trans hh,hr2⟩
 ·obtain ⟨S,hv⟩:=h.vars
  exact ⟨S,hv.block hm⟩
theorem NdL.lt_own {B:Nat}{w:World}{L:List Nd}{G:List Gn}(h:NdL B w L G):∀x∈L,∀b,(slv x.2.2.2).ownBlock=some b→b<w.heap.size∧∃cs,w.heap[b]? = some (Obj.cells cs 3):=by
 induction L generalizing G with
 | nil=>intro x hx;cases hx
 | cons y L ih=>cases G with
  | nil=>exact h.elim
  | cons z G=>
   obtain ⟨⟨_,_,_,h4⟩,h5⟩:=h
   intro x hx b hb
   rcases List.mem_cons.1 hx with rfl|hx
   ·rcases h4.2 with ⟨h,_⟩|⟨g,cap,cur,hv,_,hg,_⟩
    ·rw [h] at hb;cases hb
    ·rw [hv] at hb
     injection hb with hb
     subst hb
     exact ⟨(gL hg).1,_,hg⟩
   ·exact ih h5 x hx b hb
structure Sin (w W:World) (g mb tb:Nat) (v0 v:Value):Prop where
 os:W.os=w.os
 tape:W.tape=w.tape
 output:W.output=w.output
 size:w.heap.size≤W.heap.size
 block:∀b,b<w.heap.size→b≠g→b≠mb→b≠tb→v0.ownBlock≠some b→W.heap[b]? = w.heap[b]?
 at_:v.ownBlock=v0.ownBlock∨∃b,v.ownBlock=some b∧w.heap.size≤b
def AddI (w:World) (B g mb tb:Nat) (v0:Value) (L0:List Nd) (G0:List Gn) (M:Nat) (pre:List Tr) (W:World):Prop:=
 ∃(v mv:Value) (E:List Nd),GrM B W g v mb (L0++E) (pre.foldl gstep (G0,[])).1∧W.heap[tb]? = some (.cells #[mv] 41)∧
  W.ownsRow M 3 1 mv (pre.foldl gstep (G0,[])).2.length (nums (pre.foldl gstep (G0,[])).2)∧NoP mv.ownBlock (L0++E)∧
  (∀b,v.ownBlock=some b→b<w.heap.size∨M≤b)∧(∀x∈E,∀b,(slv x.2.2.2).ownBlock=some b→w.heap.size≤b)∧Sin w W g mb tb v0 v
theorem Its.keep {M:Nat}{W W':World}(h:Its M W W') {b:Nat}{o:Obj}(ho:W.heap[b]? = some o) (hb:b<M∨(o.isCells=true∧∀cs,o≠.cells cs 169)):W'.heap[b]? = some o:=by
 obtain ⟨row,hg,hr⟩:=h
 rw [hg.block b (gL ho).1 ?_,ho]
 intro e
 obtain ⟨h1,o',h2,h3⟩:=hr b e.symm
 rw [ho] at h2
 cases h2
 rcases hb with hb|⟨hb,hc⟩
 ·omega
 ·rcases h3 with h3|⟨cs,h3⟩
  ·rw [hb] at h3;cases h3
  ·exact hc cs h3
theorem Its.size {M:Nat}{W W':World}(h:Its M W W'):W.heap.size≤W'.heap.size:=by obtain ⟨row,hg,hr⟩:=h;exact hg.size
theorem AddI.its {w:World}{B g mb tb:Nat}{v0:Value}{L0:List Nd}{G0:List Gn}(hmb:mb<w.heap.size) {M:Nat}{pre:List Tr}{W W':World}(hM:w.heap.size≤M) (h:AddI w B g mb tb v0 L0 G0 M pre W) (hi:Its M W W'):AddI w B g mb tb v0 L0 G0 M pre W':=by
 obtain ⟨v,mv,E,hG,htb,hmv,hno,hvb,hE,hS⟩:=h
 have k1:=hi.keep hG.cell (.inr ⟨rfl,fun cs e=>by injection e with _ e;revert e;decide⟩)
 have k2:=hi.keep htb (.inr ⟨rfl,fun cs e=>by injection e with _ e;revert e;decide⟩)
 have kc:∀(b:Nat) (cs:Array Value) (t:TypeId),t≠169→W.heap[b]? = some (Obj.cells cs t)→W'.heap[b]? = some (Obj.cells cs t):=fun b cs t ht hb=>hi.keep hb (.inr ⟨rfl,fun cs e=>by injection e with _ e;exact ht e⟩)
 have km:W'.heap[mb]? = W.heap[mb]?:=by
  have:=hG.lt.2
  have h2:W.heap[mb]? = some W.heap[mb]:=Array.getElem?_eq_getElem this
  rw [hi.keep h2 (.inl (by omega)),h2]
 refine ⟨v,mv,E,hG.to (k1.trans hG.cell.symm) km (fun b hb=>?_) (fun b cs _ hb=>kc b cs _ (by decide) hb),k2,⟨hmv.1,?_⟩,hno,hvb,hE,⟨?_,?_,?_,Nat.le_trans hS.size hi.size,fun b hb h1 h2 h3 h4=>?_,hS.at_⟩⟩
 ·rcases hG.row.2 with ⟨h,_⟩|⟨b',cap,cur,hv,_,hh,_⟩
  ·rw [h] at hb;cases hb
  ·rw [hv] at hb
   injection hb with hb
   subst hb
   exact (kc _ _ _ (by decide) hh).trans hh.symm
 ·rcases hmv.2 with h|⟨b',cap,cur,hv,hb,hh,hr⟩
  ·exact .inl h
  ·exact .inr ⟨b',cap,cur,hv,hb,kc _ _ _ (by decide) hh,hr⟩
 ·obtain ⟨_,hg,_⟩:=hi;exact hg.os.trans hS.os
 ·obtain ⟨_,hg,_⟩:=hi;exact hg.tape.trans hS.tape
 ·obtain ⟨_,hg,_⟩:=hi;exact hg.output.trans hS.output
 ·have h5:=hS.block b hb h1 h2 h3 h4
  have h6:w.heap[b]? = some w.heap[b]:=Array.getElem?_eq_getElem hb
  rw [h6] at h5 ⊢
  exact hi.keep h5 (.inl (by omega))
end
end Go.Proofs.YtmamdiggjghjkaaGreatDoor
