/- Texts of one proof, one behind the other. -/
import Derived.Test.YtmamdiggjghjkaaGreatDoorMgSolveOrder1
import Derived.Test.YtmamdiggjghjkaaGreatDoorMgSolveOrder7
import Derived.Test.YtmamdiggjghjkaaGreatDoorMgSolveOrder16
import Derived.IntWalk
import Derived.Laws.OwnMore
import Derived.Test.YtmamdiggjghjkaaGreatDoorMgSolveOrder10
import Derived.Test.YtmamdiggjghjkaaGreatDoorMgSolveOrder8
import Derived.Test.YtmamdiggjghjkaaGreatDoorMgSolveOrder6
import Derived.Test.YtmamdiggjghjkaaGreatDoorMgSolveOrder3
set_option linter.unusedVariables false
namespace Go.Proofs.YtmamdiggjghjkaaGreatDoor
section
open Go.RowKit
open Un (Else StM rowI UFo own_else dg swp wp_world paint)
attribute [local go_sem] Oper.semAt_some
set_option maxRecDepth 100000
theorem zeroCy (w:World):(zeroValue 4).run Tryz.prog w = .ok (.bool false) w:=by kernel_rfl
theorem endsTy:MapTy 100 4 (.bool false):=⟨Tryz.underlying100,zeroCy⟩
def endF (e:Nat→Option Bool) (n:Int):Option Value:=if 0≤n then (e n.toNat).map Value.bool else none
theorem endF_at (e:Nat→Option Bool) (r:Nat):endF e (r:Int)=(e r).map Value.bool:=by
 unfold endF
 rw [if_pos (by omega)]
 simp
theorem endF_upd (e:Nat→Option Bool) (r:Nat) (b:Bool):upd (endF e) (r:Int) (.bool b)=endF (upe e r b):=by
 funext m
 unfold upd endF upe
 by_cases h:0≤m
 ·rw [if_pos h,if_pos h]
  by_cases hm:m=r
  ·subst hm
   simp
  ·rw [if_neg hm,if_neg (by omega)]
 ·rw [if_neg h,if_neg h,if_neg (by omega)]
def WkM (w:World) (wb mb:Nat) (e:Nat→Option Bool) (st:Int) (m:Nat):Prop:=
 w.heap[wb]? = some (Obj.cells #[.map (some mb),.int .i64 st] 207)∧∃S,MapF (endF e) S m mb w
theorem WkM.keep {w w':World}{wb mb:Nat}{e:Nat→Option Bool}{st:Int}{m:Nat}(h:WkM w wb mb e st m) {S:Nat→Prop}(he:Else S w w') (h1:¬ S wb) (h2:¬ S mb):WkM w' wb mb e st m:=by
 obtain ⟨a,z,b⟩:=h
 exact ⟨(he.block wb (gL a).1 h1).trans a,z,b.block (he.block mb b.lt h2)⟩
theorem WkM.lt {w:World}{wb mb:Nat}{e:Nat→Option Bool}{st:Int}{m:Nat}(h:WkM w wb mb e st m):wb<w.heap.size∧mb<w.heap.size:=by
 obtain ⟨a,z,b⟩:=h
 exact ⟨(gL a).1,b.lt⟩
section CyAs
variable {O:Nat→Prop}{w:World}{cb:Nat}{A:Adr}{st:Int}{n:Nat}{G:List Gn}{kn:Kn}{nx col ro:Nat→Nat}{fs:Int}{wb mb:Nat}{e:Nat→Option Bool}{sp:Int}{m:Nat}
set_option maxHeartbeats 1000000 in
theorem seen_any (hC:ClM O w cb A st false n G kn nx col ro fs) (hW:WkM w wb mb e sp m) (hap:∀k,A.D k∨A.F cb k→k≠wb) (hne:wb≠mb) (hsp:0≤sp∧sp≤1000000000000) (r:Nat) (hr:r≤1000000000):
  Calls Tryz.prog 153 #[.pointer (some ⟨wb,0,none⟩),.agg #[.pointer (some ⟨cb,0,none⟩),.int .i64 (r:Nat)]] w fun x w'=>x = .returned (.bool (e r).isSome)∧WkM w' wb mb e (sp+1) m∧Else (fun k=>k=wb) w w':=by
 obtain ⟨ok,hok⟩:∃b,(e r).isSome=b:=⟨_,rfl⟩
 rw [hok]
 have HOK:=kI hok
 clear hok
 obtain ⟨hcell,z,hmap⟩:=id hW
 have hwl:=hW.lt
 have c0:w.cell? ⟨wb,0,none⟩=some (.map (some mb)):=cell_of_row w _ 0 _ _ (0,0) hcell
 have c1:w.cell? ⟨wb,1,none⟩=some (.int .i64 sp):=cell_of_row w _ 1 _ _ (0,0) hcell
 have cz:w.frozen? ⟨wb,1,none⟩=false:=by simp [World.frozen?,hcell]
 have HH:=kI (aI hC (aI hW (aI hap (aI hne (aI hcell (aI hmap hr))))))
 have hwb:=hwl.1
 clear hC hW hap hne hcell hmap hwl hr
 go_enter Tryz.func153,Tryz.ntmps153
 go_upto_region 2 with fail
 refine wp_world (fun Z=>Z.heap[w.heap.size]? = some (Obj.cells #[.pointer (some ⟨cb,0,none⟩),.int .i64 (r:Nat)] 136)∧Z.heap[wb]? = some (Obj.cells #[.map (some mb),.int .i64 (sp+1)] 207)∧Else (fun k=>k=wb) w Z) ?_ ?_
 ·have hs:(w.setCell ⟨wb,1,none⟩ (.int .i64 (sp+1))).heap.size=w.heap.size:=by simp
  refine ⟨?_,?_,?_⟩
  ·have:=heap_alloc_new (w.setCell ⟨wb,1,none⟩ (.int .i64 (sp+1))) (.cells #[.pointer (some ⟨cb,0,none⟩),.int .i64 (r:Nat)] 136)
   rw [hs] at this
   exact this
  ·exact (Below.heap_alloc _ _ _ (by rw [hs];exact hwb)).trans (heap_setCell_same w wb 1 _ _ _ HH.out.2.2.2.2.1)
  ·exact (Un.Else.set (S:=fun k=>k=wb) w (p:=⟨wb,1,none⟩) rfl _).trans (Un.Else.alloc _ _ _)
 rintro Z ⟨h1,h2,h3⟩
 have hmZ:MapF (endF e) z m mb Z:=HH.out.2.2.2.2.2.1.block (h3.block mb HH.out.2.2.2.2.2.1.lt (fun h=>HH.out.2.2.2.1 h.symm))
 have hCZ:=HH.out.1.aside h3 fun k hk he=>HH.out.2.2.1 k hk he
 have hrw:(Lit.int .i64 (r:Nat)).wf=true:=by have h:=wrap64_wf (r:Nat);rwa [IntWalk.wrap64_in _ (by have:=HH.out.2.2.2.2.2.2;omega)] at h
 obtain ⟨z0,hz0⟩:∃v:Bool,(((e r).map Value.bool).getD (.bool false)) = .bool v:=by cases e r with
  | none=>exact ⟨false,rfl⟩
  | some b=>exact ⟨b,rfl⟩
 have hok:=HOK.out
 have EX:Hid (∀W,Below Z.heap.size Z W→W.cell? ⟨w.heap.size,0,none⟩=some (.pointer (some ⟨cb,0,none⟩))∧W.cell? ⟨w.heap.size,1,none⟩=some (.int .i64 (r:Nat))∧W.cell? ⟨wb,0,none⟩=some (.map (some mb))∧(Instr.lookup 100 (.map (some mb)) (.int .i64 (r:Nat)) true).run Tryz.prog W = .ok (.tuple #[.bool z0,.bool ok]) W):=kI fun W hW=>by
  have hb:=(hW.block _ (gL h1).1).trans h1
  have hw:=(hW.block _ (gL h2).1).trans h2
  have hl:=(hmZ.below hW).look_ok endsTy (r:Nat) hrw
  rw [endF_at,hz0] at hl
  rw [Option.isSome_map,hok] at hl
  exact ⟨cell_of_row W _ 0 _ _ (0,0) hb,cell_of_row W _ 1 _ _ (0,0) hb,cell_of_row W _ 0 _ _ (0,0) hw,hl⟩
 have HID:Hid (∀W,Below Z.heap.size Z W→Calls Tryz.prog 84 #[.agg #[.pointer (some ⟨cb,0,none⟩),.int .i64 (r:Nat)]] W fun e w'=>e = .returned (.int .i64 (r:Nat))∧Below W.heap.size W w'):=kI fun W hW=>pid_cl (hCZ.below hW) r
 have HZ:=kI (aI h2 (aI h3 (aI hmZ hok)))
 clear h1 h2 h3 hmZ hCZ hrw hz0 hok c0 c1 cz
 go_wp2_with fail
 have hS:Below Z.heap.size Z Z.drew:=(Below.refl _ _).drew
 refine wp_region_held (S:=(fun W=>Below Z.heap.size Z W)) (by kernel_rfl) ?_
 change wpAnyH _ _ _ _ _ 12 (List.replicate 12 false).toArray _ Z.drew
 simp only [List.replicate_succ,List.replicate_zero]
 refine tj (i:=0) (some 15) (.pointer (some ⟨wb,0,none⟩)) rfl hS ?_
 simp only [Act.put,zA,zB,zC]
 refine tj (i:=1) (some 16) (.pointer (some ⟨wb,0,none⟩)) rfl hS ?_
 simp only [Act.put,zA,zB,zC]
 refine tj (i:=2) (some 17) (.pointer (some ⟨wb,0,none⟩)) rfl hS ?_
 simp only [Act.put,zA,zB,zC]
 refine tk (i:=3) (some 18) (.map (some mb)) rfl (fun W hw=>by obtain ⟨n0_,n1_,n2_,n3_⟩:=EX.out W hw;clear hw;go_simp) hS ?_
 simp only [Act.put,zA,zB,zC]
 refine tk (i:=4) (some 19) (.agg #[.pointer (some ⟨cb,0,none⟩),.int .i64 (r:Nat)]) rfl (fun W hw=>by obtain ⟨n0_,n1_,n2_,n3_⟩:=EX.out W hw;clear hw;go_simp) hS ?_
 simp only [Act.put,zA,zB,zC]
 refine aK 5 ?_
 refine ops_call (d:=some 20) rfl (by rfl) (by kernel_rfl) (by go_simp) ((HID.out _ hS).mono ?_)
 rintro x w5 ⟨rfl,hb5⟩
 have hS5:Below Z.heap.size Z w5:=hS.trans (hb5.mono hS.size)
 refine ⟨_,rfl,hS5,?_⟩
 simp only [Act.put,zA,zB,zC]
 refine tk (i:=6) (some 21) (.tuple #[.bool z0,.bool ok]) rfl (fun W hw=>by obtain ⟨n0_,n1_,n2_,n3_⟩:=EX.out W hw;clear hw;go_simp) hS5 ?_
 simp only [Act.put,zA,zB,zC]
 refine tj (i:=7) (some 14) (.tuple #[.bool z0,.bool ok]) rfl hS5 ?_
 simp only [Act.put,zA,zB,zC]
 refine tj (i:=8) (some 22) (.bool z0) rfl hS5 ?_
 simp only [Act.put,zA,zB,zC]
 refine tj (i:=9) (some 23) (.bool ok) rfl hS5 ?_
 simp only [Act.put,zA,zB,zC]
 refine tj (i:=10) (some 5) (.bool z0) rfl hS5 ?_
 simp only [Act.put,zA,zB,zC]
 refine tj (i:=11) (some 6) (.bool ok) rfl hS5 ?_
 simp only [Act.put,zA,zB,zC]
 refine wpAnyH_done (by kernel_rfl) ?_ _
 have HB5:=kI hS5
 clear hS hS5 hb5 EX HID
 go_wp2_with fail
 refine bodyPost_ret (results_tmp rfl _ _ _) rfl ⟨rfl,⟨(HB5.out.block _ (gL HZ.out.1).1).trans HZ.out.1,z,HZ.out.2.2.1.below HB5.out⟩,HZ.out.2.1.trans (Else.of_below HB5.out)⟩
theorem load_class {W:World}{g:Nat}{a b c d:Value}(h0:W.cell? ⟨g,0,none⟩=some a) (h1:W.cell? ⟨g,1,none⟩=some b) (h2:W.cell? ⟨g,2,none⟩=some c) (h3:W.cell? ⟨g,3,none⟩=some d):(loadVar 184 ⟨g,0,none⟩).run Tryz.prog W = .ok (.agg #[a,b,c,d]) W:=by
 go_simp
def BgPost (O:Nat→Prop) (cb:Nat) (A:Adr) (st:Int) (n:Nat) (G:List Gn) (kn:Kn) (nx col ro:Nat→Nat) (fs:Int) (wb mb:Nat) (e:Nat→Option Bool) (sp:Int) (m r:Nat) (w:World) (x:Ending) (w':World):Prop:=
 ∃(v:Value) (k:Nat),x = .returned (.agg #[.pointer (some ⟨cb,0,none⟩),.int .i64 (r:Nat),v,.int .i64 0])∧w'.ownsRow w.heap.size 136 2 v (partsO G (kn r).1).length (ptC cb ((partsO G (kn r).1).map ro))∧WkM w' wb mb (upe e r false) sp (m+1)∧k≤168∧ClM O w' cb A st false n G kn nx col ro (fs+k)∧Else (fun k=>A.S k∨k=mb) w w'
set_option maxHeartbeats 2000000 in
theorem begin_any (hC:ClM O w cb A st false n G kn nx col ro fs) (hW:WkM w wb mb e sp m) (hap:∀k,A.D k∨A.F cb k→k≠wb∧k≠mb) (hne:wb≠mb) (hst:0≤fs∧fs≤100000000000) (hdg:dg n≤21) (r:Nat) (hrn:r<n) (hr:r≤1000000000) (hm:m≤100000000) (hP:∀p∈G,p.2.2.2.length≤8∧∀u∈p.2.2.2,u<n):
  Calls Tryz.prog 154 #[.pointer (some ⟨wb,0,none⟩),.agg #[.pointer (some ⟨cb,0,none⟩),.int .i64 (r:Nat)]] w (BgPost O cb A st n G kn nx col ro fs wb mb e sp m r w):=by
 have HH:=kI (aI hC (aI hW (aI hap (aI hne (aI hst (aI hdg (aI hrn (aI hr (aI hm hP)))))))))
 clear hC hW hap hne hst hdg hrn hr hm hP
 go_enter Tryz.func154,Tryz.ntmps154
 go_upto_region 1 with fail
 refine wp_world (fun Z=>Z.heap[w.heap.size]? = some (Obj.cells #[.pointer (some ⟨cb,0,none⟩),.int .i64 (r:Nat)] 136)∧Z.heap[w.heap.size+1]? = some (Obj.cells #[.pointer none,.int .i64 0,.slice none 0 0,.int .i64 0] 184)∧Below w.heap.size w Z) ?_ ?_
 ·refine ⟨(Below.heap_alloc _ _ _ (by simp)).trans (heap_alloc_new _ _),?_,((Below.refl _ _).alloc (Nat.le_refl _) _).alloc (by simp) _⟩
  have h:=heap_alloc_new (w.alloc (.cells #[.pointer (some ⟨cb,0,none⟩),.int .i64 (r:Nat)] 136)) (.cells #[.pointer none,.int .i64 0,.slice none 0 0,.int .i64 0] 184)
  simpa using h
 rintro Z ⟨h1,h2,h3⟩
 have hWZ:WkM Z wb mb e sp m:=HH.out.2.1.keep (S:=fun _=>False) (Else.of_below h3) id id
 have hCZ:=HH.out.1.below h3
 have hlt:=HH.out.2.1.lt
 have EX:Hid (∀W,Else (fun k=>k=mb) Z W→W.cell? ⟨w.heap.size,0,none⟩=some (.pointer (some ⟨cb,0,none⟩))∧W.cell? ⟨w.heap.size,1,none⟩=some (.int .i64 (r:Nat))∧W.cell? ⟨wb,0,none⟩=some (.map (some mb))):=kI fun W hW=>by
  have hb:=(hW.block _ (gL h1).1 (fun h=>by omega)).trans h1
  have hw:=(hW.block _ (gL hWZ.1).1 (fun h=>HH.out.2.2.2.1 h)).trans hWZ.1
  exact ⟨cell_of_row W _ 0 _ _ (0,0) hb,cell_of_row W _ 1 _ _ (0,0) hb,cell_of_row W _ 0 _ _ (0,0) hw⟩
 have HID:Hid (∀W,Below Z.heap.size Z W→Calls Tryz.prog 84 #[.agg #[.pointer (some ⟨cb,0,none⟩),.int .i64 (r:Nat)]] W fun e w'=>e = .returned (.int .i64 (r:Nat))∧Below W.heap.size W w'):=kI fun W hW=>pid_cl (hCZ.below hW) r
 have HZ:=kI (aI h1 (aI h2 (aI h3 (aI hWZ (aI hCZ hlt)))))
 clear h1 h2 h3 hWZ hCZ hlt
 go_wp2_with fail
 have hB:Below Z.heap.size Z Z.drew:=(Below.refl _ _).drew
 have hS:Else (fun k=>k=mb) Z Z.drew:=Else.of_below hB
 refine wp_region_held (S:=(fun W=>Else (fun k=>k=mb) Z W)) (by kernel_rfl) ?_
 change wpAnyH _ _ _ _ _ 7 (List.replicate 7 false).toArray _ Z.drew
 simp only [List.replicate_succ,List.replicate_zero]
 refine tj (i:=0) (some 5) (.pointer (some ⟨wb,0,none⟩)) rfl hS ?_
 simp only [Act.put,zA,zB,zC]
 refine tj (i:=1) (some 6) (.pointer (some ⟨wb,0,none⟩)) rfl hS ?_
 simp only [Act.put,zA,zB,zC]
 refine tj (i:=2) (some 7) (.pointer (some ⟨wb,0,none⟩)) rfl hS ?_
 simp only [Act.put,zA,zB,zC]
 refine tk (i:=3) (some 8) (.map (some mb)) rfl (fun W hw=>by obtain ⟨n0_,n1_,n2_⟩:=EX.out W hw;clear hw;go_simp) hS ?_
 simp only [Act.put,zA,zB,zC]
 refine tk (i:=4) (some 9) (.agg #[.pointer (some ⟨cb,0,none⟩),.int .i64 (r:Nat)]) rfl (fun W hw=>by obtain ⟨n0_,n1_,n2_⟩:=EX.out W hw;clear hw;go_simp) hS ?_
 simp only [Act.put,zA,zB,zC]
 refine aK 5 ?_
 refine ops_call (d:=some 10) rfl (by rfl) (by kernel_rfl) (by go_simp) ((HID.out _ hB).mono ?_)
 rintro x w5 ⟨rfl,hb5⟩
 have hB5:Below Z.heap.size Z w5:=hB.trans (hb5.mono hB.size)
 have hS5:Else (fun k=>k=mb) Z w5:=Else.of_below hB5
 refine ⟨_,rfl,hS5,?_⟩
 simp only [Act.put,zA,zB,zC]
 obtain ⟨q,hmap⟩:=HZ.out.2.2.2.1.2
 have hrw:(Lit.int .i64 (r:Nat)).wf=true:=by have h:=wrap64_wf (r:Nat);rwa [IntWalk.wrap64_in _ (by have:=HH.out.2.2.2.2.2.2.2.1;omega)] at h
 obtain ⟨w6,hrun,hm6,hg6,_,_⟩:=(hmap.below hB5).put endsTy (by have:=HH.out.2.2.2.2.2.2.2.2.1;omega) (r:Nat) hrw (.bool false)
 rw [endF_upd] at hm6
 have hE6:Else (fun k=>k=mb) w5 w6:=Else.grown hg6 fun k hk=>by cases hk;rfl
 have hS6:Else (fun k=>k=mb) Z w6:=hS5.trans hE6
 have hm6':∃S,MapF (endF (upe e r false)) S (m+1) mb w6:=⟨_,hm6⟩
 have HM6:=kI (aI hm6' hS6)
 clear hm6 hm6' hmap hg6 hE6 hrw
 refine aK 6 ?_
 refine ops_skip (w':=w6) rfl (by kernel_rfl) (by clear hS hS5 hB hB5 hb5;go_simp) hS6 rfl ?_
 refine wpAnyH_done (by kernel_rfl) ?_ _
 clear hrun hS hS5 hS6 hB hB5 hb5 EX HID
 have hap:=HH.out.2.2.1
 have hwm:=HZ.out.2.2.2.2.2
 have h13:=HZ.out.2.2.1.size
 have hb1:w6.heap[w.heap.size]? = some (Obj.cells #[.pointer (some ⟨cb,0,none⟩),.int .i64 (r:Nat)] 136):=(HM6.out.2.block _ (gL HZ.out.1).1 (fun h=>by omega)).trans HZ.out.1
 have hb2:w6.heap[w.heap.size+1]? = some (Obj.cells #[.pointer none,.int .i64 0,.slice none 0 0,.int .i64 0] 184):=(HM6.out.2.block _ (gL HZ.out.2.1).1 (fun h=>by omega)).trans HZ.out.2.1
 have hC6:ClM O w6 cb A st false n G kn nx col ro fs:=HZ.out.2.2.2.2.1.aside HM6.out.2 fun k hk he=>(hap k hk).2 he
 have hwS:∀k,A.S k→k<w.heap.size:=fun k hk=>HH.out.1.lt (.inr (.inl hk))
 have EZ:Hid (∀W,Else (fun k=>A.S k∨k=w.heap.size+1) w6 W→W.cell? ⟨w.heap.size,0,none⟩=some (.pointer (some ⟨cb,0,none⟩))∧W.cell? ⟨w.heap.size,1,none⟩=some (.int .i64 (r:Nat))):=kI fun W hW=>by
  have hb:=(hW.block _ (gL hb1).1 (fun h=>by rcases h with h|h;(have:=hwS _ h;omega);omega)).trans hb1
  exact ⟨cell_of_row W _ 0 _ _ (0,0) hb,cell_of_row W _ 1 _ _ (0,0) hb⟩
 have HPP:=kI (pparts_cl (hC6.below (Below.refl _ w6).drew) (by have:=HH.out.2.2.2.2.1;omega) HH.out.2.2.2.2.2.1 r HH.out.2.2.2.2.2.2.1 HH.out.2.2.2.2.2.2.2.2.2)
 have H6:=kI (aI hb2 (aI hC6 hwS))
 clear hap hwm h13 hb1 hb2 hC6 hwS
 go_wp2_with fail
 have hS:Else A.S w6 w6.drew:=Un.Else.drew (Else.refl _ _)
 have hSS:Else (fun k=>A.S k∨k=w.heap.size+1) w6 w6.drew:=hS.mono fun k hk=>.inl hk
 refine wp_region_held (S:=(fun W=>Else (fun k=>A.S k∨k=w.heap.size+1) w6 W)) (by kernel_rfl) ?_
 change wpAnyH _ _ _ _ _ 5 (List.replicate 5 false).toArray _ w6.drew
 simp only [List.replicate_succ,List.replicate_zero]
 refine tk (i:=0) (some 11) (.agg #[.pointer (some ⟨cb,0,none⟩),.int .i64 (r:Nat)]) rfl (fun W hw=>by obtain ⟨n0_,n1_⟩:=EZ.out W hw;clear hw;go_simp) hSS ?_
 simp only [Act.put,zA,zB,zC]
 refine tk (i:=1) (some 12) (.agg #[.pointer (some ⟨cb,0,none⟩),.int .i64 (r:Nat)]) rfl (fun W hw=>by obtain ⟨n0_,n1_⟩:=EZ.out W hw;clear hw;go_simp) hSS ?_
 simp only [Act.put,zA,zB,zC]
 refine aK 2 ?_
 refine ops_call (d:=some 13) rfl (by rfl) (by kernel_rfl) (by go_simp) ((show Calls _ _ #[.agg #[.pointer (some ⟨cb,0,none⟩),.int .i64 (r:Nat)]] _ _ from HPP.out).mono ?_)
 rintro x w7 ⟨v7,k7,rfl,ho7,hk7,hC7,hE7⟩
 obtain ⟨Ap,cp,rfl,_,_⟩:=Un.own_form ho7
 have hE67:Else A.S w6 w7:=hS.trans hE7
 have hSS7:Else (fun k=>A.S k∨k=w.heap.size+1) w6 w7:=hE67.mono fun k hk=>.inl hk
 refine ⟨_,rfl,hSS7,?_⟩
 simp only [Act.put,zA,zB,zC]
 obtain ⟨q,hq⟩:∃q,(partsO G (kn r).1).length=q:=⟨_,rfl⟩
 rw [hq]
 refine tj (i:=3) (some 14) (.agg #[.pointer (some ⟨cb,0,none⟩),.int .i64 (r:Nat),.slice Ap q cp,.int .i64 0]) rfl hSS7 ?_
 simp only [Act.put,zA,zB,zC]
 have hb7:w7.heap[w.heap.size+1]? = some (Obj.cells #[.pointer none,.int .i64 0,.slice none 0 0,.int .i64 0] 184):=(hE67.block _ (gL H6.out.1).1 (fun h=>by have:=H6.out.2.2 _ h;omega)).trans H6.out.1
 have hgl:=(gL hb7).1
 have d0:w7.cell? ⟨w.heap.size+1,0,none⟩=some (.pointer none):=cell_of_row w7 _ 0 _ _ (0,0) hb7
 have d1:w7.cell? ⟨w.heap.size+1,1,none⟩=some (.int .i64 0):=cell_of_row w7 _ 1 _ _ (0,0) hb7
 have d2:w7.cell? ⟨w.heap.size+1,2,none⟩=some (.slice none 0 0):=cell_of_row w7 _ 2 _ _ (0,0) hb7
 have d3:w7.cell? ⟨w.heap.size+1,3,none⟩=some (.int .i64 0):=cell_of_row w7 _ 3 _ _ (0,0) hb7
 have z0:w7.frozen? ⟨w.heap.size+1,0,none⟩=false:=by simp [World.frozen?,hb7]
 have z1:w7.frozen? ⟨w.heap.size+1,1,none⟩=false:=by simp [World.frozen?,hb7]
 have z2:w7.frozen? ⟨w.heap.size+1,2,none⟩=false:=by simp [World.frozen?,hb7]
 have z3:w7.frozen? ⟨w.heap.size+1,3,none⟩=false:=by simp [World.frozen?,hb7]
 obtain ⟨w8,hw8⟩:∃w8,(((w7.setCell ⟨w.heap.size+1,0,none⟩ (.pointer (some ⟨cb,0,none⟩))).setCell ⟨w.heap.size+1,1,none⟩ (.int .i64 (r:Nat))).setCell ⟨w.heap.size+1,2,none⟩ (.slice Ap q cp)).setCell ⟨w.heap.size+1,3,none⟩ (.int .i64 0)=w8:=⟨_,rfl⟩
 have hE8:Else (fun k=>k=w.heap.size+1) w7 w8:=by
  rw [←hw8]
  exact (((Un.Else.set (S:=fun k=>k=w.heap.size+1) w7 (p:=⟨w.heap.size+1,0,none⟩) rfl _).trans (Un.Else.set (S:=fun k=>k=w.heap.size+1) _ (p:=⟨w.heap.size+1,1,none⟩) rfl _)).trans (Un.Else.set (S:=fun k=>k=w.heap.size+1) _ (p:=⟨w.heap.size+1,2,none⟩) rfl _)).trans (Un.Else.set (S:=fun k=>k=w.heap.size+1) _ (p:=⟨w.heap.size+1,3,none⟩) rfl _)
 have hb8:w8.heap[w.heap.size+1]? = some (Obj.cells #[.pointer (some ⟨cb,0,none⟩),.int .i64 (r:Nat),.slice Ap q cp,.int .i64 0] 184):=by
  rw [←hw8]
  exact heap_setCell_same _ _ 3 _ _ _ (heap_setCell_same _ _ 2 _ _ _ (heap_setCell_same _ _ 1 _ _ _ (heap_setCell_same _ _ 0 _ _ _ hb7)))
 have hSS8:Else (fun k=>A.S k∨k=w.heap.size+1) w6 w8:=hSS7.trans (hE8.mono fun k hk=>.inr hk)
 have H8:=kI (aI ho7 (aI hk7 (aI hC7 (aI hE67 (aI hE8 (aI hb8 hq))))))
 refine aK 4 ?_
 refine ops_skip (w':=w8) rfl (by kernel_rfl) (by clear hS hSS hSS7 hE8 hb8 hSS8 hE67 hE7 hb7 ho7 hC7 hk7 hq;go_simp) hSS8 rfl ?_
 refine wpAnyH_done (by kernel_rfl) ?_ _
 clear hS hSS hSS7 hE8 hb8 hSS8 hE67 hE7 hb7 ho7 hC7 hk7 hq d0 d1 d2 d3 z0 z1 z2 z3 hw8 EZ
 go_wp2_with fail
 obtain ⟨ho7,hk7,hC7,hE67,hE8,hb8,hq⟩:=H8.out
 have hsz:w.heap.size+1<w6.heap.size:=(gL H6.out.1).1
 have hap:=HH.out.2.2.1
 have hW6:WkM w6 wb mb (upe e r false) sp (m+1):=⟨(HM6.out.2.block _ (gL HZ.out.2.2.2.1.1).1 (fun h=>HH.out.2.2.2.1 h)).trans HZ.out.2.2.2.1.1,HM6.out.1⟩
 have hW7:=hW6.keep hE67 (fun h=>(hap wb (.inr (.inl h))).1 rfl) (fun h=>(hap mb (.inr (.inl h))).2 rfl)
 have hlt:=HH.out.2.1.lt
 have hW8:=hW7.keep hE8 (fun h=>by omega) (fun h=>by omega)
 have hC8:=hC7.aside hE8 fun k hk h=>by have:=HH.out.1.lt hk;omega
 refine bodyPost_ret (results_box rfl _ _ (w.heap.size+1) (.agg #[.pointer (some ⟨cb,0,none⟩),.int .i64 (r:Nat),.slice Ap q cp,.int .i64 0]) rfl (load_class (cell_of_row w8 _ 0 _ _ (0,0) hb8) (cell_of_row w8 _ 1 _ _ (0,0) hb8) (cell_of_row w8 _ 2 _ _ (0,0) hb8) (cell_of_row w8 _ 3 _ _ (0,0) hb8))) rfl ⟨_,k7,rfl,?_,hW8,hk7,hC8,?_⟩
 ·rw [hq] at ho7 ⊢
  exact own_mono (own_else ho7 hE8 fun g hg h=>by have h1:w6.heap.size≤g:=(ho7.lt g hg).1;omega) (by show w.heap.size≤w6.heap.size;omega)
 ·exact ((((Else.of_below (S:=fun k=>(A.S k∨k=mb)∨k=w.heap.size+1) HZ.out.2.2.1).trans (HM6.out.2.mono fun k hk=>.inl (.inr hk))).trans (hE67.mono fun k hk=>.inl (.inl hk))).trans (hE8.mono fun k hk=>.inr hk)).old fun k hk=>hk.imp id fun h=>by omega
end CyAs
end
section
open Go.RowKit
open Un (Else StM rowI UFo own_else dg swp wp_world paint)
attribute [local go_sem] Oper.semAt_some
attribute [local go_sem ↓] builtin_app
set_option maxRecDepth 100000
abbrev Fr:=Nat×Nat×Sl
def frC (cb:Nat) (x:Fr):List Value:=[.pointer (some ⟨cb,0,none⟩),.int .i64 (x.1:Nat),slv x.2.2,.int .i64 (x.2.1:Nat)]
def frs (cb:Nat) (S:List Fr):List Value:=S.flatMap (frC cb)
theorem frs_app (cb:Nat) (S:List Fr) (x:Fr):frs cb (S ++ [x])=frs cb S++frC cb x:=by simp [frs]
theorem frs_len (cb:Nat) (S:List Fr):(frs cb S).length=S.length*4:=by
 induction S with
 | nil=>rfl
 | cons x S ih=>
  have e:frs cb (x :: S)=frC cb x++frs cb S:=by simp [frs]
  rw [e,List.length_append,ih,List.length_cons]
  show 4+S.length*4=(S.length+1)*4
  omega
theorem frs_last (cb:Nat) (S:List Fr) (x:Fr) (j:Nat) (hj:j<4):(frs cb (S ++ [x]))[S.length*4+j]? = (frC cb x)[j]?:=by
 rw [frs_app,List.getElem?_append_right (by rw [frs_len];omega),frs_len]
 congr 1
 omega
theorem frs_step (cb:Nat) (S:List Fr) (r k:Nat) (P:Sl):(frs cb (S ++ [(r,k,P)])).set (S.length*4+3) (.int .i64 ((k+1:Nat):Int))=frs cb (S ++ [(r,k+1,P)]):=by
 rw [frs_app,frs_app,List.set_append_right _ _ (by rw [frs_len];omega),frs_len]
 congr 1
 rw [show S.length*4+3-S.length*4=3 by omega]
 rfl
theorem frInfo:(Tryz.prog.info? 184).map (fun i=>(i.zero,i.size,i.bytes))=some (some (.agg #[.pointer none,.int .i64 0,.slice none 0 0,.int .i64 0]),4,48):=by kernel_rfl
theorem app_fr (W:World) (v:Value) (cb:Nat) (T:List Fr) (base:Nat) (hb:base≤W.heap.size) (hown:W.ownsRow base 184 4 v T.length (frs cb T)) (x:Fr) (hm:T.length≤1000000):
  ∃g cp w1,(app_ #[222,222] 222 #[v,.slice (some ⟨W.heap.size,0,none⟩) 1 1]).run Tryz.prog (W.alloc (.cells #[.pointer (some ⟨cb,0,none⟩),.int .i64 (x.1:Nat),slv x.2.2,.int .i64 (x.2.1:Nat)] 184)) = .ok (.slice (some ⟨g,0,none⟩) (T.length+1) cp) w1∧
   w1.ownsRow base 184 4 (.slice (some ⟨g,0,none⟩) (T.length+1) cp) (T ++ [x]).length (frs cb (T ++ [x]))∧(W.alloc (.cells #[.pointer (some ⟨cb,0,none⟩),.int .i64 (x.1:Nat),slv x.2.2,.int .i64 (x.2.1:Nat)] 184)).grownBy w1 v.ownBlock∧(v.ownBlock=some g∨g=W.heap.size+1):=by
 obtain ⟨r,k,P1,P2,P3⟩:=x
 obtain ⟨i0,hi0,hz0,hz1,hz2⟩:=Un.info_parts frInfo
 have rd1:Rd (W.alloc (.cells #[.pointer (some ⟨cb,0,none⟩),.int .i64 (r:Nat),.slice P1 P2 P3,.int .i64 (k:Nat)] 184)) 4 (.slice (some ⟨W.heap.size,0,none⟩) 1 1) 1 [.pointer (some ⟨cb,0,none⟩),.int .i64 (r:Nat),.slice P1 P2 P3,.int .i64 (k:Nat)]:=rd_new W [.pointer (some ⟨cb,0,none⟩),.int .i64 (r:Nat),.slice P1 P2 P3,.int .i64 (k:Nat)] 184 4 1 rfl (by unfold maxLen;omega)
 obtain ⟨v',w1,hrun,hown1,hg1,hat⟩:=run_append_rd (P:=Tryz.prog) _ base 222 222 184 i0 _ 4 48 Tryz.underlying222 hi0 hz0 hz1 hz2 rfl (by omega) v T.length (frs cb T) (hown.alloc _) _ 1 _ rd1 (by simp [Value.oneCell']) (by unfold maxLen;omega) (by omega) (by simp;omega)
 obtain ⟨g,cp,rfl,_,_⟩:=Un.own_shape hown1 (by omega)
 refine ⟨g,cp,w1,hrun,?_,hg1,?_⟩
 ·rw [frs_app,List.length_append];exact hown1
 rcases hat with e|e
 ·exact .inl e.symm
 ·right
  have e:some g=some (W.heap.size+1):=by rw [←World.size_alloc W (.cells #[.pointer (some ⟨cb,0,none⟩),.int .i64 (r:Nat),.slice P1 P2 P3,.int .i64 (k:Nat)] 184)];exact e
  injection e
theorem pop_fr {w:World}{base g c cb:Nat}{T:List Fr}{x:Fr}(h:w.ownsRow base 184 4 (.slice (some ⟨g,0,none⟩) (T ++ [x]).length c) (T ++ [x]).length (frs cb (T ++ [x]))):w.ownsRow base 184 4 (.slice (some ⟨g,0,none⟩) T.length c) T.length (frs cb T):=by
 rw [frs_app] at h
 exact own_cut h T.length (by simp) (frs_len cb T)
end
section
open Go.RowKit
theorem eval_put_ne {a:Act}{d t:Nat}(v:Value) (h:d≠t):(a.put (some d) v).eval (.tmp t)=a.eval (.tmp t):=by
 simp only [Act.put,Act.eval,Array.getD_eq_getD_getElem?]
 rw [Array.getElem?_setIfInBounds_ne h]
theorem eval_put_same {a:Act}{d:Nat}(v:Value) (h:d<a.tmps.size):(a.put (some d) v).eval (.tmp d)=v:=by
 simp [Act.put,Act.eval,h]
theorem put_comm (a:Act) {d d':Nat}(h:d≠d') (v v':Value):(a.put (some d) v).put (some d') v'=(a.put (some d') v').put (some d) v:=by
 simp only [Act.put]
 rw [Array.setIfInBounds_comm _ _ h]
theorem put_size (a:Act) (d:Option Tmp) (v:Value):(a.put d v).tmps.size=a.tmps.size:=by
 cases d<;>simp [Act.put]
theorem wanted_none {o:Oper}(h:o.guard=none) (y:Nat→Option Bool):Region.wanted o y=true:=by simp [Region.wanted,h]
section
variable {P:Program}{ops:Array Oper}{Q:Exit→Act→World→Prop}{md:Region.Mode}
theorem exec_append {o:Oper}{a:Act}{s x:Operand}{t:TypeId}{vs vx v':Value}{w w':World}(ho:o.op = .call { callee:=.builtin .append,args:=#[s,x],argTypes:=#[t,t] }) (hs:a.eval s=vs) (hx:a.eval x=vx)
  (hrun:(Builtin.append_ #[t,t] o.type #[vs,vx]).run P w = .ok v' w'):(execOp a.eval o).run P w = .ok (.value v') w':=by
 unfold execOp
 simp only [ho,resolve,invoke,builtin,Sem.run_bind,Sem.run_pure,Result.andThen_ok,List.map_toArray,List.map_cons,List.map_nil,hs,hx,hrun]
theorem any_copy {W0:World}{i0 i1 i2 i3:Nat}{o0 o1 o2 o3:Oper}{d0 d1 d2 d3 ts:Nat}{fuel:Nat}{listed:Array Bool}{a:Act}{w:World}{t e:TypeId}{ti:TypeInfo}{z:Value}{size bytes:Nat}
  (g0:ops[i0]? = some o0) (g1:ops[i1]? = some o1) (g2:ops[i2]? = some o2) (g3:ops[i3]? = some o3)
  (e0:o0.dst=some d0) (e1:o1.dst=some d1) (e2:o2.dst=some d2) (e3:o3.dst=some d3)
  (n0:o0.guard=none) (n1:o1.guard=none) (n2:o2.guard=none) (n3:o3.guard=none)
  (ne:i0≠i1∧i0≠i2∧i1≠i2) (de:d0≠d1∧d0≠d2∧d1≠d2∧d0≠ts∧d1≠ts∧d2≠ts) (hsz:d0<a.tmps.size∧d1<a.tmps.size∧d2<a.tmps.size)
  (r0:Region.ready md ops listed=[i0,i2]) (r1:Region.ready md ops (listed.setIfInBounds i0 true)=[i1,i2]) (r2:Region.ready md ops (listed.setIfInBounds i2 true)=[i0])
  (r3:Region.ready md ops ((listed.setIfInBounds i0 true).setIfInBounds i1 true)=[i2]) (r4:Region.ready md ops ((listed.setIfInBounds i0 true).setIfInBounds i2 true)=[i1])
  (r5:Region.ready md ops (((listed.setIfInBounds i0 true).setIfInBounds i1 true).setIfInBounds i2 true)=[i3])
  (ht:P.underlying t=some (.slice e)) (hi:P.info? e=some ti) (hz:ti.zero=some z) (hs:ti.size=size) (hb:ti.bytes=bytes) (hzs:z.cells.size=size) (hpos:0<size)
  (x0:∀(ev:Operand→Value) (w:World),(execOp ev o0).run P w = .ok (.value (.slice (some ⟨w.heap.size,0,none⟩) 0 0)) (w.alloc (.cells #[] e)))
  (new:List Value) (hnew:new.length=1*size) (hno:∀u∈new,u.oneCell'=true)
  (x2:∀(a':Act),(∀q,q≠d0→q≠d1→a'.eval (.tmp q)=a.eval (.tmp q))→∀w:World,(execOp a'.eval o2).run P w = .ok (.value (.slice (some ⟨w.heap.size,0,none⟩) 1 1)) (w.alloc (.cells new.toArray e)))
  (x1:o1.op = .call { callee:=.builtin .append,args:=#[.tmp d0,.tmp ts],argTypes:=#[t,t] }) (y1:o1.type=t)
  (x3:o3.op = .call { callee:=.builtin .append,args:=#[.tmp d1,.tmp d2],argTypes:=#[t,t] }) (y3:o3.type=t)
  {vs:Value} {n:Nat} {xs:List Value} (hev:a.eval (.tmp ts)=vs) (hR:Rd w size vs n xs) (hxo:∀u∈xs,u.oneCell'=true) (hn:n+1≤maxLen) (hby:(n+1)*bytes≤140737488355328)
  (hS:LS W0 w)
  (hk:∀v0 v1 v2 v3 w',LS W0 w'→Below w.heap.size w w'→w'.ownsRow w.heap.size e size v3 (n+1) (xs++new)→
   wpAnyH P md ops Q (LS W0) fuel ((((listed.setIfInBounds i0 true).setIfInBounds i1 true).setIfInBounds i2 true).setIfInBounds i3 true) ((((a.put (some d0) v0).put (some d1) v1).put (some d2) v2).put (some d3) v3) w'):
  wpAnyH P md ops Q (LS W0) (fuel+4) listed a w:=by
 obtain ⟨ne1,ne2,ne3⟩:=ne
 obtain ⟨de1,de2,de3,de4,de5,de6⟩:=de
 obtain ⟨s0,s1,s2⟩:=hsz
 have hw0:=hS.size
 have lb:∀W,Below w.heap.size w W→LS W0 W:=fun W h=>Below.trans hS (h.mono hw0)
  -- the end: both rows stand
 have fin:∀(v0 v1 v2:Value) (W:World),Below w.heap.size w W→W.ownsRow w.heap.size e size v1 n xs→Rd W size v2 1 new→
   wpAnyH P md ops Q (LS W0) (fuel+1) (((listed.setIfInBounds i0 true).setIfInBounds i1 true).setIfInBounds i2 true) (((a.put (some d0) v0).put (some d1) v1).put (some d2) v2) W:=by
  intro v0 v1 v2 W hB hO hX
  obtain ⟨v3,w3,hr3,ho3,hg3,-⟩:=run_append_rd (P:=P) W w.heap.size t t e ti z size bytes ht hi hz hs hb hzs hpos v1 n xs hO v2 1 new hX hno hn hby hB.size
  have hb3:Below w.heap.size w w3:=hB.grown hg3 hB.size (fun b h=>(hO.lt b h).1)
  refine wpAnyH_all r5 (by simp) fun q hq=>?_
  obtain rfl:q=i3:=by simpa using hq
  refine ops_val g3 e3 (wanted_none n3 _) (exec_append x3 ?_ ?_ (by rw [y3];exact hr3)) (lb _ hb3) (hk v0 v1 v2 v3 w3 (lb _ hb3) hb3 ho3)
  ·rw [eval_put_ne _ (Ne.symm de3),eval_put_same _ (by rw [put_size];exact s1)]
  ·rw [eval_put_same _ (by rw [put_size,put_size];exact s2)]
 have copy:∀(W:World),Below w.heap.size w W→∀v0,W.ownsRow w.heap.size e size v0 0 []→∃v1 w1,(Builtin.append_ #[t,t] t #[v0,vs]).run P W = .ok v1 w1∧w1.ownsRow w.heap.size e size v1 n xs∧W.grownBy w1 v0.ownBlock∧Below w.heap.size w w1:=by
  intro W hB v0 hO
  obtain ⟨v1,w1,h1,h2,h3,-⟩:=run_append_rd (P:=P) W w.heap.size t t e ti z size bytes ht hi hz hs hb hzs hpos v0 0 [] hO vs n xs (hR.below hB) hxo (by omega) (by rw [Nat.zero_add];exact Nat.le_trans (Nat.mul_le_mul_right _ (Nat.le_succ n)) hby) hB.size
  rw [Nat.zero_add,List.nil_append] at h2
  exact ⟨v1,w1,h1,h2,h3,hB.grown h3 hB.size (fun b h=>(hO.lt b h).1)⟩
 have newR:∀W:World,Rd (W.alloc (.cells new.toArray e)) size (.slice (some ⟨W.heap.size,0,none⟩) 1 1) 1 new:=fun W=>rd_new W new e size 1 hnew (by unfold maxLen;omega)
 have al:∀(W:World) o,Below w.heap.size w W→Below w.heap.size w (W.alloc o):=fun W o h=>h.alloc h.size o
 refine wpAnyH_all r0 (by simp) fun q hq=>?_
 rcases (by simpa using hq:q=i0∨q=i2) with rfl|rfl
 ·have hO:=own_none_yet w w.heap.size (Nat.le_refl _) e size
  have hB1:=al w (.cells #[] e) (Below.refl _ _)
  refine ops_val g0 e0 (wanted_none n0 _) (x0 _ _) (lb _ hB1) ?_
  refine wpAnyH_all r1 (by simp) fun q hq=>?_
  rcases (by simpa using hq:q=i1∨q=i2) with rfl|rfl
  ·obtain ⟨v1,w1,h1,h2,h3,h4⟩:=copy _ hB1 _ hO
   refine ops_val g1 e1 (wanted_none n1 _) (exec_append x1 (eval_put_same _ s0) ((eval_put_ne _ de4).trans hev) (by rw [y1];exact h1)) (lb _ h4) ?_
   refine wpAnyH_all r3 (by simp) fun q hq=>?_
   obtain rfl:q=i2:=by simpa using hq
   refine ops_val g2 e2 (wanted_none n2 _) (x2 _ (fun q h0 h1=>by rw [eval_put_ne _ (Ne.symm h1),eval_put_ne _ (Ne.symm h0)]) _) (lb _ (al _ _ h4)) ?_
   exact fin _ _ _ _ (al _ _ h4) (h2.alloc _) (newR w1)
  ·refine ops_val g2 e2 (wanted_none n2 _) (x2 _ (fun q h0 h1=>by rw [eval_put_ne _ (Ne.symm h0)]) _) (lb _ (al _ _ hB1)) ?_
   obtain ⟨v1,w1,h1,h2,h3,h4⟩:=copy _ (al _ (.cells new.toArray e) hB1) _ (hO.alloc _)
   refine wpAnyH_all r4 (by simp) fun q hq=>?_
   obtain rfl:q=i1:=by simpa using hq
   refine ops_val g1 e1 (wanted_none n1 _) (exec_append x1 ((eval_put_ne _ (Ne.symm de2)).trans (eval_put_same _ s0)) ((eval_put_ne _ de6).trans ((eval_put_ne _ de4).trans hev)) (by rw [y1];exact h1)) (lb _ h4) ?_
   rw [Array.setIfInBounds_comm _ _ (Ne.symm ne3),put_comm _ (Ne.symm de3)]
   exact fin _ _ _ _ h4 h2 ((newR _).far (by simp) h3 (by simp [Value.ownBlock]))
 ·have hB1:=al w (.cells new.toArray e) (Below.refl _ _)
  refine ops_val g2 e2 (wanted_none n2 _) (x2 _ (fun q _ _=>rfl) _) (lb _ hB1) ?_
  refine wpAnyH_all r2 (by simp) fun q hq=>?_
  obtain rfl:q=i0:=by simpa using hq
  have hO:=own_none_yet (w.alloc (.cells new.toArray e)) w.heap.size (by simp) e size
  refine ops_val g0 e0 (wanted_none n0 _) (x0 _ _) (lb _ (al _ _ hB1)) ?_
  obtain ⟨v1,w1,h1,h2,h3,h4⟩:=copy _ (al _ (.cells #[] e) hB1) _ hO
  rw [Array.setIfInBounds_comm _ _ (Ne.symm ne2),put_comm _ (Ne.symm de2)]
  refine wpAnyH_all r4 (by simp) fun q hq=>?_
  obtain rfl:q=i1:=by simpa using hq
  refine ops_val g1 e1 (wanted_none n1 _) (exec_append x1 ((eval_put_ne _ (Ne.symm de2)).trans (eval_put_same _ s0)) ((eval_put_ne _ de6).trans ((eval_put_ne _ de4).trans hev)) (by rw [y1];exact h1)) (lb _ h4) ?_
  rw [Array.setIfInBounds_comm _ _ (Ne.symm ne3),put_comm _ (Ne.symm de3)]
  refine fin _ _ _ _ h4 h2 (((newR _).alloc _).far (by simp;omega) h3 ?_)
  simp [Value.ownBlock]
end
end
section
abbrev Rn:=Int×Int×Sl×Fo×List Nat
def rG (x:Rn):Gn:=(x.1,x.2.1,1+x.2.2.2.1.size,x.2.2.2.2)
def rnode (R:List Rn) (k n:Int) (u:Sl) (ps:Fo) (P:List Nat):List Rn×Nat:=
 match (if k=1 then gvar (R.map rG) n else none) with
 | some i=>(R,i)
 | none=>(R ++ [(k,n,u,ps,P)],R.length)
mutual
def radd1 (R:List Rn) (k n:Int) (u:Sl) (ps:Fo):List Rn×Nat:=let r:=radd R ps;rnode r.1 k n u ps r.2
def radd (R:List Rn):Fo→List Rn×List Nat
 | .nil=>(R,[])
 | .cons k n u ps r=>let x:=radd1 R k n u ps;let y:=radd x.1 r;(y.1,x.2 :: y.2)
end
theorem radd_nil (R:List Rn):radd R .nil=(R,[]):=by simp [radd]
theorem radd_cons (R:List Rn) (k n:Int) (u:Sl) (ps r:Fo):radd R (.cons k n u ps r)=((radd (radd1 R k n u ps).1 r).1,(radd1 R k n u ps).2 :: (radd (radd1 R k n u ps).1 r).2):=by simp [radd]
theorem radd1_eq (R:List Rn) (k n:Int) (u:Sl) (ps:Fo):radd1 R k n u ps=rnode (radd R ps).1 k n u ps (radd R ps).2:=by simp [radd1]
theorem rnode_G (R:List Rn) (k n:Int) (u:Sl) (ps:Fo) (P:List Nat) (hs:gsum (R.map rG) P=ps.size):(rnode R k n u ps P).1.map rG=(gnode (R.map rG) k n P).1∧(rnode R k n u ps P).2=(gnode (R.map rG) k n P).2:=by
 unfold rnode gnode
 cases (if k=1 then gvar (R.map rG) n else none) with
 | some i=>exact ⟨rfl,rfl⟩
 | none=>simp [rG,hs]
theorem radd_G (F:Fo):∀R,GI (R.map rG)→Vok F→(radd R F).1.map rG=(gadd (R.map rG) F).1∧(radd R F).2=(gadd (R.map rG) F).2:=by
 induction F with
 | nil=>intro R _ _;rw [radd_nil,gadd_nil];exact ⟨rfl,rfl⟩
 | cons k n u ps r i1 i2=>
  intro R hG hv
  obtain ⟨h1,h2,h3⟩:=hv
  obtain ⟨a1,a2⟩:=i1 R hG h2
  have g1:=gadd_ok ps (R.map rG) hG h2
  have hk:k=1→(gadd (R.map rG) ps).2=[]:=fun h=>by rw [h1 h,gadd_nil]
  have g2:=(gnode_ok (gadd (R.map rG) ps).1 k n (gadd (R.map rG) ps).2 g1.ok hk).2.1
  obtain ⟨b1,b2⟩:=rnode_G (radd R ps).1 k n u ps (radd R ps).2 (by rw [a1,a2];exact g1.sum)
  rw [a1,←radd1_eq,a2,←gadd1_eq] at b1 b2
  rw [←gadd1_eq] at g2
  obtain ⟨c1,c2⟩:=i2 (radd1 R k n u ps).1 (by rw [b1];exact g2) h3
  rw [radd_cons,gadd_cons,←b1,←b2]
  exact ⟨c1,by rw [c2]⟩
end
section
open Go.RowKit Go.Shelf
set_option maxRecDepth 100000
theorem radd_app (f g:Fo):∀R,radd R (f.app g)=((radd (radd R f).1 g).1,(radd R f).2++(radd (radd R f).1 g).2):=by
 induction f with
 | nil=>intro R;simp [Fo.app,radd_nil]
 | cons k n u ps r _ ih=>
  intro R
  simp only [Fo.app,radd_cons,ih]
  rfl
theorem radd_step (F:Fo) (j:Nat) (hj:j<F.len) (R:List Rn):radd R (F.take (j+1)) =
  ((radd1 (radd R (F.take j)).1 (F.at_ j).1 (F.at_ j).2.1 (F.at_ j).2.2.1 (F.at_ j).2.2.2).1,(radd R (F.take j)).2 ++ [(radd1 (radd R (F.take j)).1 (F.at_ j).1 (F.at_ j).2.1 (F.at_ j).2.2.1 (F.at_ j).2.2.2).2]):=by
 rw [F.take_step j hj,radd_app,radd_cons,radd_nil]
theorem rnode_len (R:List Rn) (k n:Int) (u:Sl) (ps:Fo) (P:List Nat):(rnode R k n u ps P).1.length≤R.length+1:=by
 unfold rnode
 split<;>simp
theorem radd_len (F:Fo):∀R,(radd R F).1.length≤R.length+F.size∧(radd R F).2.length=F.len:=by
 induction F with
 | nil=>intro R;simp [radd_nil,Fo.size,Fo.len]
 | cons k n u ps r i1 i2=>
  intro R
  have h1:=i1 R
  have h3:=rnode_len (radd R ps).1 k n u ps (radd R ps).2
  rw [←radd1_eq] at h3
  have h2:=i2 (radd1 R k n u ps).1
  rw [radd_cons]
  simp only [List.length_cons,Fo.size,Fo.len]
  omega
abbrev Rm:=Rn×Sl
def rmC (x:Rm):List Value:=[.int .i64 x.1.1,.int .i64 x.1.2.1,slv x.1.2.2.1,slv x.2]
theorem rmC_at (M:List Rm) (i:Nat) (hi:i<M.length):(M.flatMap rmC)[i*4]? = some (.int .i64 M[i].1.1)∧(M.flatMap rmC)[i*4+1]? = some (.int .i64 M[i].1.2.1)∧(M.flatMap rmC)[i*4+2]? = some (slv M[i].1.2.2.1)∧(M.flatMap rmC)[i*4+3]? = some (slv M[i].2):=by
 induction M generalizing i with
 | nil=>simp at hi
 | cons x M ih=>
  cases i with
  | zero=>simp [rmC]
  | succ i=>
   have:=ih i (by simpa using hi)
   have e:∀j,((x :: M).flatMap rmC)[(i+1)*4+j]? = (M.flatMap rmC)[i*4+j]?:=fun j=>by
    rw [List.flatMap_cons,List.getElem?_append_right (by simp [rmC];omega)]
    congr 1
    simp [rmC];omega
   have e0:=e 0
   simp only [Nat.add_zero] at e0
   rw [e0,e 1,e 2,e 3]
   exact this
theorem rmC_one (M:List Rm):∀u∈M.flatMap rmC,u.oneCell'=true:=by
 intro u hu
 obtain ⟨x,_,hx⟩:=List.mem_flatMap.1 hu
 simp only [rmC,List.mem_cons,List.not_mem_nil,or_false] at hx
 rcases hx with rfl|rfl|rfl|rfl<;>rfl
def RdD (D:Nat→Prop) (w:World) (size:Nat) (v:Value) (n:Nat) (xs:List Value):Prop:=
 Rd w size v n xs∧(0<n→∀b off cap,v = .slice (some ⟨b,off,none⟩) n cap→D b)
theorem RdD.to {D:Nat→Prop}{w w':World}{size:Nat}{v:Value}{n:Nat}{xs:List Value}(h:RdD D w size v n xs) (hs:w.heap.size≤w'.heap.size) (hk:∀b,D b→b<w.heap.size→w'.heap[b]? = w.heap[b]?):RdD D w' size v n xs:=by
 refine ⟨⟨h.1.1,?_⟩,h.2⟩
 rcases Nat.eq_zero_or_pos n with h0|h0
 ·rcases h.1.2 with h1|⟨b,off,cap,hv,hnc,hcm,hb,hc⟩
  ·exact .inl h1
  ·subst h0
   exact .inl ⟨rfl,_,_,hv⟩
 ·rcases h.1.2 with ⟨h1,_⟩|⟨b,off,cap,hv,hnc,hcm,hb,hc⟩
  ·omega
  ·exact .inr ⟨b,off,cap,hv,hnc,hcm,by omega,fun j u hu=>(World.cell?_of_block (hk b (h.2 h0 b off cap hv) hb)).trans (hc j u hu)⟩
theorem RdD.imp {D D':Nat→Prop}{w:World}{size:Nat}{v:Value}{n:Nat}{xs:List Value}(h:RdD D w size v n xs) (hD:∀b,b<w.heap.size→D b→D' b):RdD D' w size v n xs:=
 ⟨h.1,fun h0 b off cap hv=>by
  rcases h.1.2 with ⟨h1,_⟩|⟨b',off',cap',hv',_,_,hb,_⟩
  ·omega
  ·rw [hv'] at hv
   injection hv with hv
   injection hv with hv
   injection hv with hv
   subst hv
   exact hD _ hb (h.2 h0 b' off' cap' hv')⟩
theorem RdD.of_own {D:Nat→Prop}{w:World}{base:Nat}{e:TypeId}{size:Nat}{v:Value}{n:Nat}{xs:List Value}(h:w.ownsRow base e size v n xs) (hD:∀b,base≤b→D b):RdD D w size v n xs:=
 ⟨Rd.of_own h,fun _ b off cap hv=>hD b (h.lt b (by rw [hv];rfl)).1⟩
structure RgM (D:Nat→Prop) (BT:Nat) (w:World) (v:Value) (M:List Rm):Prop where
 row:RdD D w 4 v M.length (M.flatMap rmC)
 nodes:∀x∈M,TyV BT w x.1.2.2.2.1 (slv x.1.2.2.1)∧RdD D w 1 (slv x.2) x.1.2.2.2.2.length (nums x.1.2.2.2.2)
theorem RgM.to {D:Nat→Prop}{BT:Nat}{w w':World}{v:Value}{M:List Rm}(h:RgM D BT w v M) (hB:Below BT w w') (hs:w.heap.size≤w'.heap.size) (hk:∀b,D b→b<w.heap.size→w'.heap[b]? = w.heap[b]?):RgM D BT w' v M:=
 ⟨h.row.to hs hk,fun x hx=>⟨(h.nodes x hx).1.below hB,(h.nodes x hx).2.to hs hk⟩⟩
theorem RgM.below {D:Nat→Prop}{BT:Nat}{w w':World}{v:Value}{M:List Rm}(h:RgM D BT w v M) (hT:BT≤w.heap.size) (hb:Below w.heap.size w w'):RgM D BT w' v M:=
 h.to (hb.mono hT) hb.size fun b _ hlt=>hb.block b hlt
theorem RgM.imp {D D':Nat→Prop}{BT:Nat}{w:World}{v:Value}{M:List Rm}(h:RgM D BT w v M) (hD:∀b,b<w.heap.size→D b→D' b):RgM D' BT w v M:=
 ⟨h.row.imp hD,fun x hx=>⟨(h.nodes x hx).1,(h.nodes x hx).2.imp hD⟩⟩
def ivar (G:List Gn) (n:Int):Int:=match gvar G n with
 | some i=>i
 | none=>-1
abbrev gM (M:List Rm):List Gn:=M.map fun x=>rG x.1
theorem gvar_drop (G:List Gn) (n:Int) (j:Nat) (hj:j<G.length) (h:gvar G n=(gvar (G.drop j) n).map (· + j)) (hx:¬ (G[j].1=1∧G[j].2.1=n)):gvar G n=(gvar (G.drop (j+1)) n).map (· + (j+1)):=by
 rw [h,List.drop_eq_getElem_cons hj,gvar,if_neg hx]
 cases gvar (G.drop (j+1)) n with
 | none=>rfl
 | some i=>simp only [Option.map_some];congr 1;omega
theorem ivar_here (G:List Gn) (n:Int) (j:Nat) (hj:j<G.length) (h:gvar G n=(gvar (G.drop j) n).map (· + j)) (hx:G[j].1=1∧G[j].2.1=n):ivar G n=j:=by
 rw [ivar,h,List.drop_eq_getElem_cons hj,gvar,if_pos hx]
 simp
theorem ivar_none (G:List Gn) (n:Int) (h:gvar G n=(gvar (G.drop G.length) n).map (· + G.length)):ivar G n = -1:=by
 rw [ivar,h,List.drop_length]
 rfl
set_option maxHeartbeats 1000000 in
theorem rvar_graph (w:World) (v:Value) (M:List Rm) (hM:Rd w 4 v M.length (M.flatMap rmC)) (hl:M.length≤1000000) (n:Int):
  Calls Tryz.prog 98 #[v,.int .i64 n] w fun e w'=>e = .returned (.int .i64 (ivar (gM M) n))∧Below w.heap.size w w':=by
 obtain ⟨A,c,rfl⟩:=hM.form
 obtain ⟨q,hq⟩:∃q,M.length=q:=⟨_,rfl⟩
 rw [hq] at hl ⊢
 have hgl:(gM M).length=q:=by simp [gM,hq]
 have HM:=kI hM
 have HQ:=kI (aI hq hgl)
 obtain ⟨z,hz⟩:∃z,ivar (gM M) n=z:=⟨_,rfl⟩
 rw [hz]
 have HZ:=kI hz
 clear hM hq hz hgl
 go_enter Tryz.func98,Tryz.ntmps98
 go_wp2_with fail
 go_loopw [5] (fun t wr=>∃j:Nat,j≤q∧t = .int .i64 j∧gvar (gM M) n=(gvar ((gM M).drop j) n).map (· + j)∧Below w.heap.size w wr) (fun t _=>q-(intOf t).toNat)
 case atStart=>exact ⟨0,Nat.zero_le _,rfl,by simp,Below.refl _ _⟩
 case round=>
  obtain ⟨j,hj,rfl,hja,hb⟩:=hrel
  have HBW:=kI hb
  have HJA:=kI hja
  clear hja hb
  by_cases hjl:j<q
  ·have hjM:j<M.length:=by rw [HQ.out.1];exact hjl
   have hjG:j<(gM M).length:=by rw [HQ.out.2];exact hjl
   obtain ⟨b1,o1,cap1,hv1,_,_,hlt1,hc1⟩:=HM.out.2.resolve_left (by rintro ⟨h,_⟩;omega)
   injection hv1 with hA1 _ hcc1
   subst hA1;subst hcc1
   obtain ⟨p0,p1,-,-⟩:=rmC_at M j hjM
   have hgj:(gM M)[j]=rG M[j].1:=by simp [gM]
   obtain ⟨x,hx⟩:∃x,M[j].1.1=x:=⟨_,rfl⟩
   obtain ⟨y,hy⟩:∃y,M[j].1.2.1=y:=⟨_,rfl⟩
   rw [hx] at p0
   rw [hy] at p1
   have c0:wr.cell? ⟨b1,o1+j*4,none⟩=some (.int .i64 x):=(HBW.out.cell (p:=⟨b1,o1+j*4,none⟩) hlt1).trans (hc1 _ _ p0)
   have c1:wr.cell? ⟨b1,o1+j*4+1,none⟩=some (.int .i64 y):=(HBW.out.cell (p:=⟨b1,o1+j*4+1,none⟩) hlt1).trans (hc1 (j*4+1) _ p1)
   have hG1:(gM M)[j].1=x:=by rw [hgj];exact hx
   have hG2:(gM M)[j].2.1=y:=by rw [hgj];exact hy
   by_cases hxy:x=1∧y=n
   ·have HI:=kI (ivar_here (gM M) n j hjG HJA.out (by rw [hG1,hG2];exact hxy))
    obtain ⟨rfl,rfl⟩:=hxy
    clear hx hy hc1 hgj p0 p1 hG1 hG2 hjM hjG
    go_wp2_with fail
    go_ret
    refine ⟨?_,HBW.out⟩
    rw [←HZ.out,HI.out]
    rfl
   ·have HI:=kI (gvar_drop (gM M) n j hjG HJA.out (by rw [hG1,hG2];exact hxy))
    have f1:(x == 1 && y == n)=false:=by simpa using hxy
    clear hx hy hc1 hgj p0 p1 hG1 hG2 hjM hjG
    by_cases hx1:x=1
    ·subst hx1
     have f2:(y == n)=false:=by simpa using hxy
     clear f1 hxy
     go_wp2_with fail
     go_roundw
     case rel=>exact ⟨j+1,by omega,by go_num,HI.out,HBW.out⟩
     case measure=>simp [intOf];omega
    ·have f2:(x == 1)=false:=by simpa using hx1
     clear f1 hxy
     go_wp2_with fail
     go_roundw
     case rel=>exact ⟨j+1,by omega,by go_num,HI.out,HBW.out⟩
     case measure=>simp [intOf];omega
  ·obtain rfl:j=q:=by omega
   have HI:=kI (ivar_none (gM M) n (by rw [HQ.out.2];exact HJA.out))
   go_wp2_with fail
   go_ret
   exact ⟨by rw [←HZ.out,HI.out];rfl,HBW.out⟩
end
section
open Go.RowKit Go.Shelf
attribute [local go_sem ↓] builtin_app
set_option maxRecDepth 100000
theorem nodeInfo:(Tryz.prog.info? 108).map (fun i=>(i.zero,i.size,i.bytes))=some (some (.agg #[.int .i64 0,.int .i64 0,.slice none 0 0,.slice none 0 0]),4,64):=by kernel_rfl
theorem app_part (W:World) (base:Nat) (v:Value) (P:List Nat) (own:W.ownsRow base 3 1 v P.length (nums P)) (hl:P.length≤10000000) (hbase:base≤W.heap.size) (i:Nat):
  ∃(v':Value) (W':World),(app_ #[41,41] 41 #[v,.slice (some ⟨W.heap.size,0,none⟩) 1 1]).run Tryz.prog (W.alloc (.cells #[.int .i64 (i:Nat)] 3)) = .ok v' W'∧W'.ownsRow base 3 1 v' (P ++ [i]).length (nums (P ++ [i]))∧(W.alloc (.cells #[.int .i64 (i:Nat)] 3)).grownBy W' v.ownBlock∧(v'.ownBlock=v.ownBlock∨v'.ownBlock=some (W.heap.size+1)):=by
 have h1:(W.alloc (.cells #[.int .i64 (i:Nat)] 3)).ownsRow base 3 1 v (toI P).length (ints (toI P)):=by rw [toI_len];exact own.alloc _
 obtain ⟨v',W',hr,ho,hb,-,hg,ha⟩:=app_int _ base v (toI P) h1 (.slice (some ⟨W.heap.size,0,none⟩) 1 1) [(i:Int)] (rd_new W [.int .i64 i] _ 1 1 rfl (by unfold maxLen;omega)) (by rw [toI_len];simp;omega) (by simp;omega)
 refine ⟨v',W',hr,?_,hg,by rw [World.size_alloc] at ha;exact ha⟩
 have e:toI P ++ [(i:Int)]=toI (P ++ [i]):=by simp [toI]
 rw [e,toI_len] at ho
 exact ho
theorem rnode_else (R:List Rn) (k n:Int) (u:Sl) (ps:Fo) (P:List Nat) (h:k=1→gvar (R.map rG) n=none):rnode R k n u ps P=(R ++ [(k,n,u,ps,P)],R.length):=by
 unfold rnode
 by_cases hk:k=1
 ·rw [if_pos hk,h hk]
 ·rw [if_neg hk]
theorem RgM.snoc {D:Nat→Prop}{BT:Nat}{w:World}{v:Value}{M:List Rm}{x:Rm}(h:RgM D BT w v M) (hx:TyV BT w x.1.2.2.2.1 (slv x.1.2.2.1)∧RdD D w 1 (slv x.2) x.1.2.2.2.2.length (nums x.1.2.2.2.2)) {v':Value}(hr:RdD D w 4 v' (M.length+1) (M.flatMap rmC++rmC x)):RgM D BT w v' (M ++ [x]):=
 ⟨by rw [List.length_append,List.flatMap_append];simpa using hr,fun y hy=>by
  rcases List.mem_append.1 hy with hy|hy
  ·exact h.nodes y hy
  ·obtain rfl:y=x:=by simpa using hy
   exact hx⟩
theorem ivar_neg {G:List Gn}{n:Int}(h:ivar G n<0):gvar G n=none:=by
 unfold ivar at h
 split at h
 ·omega
 ·assumption
theorem ivar_nonneg {G:List Gn}{n:Int}(h:0≤ivar G n):∃i,gvar G n=some i∧ivar G n=i:=by
 unfold ivar at h ⊢
 split at h
 ·rename_i i hi
  exact ⟨i,hi,rfl⟩
 ·omega
abbrev M1 (M:List Rm):List Rn:=M.map (·.1)
theorem gM_eq (M:List Rm):gM M=(M1 M).map rG:=by simp [gM,M1]
abbrev AddsTo (D:Nat→Prop) (BT:Nat) (w:World) (M:List Rm) (k n:Int) (u:Sl) (F:Fo):Ending→World→Prop:=fun e w'=>
 ∃(v':Value) (M':List Rm),e = .returned (.tuple #[v',.int .i64 ((radd1 (M1 M) k n u F).2:Nat)])∧M1 M'=(radd1 (M1 M) k n u F).1∧RgM D BT w' v' M'∧Below w.heap.size w w'
def RaI (D:Nat→Prop) (BT:Nat) (wx:World) (M:List Rm) (k n:Int) (u:Sl) (F:Fo) (j:Nat) (v0:Value) (wr:World):Prop:=
 ∃(Mj:List Rm) (vq:Value),RgM (fun b=>D b∧b≠wx.heap.size∧vq.ownBlock≠some b) BT wr v0 Mj∧M1 Mj=(radd (M1 M) (F.take j)).1∧wr.heap[wx.heap.size]? = some (Obj.cells #[.int .i64 k,.int .i64 n,slv u,vq] 108)∧
  wr.ownsRow (wx.heap.size+1) 3 1 vq (radd (M1 M) (F.take j)).2.length (nums (radd (M1 M) (F.take j)).2)∧Below wx.heap.size wx wr∧wx.heap.size+1≤wr.heap.size
theorem RaI.start {D:Nat→Prop}{BT:Nat}{wx:World}{M:List Rm}{k n:Int}{u:Sl}{F:Fo}{v0:Value}(h:RgM D BT wx v0 M) (hT:BT≤wx.heap.size):RaI D BT wx M k n u F 0 v0 (wx.alloc (.cells #[.int .i64 k,.int .i64 n,slv u,.slice none 0 0] 108)):=by
 have hb1:Below wx.heap.size wx (wx.alloc (.cells #[.int .i64 k,.int .i64 n,slv u,.slice none 0 0] 108)):=(Below.refl _ _).alloc (Nat.le_refl _) _
 refine ⟨M,.slice none 0 0,?_,by rw [Fo.take_zero,radd_nil],heap_alloc_new _ _,by rw [Fo.take_zero,radd_nil];exact World.ownsRow_nil _ _ _ _,hb1,by simp⟩
 exact (h.imp fun b hb hD=>(⟨hD,by omega,by intro e;cases e⟩:D b∧b≠wx.heap.size∧(Value.slice none 0 0).ownBlock≠some b)).below hT hb1
theorem RaI.step {D:Nat→Prop}{BT:Nat}{wx:World}{M:List Rm}{k n:Int}{u:Sl}{F:Fo}{j:Nat}(hj:j<F.len) (hl:M.length+F.size≤100000) (hT:BT≤wx.heap.size)
  {Mj M5:List Rm} {vq v5:Value} {wr w5:World} (hM5:RgM (fun b=>D b∧b≠wx.heap.size∧vq.ownBlock≠some b) BT w5 v5 M5)
  (hMj:M1 Mj=(radd (M1 M) (F.take j)).1) (hbox:wr.heap[wx.heap.size]? = some (Obj.cells #[.int .i64 k,.int .i64 n,slv u,vq] 108))
  (hq:wr.ownsRow (wx.heap.size+1) 3 1 vq (radd (M1 M) (F.take j)).2.length (nums (radd (M1 M) (F.take j)).2)) (hb:Below wx.heap.size wx wr) (hsz:wx.heap.size+1≤wr.heap.size)
  (hM:M1 M5=(radd1 (M1 Mj) (F.at_ j).1 (F.at_ j).2.1 (F.at_ j).2.2.1 (F.at_ j).2.2.2).1) (hb5:Below wr.heap.size wr w5) (i:Nat) (hi:i=(radd1 (M1 Mj) (F.at_ j).1 (F.at_ j).2.1 (F.at_ j).2.2.1 (F.at_ j).2.2.2).2):
  ∃(A6:Option Addr) (n6 c6:Nat) (w6:World),(app_ #[41,41] 41 #[vq,.slice (some ⟨w5.heap.size,0,none⟩) 1 1]).run Tryz.prog (w5.alloc (.cells #[.int .i64 (i:Nat)] 3)) = .ok (.slice A6 n6 c6) w6∧w5.cell? ⟨wx.heap.size,3,none⟩=some vq∧w6.cell? ⟨wx.heap.size,3,none⟩=some vq∧w6.frozen? ⟨wx.heap.size,3,none⟩=false∧
   RaI D BT wx M k n u F (j+1) v5 (w6.setCell ⟨wx.heap.size,3,none⟩ (.slice A6 n6 c6)):=by
 have hP:(radd (M1 M) (F.take j)).2.length≤100000:=by rw [(radd_len _ _).2];have:=(F.take j).len_le_size;have:=F.size_take_le j;omega
 have q5:=own_below hq hb5
 obtain ⟨v6,w6,hr,ho,hg,hat⟩:=app_part w5 (wx.heap.size+1) vq _ q5 (by omega) (Nat.le_trans hsz hb5.size) i
 have hs5:=hb5.size
 have hs6:=hg.size
 simp only [World.size_alloc] at hs6
 have hown:∀b,vq.ownBlock=some b→wx.heap.size+1≤b∧b<wr.heap.size:=fun b h=>hq.lt b h
 obtain ⟨P6,hP6⟩:∃P6,(radd (M1 M) (F.take j)).2 ++ [i]=P6:=⟨_,rfl⟩
 rw [hP6] at ho
 obtain ⟨A6,c6,rfl,-,-⟩:=own_form ho
 obtain ⟨v6,hv6⟩:∃v6,Value.slice A6 P6.length c6=v6:=⟨_,rfl⟩
 have hk:∀b,b<w5.heap.size→vq.ownBlock≠some b→w6.heap[b]? = w5.heap[b]?:=fun b hb h=>(hg.block b (by simp;omega) (fun e=>h e.symm)).trans (Below.heap_alloc _ _ _ hb)
 have hn:vq.ownBlock≠some wx.heap.size:=fun e=>by have:=(hown _ e).1;omega
 have b5:w5.heap[wx.heap.size]? = some (Obj.cells #[.int .i64 k,.int .i64 n,slv u,vq] 108):=(hb5.block _ (by omega)).trans hbox
 have b6:w6.heap[wx.heap.size]? = some (Obj.cells #[.int .i64 k,.int .i64 n,slv u,vq] 108):=(hk _ (by omega) hn).trans b5
 have hst:=radd_step F j hj (M1 M)
 rw [←hMj,←hi,←hM] at hst
 have hst2:(radd (M1 M) (F.take (j+1))).2=P6:=by rw [hst];exact hP6
 have hb15:=hb.trans (hb5.mono (by omega))
 refine ⟨A6,_,c6,w6,hr,cell_of_row w5 _ 3 _ _ (0,0) b5,cell_of_row w6 _ 3 _ _ (0,0) b6,frozen_cells b6 3,?_⟩
 rw [hv6] at ho hat ⊢
 have hset:∀b,b≠wx.heap.size→(w6.setCell ⟨wx.heap.size,3,none⟩ v6).heap[b]? = w6.heap[b]?:=fun b hb=>Below.heap_setCell _ _ _ _ hb
 have hss:(w6.setCell ⟨wx.heap.size,3,none⟩ v6).heap.size=w6.heap.size:=by simp [World.setCell]
 have hB:Below wx.heap.size w5 (w6.setCell ⟨wx.heap.size,3,none⟩ v6):=⟨hg.os,hg.tape,hg.output,by rw [hss];omega,fun b hb=>(hset b (by omega)).trans (hk b (by omega) fun e=>by have:=(hown b e).1;omega)⟩
 have hne6:∀b,b<w5.heap.size→vq.ownBlock≠some b→v6.ownBlock≠some b:=fun b hb h e=>by
  rcases hat with h'|h'
  ·rw [h'] at e;exact h e
  ·rw [h'] at e;injection e with e;omega
 refine ⟨M5,v6,?_,by rw [hst],heap_setCell_same w6 wx.heap.size 3 _ _ _ b6,?_,hb15.trans hB,by rw [hss];omega⟩
 ·exact (hM5.imp fun b hlt hD=>(⟨⟨hD.1,hD.2.1,hD.2.2⟩,hlt⟩:(D b∧b≠wx.heap.size∧vq.ownBlock≠some b)∧b<w5.heap.size)).to (hB.mono hT) (by rw [hss];omega) (fun b hD hlt=>(hset b hD.1.2.1).trans (hk b hlt hD.1.2.2)) |>.imp fun b _ hD=>⟨hD.1.1,hD.1.2.1,hne6 b hD.2 hD.1.2.2⟩
 ·rw [hst2]
  refine ⟨ho.1,?_⟩
  rcases ho.2 with h|⟨b,cap,cur,hv,hb,hh,hr⟩
  ·exact .inl h
  ·exact .inr ⟨b,cap,cur,hv,hb,(hset b (by omega)).trans hh,hr⟩
end
end Go.Proofs.YtmamdiggjghjkaaGreatDoor
