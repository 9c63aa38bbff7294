/- Texts of one proof, one behind the other. -/
import Derived.Test.YtmamdiggjghjkaaGreatDoorMgSolveOrder1
import Derived.Test.YtmamdiggjghjkaaGreatDoorMgSolveOrder12d
import Derived.Test.YtmamdiggjghjkaaGreatDoorMgSolveOrder8
set_option linter.unusedVariables false
namespace Go.Proofs.YtmamdiggjghjkaaGreatDoor.Un
open Go.RowKit
attribute [local go_sem] Oper.semAt_some
def app_ (ats:Array Go.TypeId) (ty:Go.TypeId) (args:Array Value):Sem Value:=Builtin.append_ ats ty args
theorem builtin_app (b:Builtin) (ats:Array Go.TypeId) (ty:Go.TypeId) (cs:Array Bool) (args:Array Value) (hb:b = .append):builtin b ats ty cs args=(do pure (.value (←app_ ats ty args))):=by subst hb;rfl
attribute [local go_sem ↓] builtin_app
theorem intInfo:(Tryz.prog.info? 3).map (fun i=>(i.zero,i.size,i.bytes))=some (some (.int .i64 0),1,8):=by kernel_rfl
theorem info_parts {o:Option TypeInfo}{z:Option Value}{a b:Nat}(h:o.map (fun i=>(i.zero,i.size,i.bytes))=some (z,a,b)):∃i,o=some i∧i.zero=z∧i.size=a∧i.bytes=b:=by
 cases o with
 | none=>cases h
 | some i=>simp only [Option.map_some,Option.some.injEq,Prod.mk.injEq] at h;exact ⟨i,rfl,h.1,h.2.1,h.2.2⟩
theorem own_form {w:World}{base:Nat}{e:TypeId}{size:Nat}{v:Value}{n:Nat}{xs:List Value}(h:w.ownsRow base e size v n xs):∃A c,v = .slice A n c∧n≤c∧c≤maxLen:=by
 rcases h.2 with ⟨rfl,rfl⟩|⟨g,cap,cur,rfl,hb,hg,hnc,hcm,_⟩
 ·exact ⟨_,_,rfl,Nat.le_refl _,by unfold maxLen;omega⟩
 ·exact ⟨_,_,rfl,hnc,hcm⟩
theorem app_int (w:World) (v:Value) (n:Nat) (xs:List Value) (hown:w.ownsRow 0 3 1 v n xs) (x:Int) (hn:n≤10000000):
  ∃g cp w1,(app_ #[41,41] 41 #[v,.slice (some ⟨w.heap.size,0,none⟩) 1 1]).run Tryz.prog (w.alloc (.cells #[.int .i64 x] 3)) = .ok (.slice (some ⟨g,0,none⟩) (n+1) cp) w1∧
   w1.ownsRow 0 3 1 (.slice (some ⟨g,0,none⟩) (n+1) cp) (n+1) (xs ++ [.int .i64 x])∧(w.alloc (.cells #[.int .i64 x] 3)).grownBy w1 v.ownBlock∧(v.ownBlock=some g∨g=w.heap.size+1):=by
 obtain ⟨i0,hi0,hz0,hz1,hz2⟩:=info_parts intInfo
 have own1:=hown.alloc (.cells #[.int .i64 x] 3)
 have rd1:Rd (w.alloc (.cells #[.int .i64 x] 3)) 1 (.slice (some ⟨w.heap.size,0,none⟩) 1 1) 1 [.int .i64 x]:=rd_new w [.int .i64 x] 3 1 1 rfl (by unfold maxLen;omega)
 obtain ⟨v',w1,hrun,hown1,hg1,hat⟩:=run_append_rd (P:=Tryz.prog) _ 0 41 41 3 i0 _ 1 8 Tryz.underlying41 hi0 hz0 hz1 hz2 rfl (by omega) v _ _ own1 _ 1 _ rd1 (by simp [Value.oneCell']) (by unfold maxLen;omega) (by omega) (by omega)
 obtain ⟨g,cp,rfl,_,_⟩:=own_shape hown1 (by omega)
 refine ⟨g,cp,w1,hrun,hown1,hg1,?_⟩
 rcases hat with e|e
 ·exact .inl e.symm
 ·right
  have e:some g=some (w.heap.size+1):=by rw [←World.size_alloc w (.cells #[.int .i64 x] 3)];exact e
  injection e
theorem row_stays {w w1:World}{v u:Value}{n m:Nat}{xs ys:List Value}{o:Obj}{x:Value}{b off:Nat}(h:w.ownsRow 0 3 1 v n xs) (_hu:w.ownsRow 0 3 1 u m ys) (hg:(w.alloc o).grownBy w1 u.ownBlock) (hne:∀k,v.ownBlock=some k→u.ownBlock≠some k) (hb:v.ownBlock≠some b):(w1.setCell ⟨b,off,none⟩ x).ownsRow 0 3 1 v n xs:=by
 refine ownsRow_setCell_other ((h.alloc o).kept hg ?_) hb x
 cases e:v.ownBlock with
 | none=>exact .inl rfl
 | some k=>exact .inr (fun e2=>hne k e e2.symm)
structure FG (S:Nat→Prop) (w:World) (b:Nat) (A Z X:Value) (nA nZ nX:Nat) (LA LZ LX:List Value) (sets steps:Int):Prop where
 blk:w.heap[b]? = some (Obj.cells #[A,Z,X,.int .i64 sets,.int .i64 steps] 230)
 sb:S b
 ra:w.ownsRow 0 3 1 A nA LA
 rz:w.ownsRow 0 3 1 Z nZ LZ
 rx:w.ownsRow 0 3 1 X nX LX
 sa:∀k,A.ownBlock=some k→S k∧Z.ownBlock≠some k∧X.ownBlock≠some k
 sz_:∀k,Z.ownBlock=some k→S k∧X.ownBlock≠some k
 sx:∀k,X.ownBlock=some k→S k
section
variable {S:Nat→Prop}{w w1:World}{b g cp:Nat}{A Z X:Value}{nA nZ nX:Nat}{LA LZ LX:List Value}{sets steps x:Int}
theorem FG.blk1 (h:FG S w b A Z X nA nZ nX LA LZ LX sets steps) {v:Value}{n:Nat}{xs:List Value}(hv:w.ownsRow 0 3 1 v n xs) {o:Obj}(hg:(w.alloc o).grownBy w1 v.ownBlock):w1.heap[b]? = some (Obj.cells #[A,Z,X,.int .i64 sets,.int .i64 steps] 230):=by
 have hl:=(gL h.blk).1
 refine (hg.block b (by rw [World.size_alloc];omega) (fun e=>row_ne hv h.blk (by decide) e.symm)).trans ((Below.heap_alloc _ _ _ hl).trans h.blk)
theorem far_of {v:Value}{u:Value}{m n:Nat}{xs ys:List Value}(hu:w.ownsRow 0 3 1 u m ys) (_hv:w.ownsRow 0 3 1 v n xs) (hat:v.ownBlock=some g∨g=w.heap.size+1) (hne:∀k,v.ownBlock=some k→u.ownBlock≠some k):u.ownBlock≠some g:=by
 rcases hat with e|e
 ·exact hne g e
 ·intro e2
  have:=(hu.lt g e2).2
  omega
theorem Else.grown1 {S:Nat→Prop}{w w1:World}{o:Obj}{row:Option Nat}(hg:(w.alloc o).grownBy w1 row) (hr:∀k,row=some k→S k):Else S w w1:=
 (Else.alloc S w o).trans (Else.grown hg hr)
theorem FG.app0 (h:FG S w b A Z X nA nZ nX LA LZ LX sets steps) (ho:w1.ownsRow 0 3 1 (.slice (some ⟨g,0,none⟩) (nA+1) cp) (nA+1) (LA ++ [.int .i64 x])) {o:Obj}(hg:(w.alloc o).grownBy w1 A.ownBlock) (hat:A.ownBlock=some g∨g=w.heap.size+1):
  FG (fun k=>S k∨w.heap.size≤k) (w1.setCell ⟨b,0,none⟩ (.slice (some ⟨g,0,none⟩) (nA+1) cp)) b (.slice (some ⟨g,0,none⟩) (nA+1) cp) Z X (nA+1) nZ nX (LA ++ [.int .i64 x]) LZ LX sets steps∧Else S w (w1.setCell ⟨b,0,none⟩ (.slice (some ⟨g,0,none⟩) (nA+1) cp)):=by
 have hb1:=h.blk1 h.ra hg
 have fz:=far_of h.rz h.ra hat fun k hk=>(h.sa k hk).2.1
 have fx:=far_of h.rx h.ra hat fun k hk=>(h.sa k hk).2.2
 refine ⟨⟨heap_setCell_same w1 b 0 _ _ _ hb1,.inl h.sb,ownsRow_setCell_other ho (row_ne ho hb1 (by decide)) _,row_stays h.rz h.ra hg (fun k hk e=>(h.sa k e).2.1 hk) (row_ne h.rz h.blk (by decide)),row_stays h.rx h.ra hg (fun k hk e=>(h.sa k e).2.2 hk) (row_ne h.rx h.blk (by decide)),?_,fun k hk=>⟨.inl (h.sz_ k hk).1,(h.sz_ k hk).2⟩,fun k hk=>.inl (h.sx k hk)⟩,?_⟩
 ·intro k hk
  have hk:some g=some k:=hk
  injection hk with hk
  subst hk
  refine ⟨?_,fz,fx⟩
  rcases hat with e|e
  ·exact .inl (h.sa g e).1
  ·exact .inr (by omega)
 ·exact (Else.grown1 hg fun k hk=>(h.sa k hk).1).trans (Else.set w1 (p:=⟨b,0,none⟩) h.sb _)
theorem FG.app1 (h:FG S w b A Z X nA nZ nX LA LZ LX sets steps) (ho:w1.ownsRow 0 3 1 (.slice (some ⟨g,0,none⟩) (nZ+1) cp) (nZ+1) (LZ ++ [.int .i64 x])) {o:Obj}(hg:(w.alloc o).grownBy w1 Z.ownBlock) (hat:Z.ownBlock=some g∨g=w.heap.size+1):
  FG (fun k=>S k∨w.heap.size≤k) (w1.setCell ⟨b,1,none⟩ (.slice (some ⟨g,0,none⟩) (nZ+1) cp)) b A (.slice (some ⟨g,0,none⟩) (nZ+1) cp) X nA (nZ+1) nX LA (LZ ++ [.int .i64 x]) LX sets steps∧Else S w (w1.setCell ⟨b,1,none⟩ (.slice (some ⟨g,0,none⟩) (nZ+1) cp)):=by
 have hb1:=h.blk1 h.rz hg
 have fa:=far_of h.ra h.rz hat fun k hk e=>(h.sa k e).2.1 hk
 have fx:=far_of h.rx h.rz hat fun k hk=>(h.sz_ k hk).2
 refine ⟨⟨heap_setCell_same w1 b 1 _ _ _ hb1,.inl h.sb,row_stays h.ra h.rz hg (fun k hk=>(h.sa k hk).2.1) (row_ne h.ra h.blk (by decide)),ownsRow_setCell_other ho (row_ne ho hb1 (by decide)) _,row_stays h.rx h.rz hg (fun k hk e=>(h.sz_ k e).2 hk) (row_ne h.rx h.blk (by decide)),fun k hk=>⟨.inl (h.sa k hk).1,fun e=>fa (by rw [hk];exact e.symm),(h.sa k hk).2.2⟩,?_,fun k hk=>.inl (h.sx k hk)⟩,?_⟩
 ·intro k hk
  have hk:some g=some k:=hk
  injection hk with hk
  subst hk
  refine ⟨?_,fx⟩
  rcases hat with e|e
  ·exact .inl (h.sz_ g e).1
  ·exact .inr (by omega)
 ·exact (Else.grown1 hg fun k hk=>(h.sz_ k hk).1).trans (Else.set w1 (p:=⟨b,1,none⟩) h.sb _)
theorem FG.app2 (h:FG S w b A Z X nA nZ nX LA LZ LX sets steps) (ho:w1.ownsRow 0 3 1 (.slice (some ⟨g,0,none⟩) (nX+1) cp) (nX+1) (LX ++ [.int .i64 x])) {o:Obj}(hg:(w.alloc o).grownBy w1 X.ownBlock) (hat:X.ownBlock=some g∨g=w.heap.size+1):
  FG (fun k=>S k∨w.heap.size≤k) (w1.setCell ⟨b,2,none⟩ (.slice (some ⟨g,0,none⟩) (nX+1) cp)) b A Z (.slice (some ⟨g,0,none⟩) (nX+1) cp) nA nZ (nX+1) LA LZ (LX ++ [.int .i64 x]) sets steps∧Else S w (w1.setCell ⟨b,2,none⟩ (.slice (some ⟨g,0,none⟩) (nX+1) cp)):=by
 have hb1:=h.blk1 h.rx hg
 have fa:=far_of h.ra h.rx hat fun k hk e=>(h.sa k e).2.2 hk
 have fz:=far_of h.rz h.rx hat fun k hk e=>(h.sz_ k e).2 hk
 refine ⟨⟨heap_setCell_same w1 b 2 _ _ _ hb1,.inl h.sb,row_stays h.ra h.rx hg (fun k hk=>(h.sa k hk).2.2) (row_ne h.ra h.blk (by decide)),row_stays h.rz h.rx hg (fun k hk=>(h.sz_ k hk).2) (row_ne h.rz h.blk (by decide)),ownsRow_setCell_other ho (row_ne ho hb1 (by decide)) _,fun k hk=>⟨.inl (h.sa k hk).1,(h.sa k hk).2.1,fun e=>fa (by rw [hk];exact e.symm)⟩,fun k hk=>⟨.inl (h.sz_ k hk).1,fun e=>fz (by rw [hk];exact e.symm)⟩,?_⟩,?_⟩
 ·intro k hk
  have hk:some g=some k:=hk
  injection hk with hk
  subst hk
  rcases hat with e|e
  ·exact .inl (h.sx g e)
  ·exact .inr (by omega)
 ·exact (Else.grown1 hg fun k hk=>h.sx k hk).trans (Else.set w1 (p:=⟨b,2,none⟩) h.sb _)
end
theorem FM.fg {S:Nat→Prop}{w:World}{b n:Nat}{A Z X:Value}{par sz nx:Nat→Nat}{sets steps:Int}(h:FM S w b n A Z X par sz nx sets steps):FG S w b A Z X n n n (rowI n par) (rowI n sz) (rowI n nx) sets steps:=
 ⟨h.blk,h.sb,h.ra,h.rz,h.rx,h.sa,h.sz_,h.sx⟩
theorem rowI_upd (n v:Nat) (f:Nat→Nat):rowI (n+1) (upd f n v)=rowI n f ++ [.int .i64 (v:Int)]:=by
 rw [rowI_snoc,upd_same,rowI_congr (f:=upd f n v) (g:=f) fun k hk=>upd_other _ _ (by omega)]
set_option maxRecDepth 100000 in
set_option maxHeartbeats 1000000 in
theorem add_fm {S:Nat→Prop}{w:World}{b n:Nat}{A Z X:Value}{par sz nx:Nat→Nat}{sets steps:Int}(h:FM S w b n A Z X par sz nx sets steps) (hn:n<1048576) (hst:0≤sets∧sets≤1048576):
  Calls Tryz.prog 148 #[.pointer (some ⟨b,0,none⟩)] w fun e w'=>e = .returned (.int .i64 (n:Nat))∧(∃A' Z' X',FM (fun k=>S k∨w.heap.size≤k) w' b (n+1) A' Z' X' (upd par n n) (upd sz n 1) (upd nx n n) (sets+1) steps)∧Else S w w':=by
 have H:=kI h
 have c0:=h.cells.1
 have hl:=h.lt
 have hz:=h.frozen 0
 obtain ⟨Aa,ca,rfl,_,_⟩:=own_form h.ra
 obtain ⟨Za,cz,rfl,_,_⟩:=own_form h.rz
 obtain ⟨Xa,cx,rfl,_,_⟩:=own_form h.rx
 obtain ⟨g1,p1,w1,r1,o1,gr1,at1⟩:=app_int w _ n _ h.ra n (by omega)
 obtain ⟨F1,E1⟩:=h.fg.app0 o1 gr1 at1
 have hb1:=h.fg.blk1 h.ra gr1
 have hl1:=(gL hb1).1
 have hz1:w1.frozen? ⟨b,0,none⟩=false:=by simp [World.frozen?,hb1]
 have d0:w1.cell? ⟨b,0,none⟩=some (.slice Aa n ca):=cell_of_row w1 b 0 _ _ _ hb1
 have f1:((n:Int) == 1048576)=false:=by simp;omega
 have HN:=kI (aI F1 E1)
 clear h F1 E1 o1 gr1 at1 hb1
 go_enter Tryz.func148,Tryz.ntmps148
 go_upto_region 5 with fail
 refine wp_world (fun V=>FG (fun k=>S k∨w.heap.size≤k) V b (.slice (some ⟨g1,0,none⟩) (n+1) p1) (.slice Za n cz) (.slice Xa n cx) (n+1) n n (rowI n par ++ [.int .i64 (n:Nat)]) (rowI n sz) (rowI n nx) sets steps∧Else S w V) HN.out ?_
 rintro V ⟨F1,E1⟩
 clear c0 hl hz r1 hl1 hz1 d0 f1
 have c0:V.cell? ⟨b,1,none⟩=some (.slice Za n cz):=cell_of_row V b 1 _ _ _ F1.blk
 have hl:=(gL F1.blk).1
 obtain ⟨g2,p2,w2,r2,o2,gr2,at2⟩:=app_int V _ n _ F1.rz 1 (by omega)
 obtain ⟨F2,E2⟩:=F1.app1 o2 gr2 at2
 have hb2:=F1.blk1 F1.rz gr2
 have hl2:=(gL hb2).1
 have hz2:w2.frozen? ⟨b,1,none⟩=false:=by simp [World.frozen?,hb2]
 have d1:w2.cell? ⟨b,1,none⟩=some (.slice Za n cz):=cell_of_row w2 b 1 _ _ _ hb2
 have HN2:=kI (aI E1 (aI F2 E2))
 have hVs:=E1.size
 clear F1 E1 o2 gr2 at2 hb2 F2 E2 HN
 go_upto_region 6 with fail
 refine wp_world (fun V'=>FG (fun k=>(S k∨w.heap.size≤k)∨V.heap.size≤k) V' b (.slice (some ⟨g1,0,none⟩) (n+1) p1) (.slice (some ⟨g2,0,none⟩) (n+1) p2) (.slice Xa n cx) (n+1) (n+1) n (rowI n par ++ [.int .i64 (n:Nat)]) (rowI n sz ++ [.int .i64 1]) (rowI n nx) sets steps∧Else (fun k=>S k∨w.heap.size≤k) w V')
  ⟨HN2.out.2.1,(HN2.out.1.mono fun k hk=>.inl hk).trans HN2.out.2.2⟩ ?_
 rintro V' ⟨F2,E2⟩
 clear c0 hl r2 hl2 hz2 d1 HN2
 have c0:V'.cell? ⟨b,2,none⟩=some (.slice Xa n cx):=cell_of_row V' b 2 _ _ _ F2.blk
 have hl:=(gL F2.blk).1
 obtain ⟨g3,p3,w3,r3,o3,gr3,at3⟩:=app_int V' _ n _ F2.rx n (by omega)
 obtain ⟨F3,E3⟩:=F2.app2 o3 gr3 at3
 have hb3:=F2.blk1 F2.rx gr3
 have hl3:=(gL hb3).1
 have hz3:w3.frozen? ⟨b,2,none⟩=false:=by simp [World.frozen?,hb3]
 have d2:w3.cell? ⟨b,2,none⟩=some (.slice Xa n cx):=cell_of_row w3 b 2 _ _ _ hb3
 have d3:w3.cell? ⟨b,3,none⟩=some (.int .i64 sets):=cell_of_row w3 b 3 _ _ _ hb3
 have hz4:w3.frozen? ⟨b,3,none⟩=false:=by simp [World.frozen?,hb3]
 have HN3:=kI (aI E2 (aI F3 E3))
 have hVs':=E2.size
 clear F2 E2 o3 gr3 at3 hb3 F3 E3
 go_wp2_with fail
 go_ret
 obtain ⟨E2,F3,E3⟩:=HN3.out
 have hsub:∀k,((((S k∨w.heap.size≤k)∨V.heap.size≤k)∨V'.heap.size≤k)→(S k∨w.heap.size≤k)):=by
  rintro k (((h|h)|h)|h)
  ·exact .inl h
  ·exact .inr h
  ·exact .inr (by omega)
  ·exact .inr (by omega)
 have hblk:=heap_setCell_same _ b 3 _ _ (.int .i64 (sets+1)) F3.blk
 have hE:Else (fun k=>S k∨w.heap.size≤k) w ((w3.setCell ⟨b,2,none⟩ (.slice (some ⟨g3,0,none⟩) (n+1) p3)).setCell ⟨b,3,none⟩ (.int .i64 (sets+1))):=
  (E2.trans (E3.mono fun k hk=>hsub k (.inl hk))).trans (Else.set _ (p:=⟨b,3,none⟩) (hsub b F3.sb) _)
 refine ⟨rfl,⟨.slice (some ⟨g1,0,none⟩) (n+1) p1,.slice (some ⟨g2,0,none⟩) (n+1) p2,.slice (some ⟨g3,0,none⟩) (n+1) p3,⟨hblk,hsub b F3.sb,?_,?_,?_,fun k hk=>⟨hsub k (F3.sa k hk).1,(F3.sa k hk).2⟩,fun k hk=>⟨hsub k (F3.sz_ k hk).1,(F3.sz_ k hk).2⟩,fun k hk=>hsub k (F3.sx k hk)⟩⟩,⟨hE.os,hE.tape,hE.output,hE.size,fun k hk hs=>hE.block k hk fun hx=>by rcases hx with hx|hx;exact hs hx;omega⟩⟩
 ·rw [rowI_upd];exact ownsRow_setCell_other F3.ra (row_ne F3.ra F3.blk (by decide)) _
 ·rw [rowI_upd];exact ownsRow_setCell_other F3.rz (row_ne F3.rz F3.blk (by decide)) _
 ·rw [rowI_upd];exact ownsRow_setCell_other F3.rx (row_ne F3.rx F3.blk (by decide)) _
theorem UFr.add {n:Nat}{par sz col rk:Nat→Nat}(h:UFr n par sz col rk) (c:Nat) (hc:∀k,k<n→col k≠c):UFr (n+1) (upd par n n) (upd sz n 1) (upd col n c) (upd rk n 0):=by
 have old:∀k,k<n→upd par n n k=par k∧upd sz n 1 k=sz k∧upd col n c k=col k∧upd rk n 0 k=rk k:=fun k hk=>⟨upd_other _ _ (by omega),upd_other _ _ (by omega),upd_other _ _ (by omega),upd_other _ _ (by omega)⟩
 have cl:∀k,k<n→cls (n+1) (upd col n c) k=cls n col k:=by
  intro k hk
  unfold cls
  rw [List.range_succ,List.countP_append,(old k hk).2.2.1]
  have e1:(List.range n).countP (fun j=>upd col n c j == col k)=(List.range n).countP (fun j=>col j == col k):=by
   apply List.countP_congr
   intro j hj
   rw [(old j (List.mem_range.1 hj)).2.2.1]
  have e2:[n].countP (fun j=>upd col n c j == col k)=0:=by
   simp [upd_same,Ne.symm (hc k hk)]
  rw [e1,e2,Nat.add_zero]
 have cn:cls (n+1) (upd col n c) n=1:=by
  unfold cls
  rw [List.range_succ,List.countP_append,upd_same]
  have e1:(List.range n).countP (fun j=>upd col n c j == c)=0:=by
   rw [List.countP_eq_zero]
   intro j hj
   rw [(old j (List.mem_range.1 hj)).2.2.1]
   simp [hc j (List.mem_range.1 hj)]
  rw [e1];simp [upd_same]
 have cases_:∀i,i<n+1→i<n∨i=n:=fun i hi=>by omega
 refine ⟨fun i hi=>?_,fun i hi=>?_,fun i j hi hj pi pj e=>?_,fun i hi hp=>?_,fun i hi hp=>?_,fun i hi=>?_,fun i hi hp=>?_⟩
 ·rcases cases_ i hi with h1|rfl
  ·rw [(old i h1).1];have:=h.lt i h1;omega
  ·rw [upd_same];omega
 ·rcases cases_ i hi with h1|rfl
  ·rw [(old i h1).1,(old _ (h.lt i h1)).2.2.1,(old i h1).2.2.1];exact h.colp i h1
  ·rw [upd_same]
 ·rcases cases_ i hi with h1|rfl<;>rcases cases_ j hj with h2|rfl
  ·rw [(old i h1).1] at pi;rw [(old j h2).1] at pj;rw [(old i h1).2.2.1,(old j h2).2.2.1] at e;exact h.root i j h1 h2 pi pj e
  ·rw [(old i h1).2.2.1,upd_same] at e;exact absurd e (hc i h1)
  ·rw [(old j h2).2.2.1,upd_same] at e;exact absurd e.symm (hc j h2)
  ·rfl
 ·rcases cases_ i hi with h1|rfl
  ·rw [(old i h1).1] at hp ⊢;rw [(old i h1).2.2.2,(old _ (h.lt i h1)).2.2.2];exact h.up i h1 hp
  ·rw [upd_same] at hp;exact absurd rfl hp
 ·rcases cases_ i hi with h1|rfl
  ·rw [(old i h1).1] at hp;rw [(old i h1).2.2.2,(old i h1).2.1];exact h.big i h1 hp
  ·rw [upd_same,upd_same];exact Nat.le_refl _
 ·rcases cases_ i hi with h1|rfl
  ·rw [(old i h1).2.2.2];have:=h.small i h1;omega
  ·rw [upd_same];simp
 ·rcases cases_ i hi with h1|rfl
  ·rw [(old i h1).1] at hp;rw [(old i h1).2.1,cl i h1];exact h.size i h1 hp
  ·rw [upd_same,cn]
theorem Rings.add {n:Nat}{nx col:Nat→Nat}(h:Rings n nx col) (c:Nat) (hc:∀k,k<n→col k≠c):Rings (n+1) (upd nx n n) (upd col n c):=by
 intro i hi
 by_cases h1:i<n
 ·obtain ⟨L,h2,h3,h4,h5⟩:=h i h1
  refine ⟨L,h2.same fun k hk=>upd_other _ _ (by have:=((h5 k).1 hk).1;omega),h3,h4,fun j=>(h5 j).trans ?_⟩
  rw [upd_other col c (show i≠n by omega)]
  constructor
  ·rintro ⟨hj,e⟩;exact ⟨by omega,by rw [upd_other _ _ (by omega)];exact e⟩
  ·rintro ⟨hj,e⟩
   by_cases hjn:j=n
   ·subst hjn;rw [upd_same] at e;exact absurd e.symm (hc i h1)
   ·rw [upd_other _ _ hjn] at e;exact ⟨by omega,e⟩
 ·obtain rfl:i=n:=by omega
  refine ⟨[i],.cons (by rw [upd_same];exact .nil _),by simp,by simp,fun j=>?_⟩
  simp only [List.mem_singleton,upd_same]
  constructor
  ·rintro rfl;exact ⟨hi,upd_same _ _ _⟩
  ·rintro ⟨hj,e⟩
   by_cases hjn:j=i
   ·exact hjn
   ·rw [upd_other _ _ hjn] at e;exact absurd e (hc j (by omega))
theorem cnt_add {n:Nat}{col:Nat→Nat}(c:Nat) (hc:∀k,k<n→col k≠c):cnt (n+1) (upd col n c)=cnt n col+1:=by
 rw [cnt_eq,cnt_eq,List.range_succ,List.countP_append]
 have e1:(List.range n).countP (fst_ (upd col n c))=(List.range n).countP (fst_ col):=by
  apply List.countP_congr
  intro k hk
  have hk:=List.mem_range.1 hk
  rw [fst_iff,fst_iff]
  constructor
  ·intro g j hj;have:=g j hj;rwa [upd_other _ _ (by omega),upd_other _ _ (by omega)] at this
  ·intro g j hj;rw [upd_other _ _ (by omega),upd_other _ _ (by omega)];exact g j hj
 have e2:[n].countP (fst_ (upd col n c))=1:=by
  have:fst_ (upd col n c) n=true:=by
   rw [fst_iff]
   intro j hj
   rw [upd_same,upd_other _ _ (by omega)]
   exact hc j hj
  simp [this]
 rw [e1,e2]
theorem add_uf {S:Nat→Prop}{w:World}{b n:Nat}{col ro:Nat→Nat}{steps:Int}(h:UFo S w b n col ro steps) (hn:n<1048576) (c:Nat) (hc:∀k,k<n→col k≠c):
  Calls Tryz.prog 148 #[.pointer (some ⟨b,0,none⟩)] w fun e w'=>e = .returned (.int .i64 (n:Nat))∧UFo (fun k=>S k∨w.heap.size≤k) w' b (n+1) (upd col n c) (upd ro n n) steps∧Else S w w':=by
 obtain ⟨A,Z,X,par,sz,nx,rk,h1,h2,h3,h4,h5⟩:=h
 have hct:=cnt_le n col
 refine (add_fm h1 hn (by omega)).mono ?_
 rintro e w' ⟨rfl,⟨A',Z',X',hf⟩,hE⟩
 refine ⟨rfl,⟨A',Z',X',_,_,_,upd rk n 0,?_,h2.add c hc,h3.add c hc,by omega,fun i hi=>?_⟩,hE⟩
 ·have:((cnt (n+1) (upd col n c):Nat):Int)=(cnt n col:Nat)+1:=by rw [cnt_add c hc];omega
  rw [this];exact hf
 ·by_cases h6:i=n
  ·subst h6;rw [upd_same];exact ⟨hi,upd_same _ _ _,rfl⟩
  ·obtain ⟨g1,g2,g3⟩:=h5 i (by omega)
   rw [upd_other _ _ h6]
   exact ⟨by omega,by rw [upd_other _ _ (by omega)];exact g2,by rw [upd_other _ _ (by omega),upd_other _ _ h6];exact g3⟩
end Go.Proofs.YtmamdiggjghjkaaGreatDoor.Un
namespace Go.Proofs.YtmamdiggjghjkaaGreatDoor.Un
open Go.RowKit
theorem upd_id (k:Nat):upd (fun j=>j) k k=fun j=>j:=by
 funext j;unfold upd;split
 ·rename_i h;exact h.symm
 ·rfl
theorem forest_none (w:World):UFo (fun k=>w.heap.size≤k) (w.alloc (.cells #[.slice none 0 0,.slice none 0 0,.slice none 0 0,.int .i64 0,.int .i64 0] 230)) w.heap.size 0 (fun j=>j) (fun j=>j) 0:=by
 refine ⟨.slice none 0 0,.slice none 0 0,.slice none 0 0,fun j=>j,fun _=>1,fun j=>j,fun _=>0,⟨heap_alloc_new w _,Nat.le_refl _,World.ownsRow_nil _ _ _ _,World.ownsRow_nil _ _ _ _,World.ownsRow_nil _ _ _ _,fun k hk=>(by cases hk),fun k hk=>(by cases hk),fun k hk=>(by cases hk)⟩,UFr.alone 0,Rings.alone 0,by omega,fun i hi=>by omega⟩
theorem UFo.tight {S:Nat→Prop}{w:World}{b n:Nat}{col ro:Nat→Nat}{steps:Int}(h:UFo S w b n col ro steps):UFo (fun k=>S k∧k<w.heap.size) w b n col ro steps:=by
 obtain ⟨A,Z,X,par,sz,nx,rk,h1,h2⟩:=h
 exact ⟨A,Z,X,par,sz,nx,rk,⟨h1.blk,⟨h1.sb,h1.lt⟩,h1.ra,h1.rz,h1.rx,fun k hk=>⟨⟨(h1.sa k hk).1,(h1.ra.lt k hk).2⟩,(h1.sa k hk).2⟩,fun k hk=>⟨⟨(h1.sz_ k hk).1,(h1.rz.lt k hk).2⟩,(h1.sz_ k hk).2⟩,fun k hk=>⟨h1.sx k hk,(h1.rx.lt k hk).2⟩⟩,h2⟩
theorem UFo.more {S T:Nat→Prop}{w:World}{b n:Nat}{col ro:Nat→Nat}{steps:Int}(h:UFo S w b n col ro steps) (hst:∀k,S k→T k):UFo T w b n col ro steps:=by
 obtain ⟨A,Z,X,par,sz,nx,rk,h1,h2⟩:=h
 exact ⟨A,Z,X,par,sz,nx,rk,⟨h1.blk,hst _ h1.sb,h1.ra,h1.rz,h1.rx,fun k hk=>⟨hst _ (h1.sa k hk).1,(h1.sa k hk).2⟩,fun k hk=>⟨hst _ (h1.sz_ k hk).1,(h1.sz_ k hk).2⟩,fun k hk=>hst _ (h1.sx k hk)⟩,h2⟩
def intAt:Value→Int
 | .int _ n=>n
 | _=>0
set_option maxRecDepth 100000 in
set_option maxHeartbeats 1000000 in
theorem new_in (w:World) (n:Nat) (hn:n≤1048576):
  Calls Tryz.prog 147 #[.int .i64 (n:Nat)] w fun e w'=>e = .returned (.tuple #[.pointer (some ⟨w.heap.size,0,none⟩),.int .i64 0])∧UFo (fun k=>w.heap.size≤k∧k<w'.heap.size) w' w.heap.size n (fun j=>j) (fun j=>j) 0∧Below w.heap.size w w':=by
 have f1:decide ((n:Int)<0)=false:=decide_eq_false (by omega)
 have f2:decide ((n:Int) > 1048576)=false:=decide_eq_false (by omega)
 have f3:decide ((1048576:Int)<(n:Int))=false:=decide_eq_false (by omega)
 go_enter Tryz.func147,Tryz.ntmps147
 go_wp2_with fail
 go_loopw [14] (fun s wr=>∃k:Nat,s = .int .i64 (k:Int)∧k≤n∧UFo (fun j=>w.heap.size≤j) wr w.heap.size k (fun j=>j) (fun j=>j) 0∧Below w.heap.size w wr) (fun s _=>((n:Int)-intAt s).toNat)
 case atStart=>exact ⟨0,rfl,by omega,forest_none w,(Below.refl _ _).alloc (Nat.le_refl _) _⟩
 case round=>
  obtain ⟨k,rfl,hk,hU,hB⟩:=hrel
  by_cases hkn:k<n
  ·have g1:decide ((k:Int)<(n:Int))=true:=decide_eq_true (by omega)
   have HA:=add_uf hU (by omega) k (fun j hj=>by omega)
   rw [upd_id] at HA
   have HB:=kI hB
   clear hU hB
   go_wp2_with fail
   refine HA.mono ?_
   rintro e w2 ⟨rfl,hU2,hE⟩
   have hb2:Below w.heap.size w w2:=HB.out.trans (hE.below (fun k hk=>hk) HB.out.size)
   have HF:=kI (aI (hU2.more fun k hk=>by rcases hk with hk|hk;exact hk;have:=HB.out.size;omega) hb2)
   clear hU2 hE hb2
   go_wp2_with fail
   go_roundw
   case rel=>exact ⟨k+1,by go_num,by omega,HF.out.1,HF.out.2⟩
   case measure=>
    simp only [intAt]
    omega
  ·have g1:decide ((k:Int)<(n:Int))=false:=decide_eq_false (by omega)
   obtain rfl:k=n:=by omega
   have HF:=kI (aI hU hB)
   clear hU hB
   go_wp2_with fail
   go_ret2
   exact ⟨rfl,HF.out.1.tight,HF.out.2⟩
end Go.Proofs.YtmamdiggjghjkaaGreatDoor.Un
namespace Go.Proofs.YtmamdiggjghjkaaGreatDoor.Un
open Go.RowKit
theorem steps_uf {S:Nat→Prop}{w:World}{b n:Nat}{col ro:Nat→Nat}{steps:Int}(h:UFo S w b n col ro steps):
  Calls Tryz.prog 149 #[.pointer (some ⟨b,0,none⟩)] w fun e w'=>e = .returned (.int .i64 steps)∧w'=w:=by
 obtain ⟨A,Z,X,par,sz,nx,rk,h1,_⟩:=h
 exact steps_any h1
theorem UFo.few {S:Nat→Prop}{w:World}{b n:Nat}{col ro:Nat→Nat}{steps:Int}(h:UFo S w b n col ro steps):n≤1048576:=by
 obtain ⟨_,_,_,_,_,_,_,_,_,_,hn,_⟩:=h;exact hn
end Go.Proofs.YtmamdiggjghjkaaGreatDoor.Un
namespace Go.Proofs.YtmamdiggjghjkaaGreatDoor.Un
open Go.RowKit
set_option maxRecDepth 100000
structure StM (S:Nat→Prop) (w:World) (cb:Nat) (x0 x1 x2:Value) (f0 c fo ob:Nat) (x6 x7:Value) (n:Nat) (col ro:Nat→Nat) (steps:Int):Prop where
 blk:w.heap[cb]? = some (Obj.cells #[x0,x1,x2,.slice (some ⟨f0,0,none⟩) 1 c,.int .i64 n,.map (some ob),x6,x7] 150)
 map:MapF (fun _=>none) 0 0 ob w
 ncb:¬ S cb
 nob:¬ S ob
 nf0:¬ S f0
 row:w.ownsRow 0 214 1 (.slice (some ⟨f0,0,none⟩) 1 c) 1 [.pointer (some ⟨fo,0,none⟩)]
 uf:UFo S w fo n col ro steps
theorem own_else {S:Nat→Prop}{w w':World}{base:Nat}{e:TypeId}{size:Nat}{v:Value}{n:Nat}{xs:List Value}(h:w.ownsRow base e size v n xs) (he:Else S w w') (hs:∀k,v.ownBlock=some k→¬ S k):w'.ownsRow base e size v n xs:=by
 refine ⟨h.1,?_⟩
 rcases h.2 with h2|⟨g,cap,cur,hv,hg,hh,r⟩
 ·exact .inl h2
 ·exact .inr ⟨g,cap,cur,hv,hg,(he.block g (gL hh).1 (hs g (by rw [hv];rfl))).trans hh,r⟩
section
variable {S:Nat→Prop}{w w':World}{cb:Nat}{x0 x1 x2:Value}{f0 c fo ob:Nat}{x6 x7:Value}{n:Nat}{col ro col' ro':Nat→Nat}{steps steps':Int}
theorem StM.turn (h:StM S w cb x0 x1 x2 f0 c fo ob x6 x7 n col ro steps) (he:Else S w w') (hu:UFo S w' fo n col' ro' steps'):StM S w' cb x0 x1 x2 f0 c fo ob x6 x7 n col' ro' steps':=
 ⟨(he.block cb (gL h.blk).1 h.ncb).trans h.blk,h.map.block (he.block ob h.map.lt h.nob),h.ncb,h.nob,h.nf0,own_else h.row he (fun k hk=>by cases hk;exact h.nf0),hu⟩
theorem StM.cells (h:StM S w cb x0 x1 x2 f0 c fo ob x6 x7 n col ro steps):cb<w.heap.size∧w.cell? ⟨cb,3,none⟩=some (.slice (some ⟨f0,0,none⟩) 1 c)∧w.cell? ⟨cb,4,none⟩=some (.int .i64 n)∧w.cell? ⟨cb,5,none⟩=some (.map (some ob))∧w.cell? ⟨f0,0,none⟩=some (.pointer (some ⟨fo,0,none⟩)):=
 ⟨(gL h.blk).1,cell_of_row w cb 3 _ _ _ h.blk,cell_of_row w cb 4 _ _ _ h.blk,cell_of_row w cb 5 _ _ _ h.blk,by have:=h.row.cellAt 0 (by omega);simpa using this⟩
theorem UFo.roots (h:UFo S w fo n col ro steps) {i:Nat}(hi:i<n):ro i<n∧col (ro i)=col i:=by
 obtain ⟨_,_,_,_,_,_,_,_,_,_,_,h5⟩:=h
 exact ⟨(h5 i hi).1,(h5 i hi).2.2⟩
theorem quo0 {i n:Nat}(hi:i<n) (hn:n≤1048576):Int.tdiv (i:Int) 1048576=0∧Int.tmod (i:Int) 1048576=i:=
 ⟨Int.tdiv_eq_zero_of_lt (by omega) (by omega),Int.tmod_eq_of_lt (by omega) (by omega)⟩
theorem wf_small {i:Nat}(h:i<9223372036854775808):(Lit.int .i64 (i:Int)).wf=true:=by
 simp [Lit.wf,IntKind.min,IntKind.max,IntKind.bits,IntKind.signed];omega
theorem inner_st (h:StM S w cb x0 x1 x2 f0 c fo ob x6 x7 n col ro steps) (hst:0≤steps∧steps≤100000000000000) (i:Nat) (hi:i<n):
  Calls Tryz.prog 150 #[.pointer (some ⟨cb,3,none⟩),.int .i64 i] w fun e w'=>∃k:Nat,e = .returned (.int .i64 (ro i:Nat))∧k≤dg n∧StM S w' cb x0 x1 x2 f0 c fo ob x6 x7 n col ro (steps+k)∧Else S w w':=by
 have hn:n≤1048576:=h.uf.few
 obtain ⟨q1,q2⟩:=quo0 hi hn
 have HR:=root_in h.uf hst i hi
 obtain ⟨hl,c3,_,_,r0⟩:=h.cells
 have hro:=(h.uf.roots hi).1
 have HH:=kI h
 clear h
 go_enter Tryz.func150,Tryz.ntmps150
 go_wp2_with fail
 refine HR.mono ?_
 rintro e w2 ⟨k,rfl,hk,hu,he⟩
 have HF:=kI (aI hk (aI hu he))
 clear hk hu he HR
 go_wp2_with fail
 go_ret
 obtain ⟨hk,hu,he⟩:=HF.out
 exact ⟨k,rfl,hk,HH.out.turn he hu,he⟩
theorem root_st (h:StM S w cb x0 x1 x2 f0 c fo ob x6 x7 n col ro steps) (hst:0≤steps∧steps≤100000000000000) (i:Nat) (hi:i<n):
  Calls Tryz.prog 135 #[.pointer (some ⟨cb,3,none⟩),.int .i64 i] w fun e w'=>∃k:Nat,e = .returned (.int .i64 (ro i:Nat))∧k≤dg n∧StM S w' cb x0 x1 x2 f0 c fo ob x6 x7 n col ro (steps+k)∧Else S w w':=by
 have hn:n≤1048576:=h.uf.few
 have hro:=(h.uf.roots hi).1
 have HR:=inner_st h hst i hi
 clear h
 go_enter Tryz.func135,Tryz.ntmps135
 go_wp2_with fail
 refine HR.mono ?_
 rintro e w2 ⟨k,rfl,hk,hs,he⟩
 obtain ⟨hl,_,_,c5,_⟩:=hs.cells
 have hlook:=hs.map.look_ok intsTy (ro i:Nat) (wf_small (by omega))
 have HF:=kI (aI hk (aI hs he))
 clear hk hs he HR
 go_wp2_with fail
 go_loopw [6] (fun s wr=>s = .int .i64 (ro i:Nat)∧wr=w2) (fun _ _=>0)
 case atStart=>exact ⟨rfl,rfl⟩
 case round=>
  obtain ⟨rfl,rfl⟩:=hrel
  go_wp2_with fail
  go_ret
  obtain ⟨hk,hs,he⟩:=HF.out
  exact ⟨k,rfl,hk,hs,he⟩
def SJoin (S:Nat→Prop) (w:World) (cb:Nat) (x0 x1 x2:Value) (f0 c fo ob:Nat) (x6 x7:Value) (n:Nat) (col ro:Nat→Nat) (steps:Int) (x y:Nat) (e:Ending) (w':World):Prop:=
 ∃(r k:Nat) (ro':Nat→Nat),e = .returned (.int .i64 r)∧r<n∧(∀i,i<n→ro' i=if paint col x y i=paint col x y r then r else ro i)∧(col r=col x∨col r=col y)∧k≤2*dg n∧StM S w' cb x0 x1 x2 f0 c fo ob x6 x7 n (paint col x y) ro' (steps+k)∧Else S w w'
theorem join_st (h:StM S w cb x0 x1 x2 f0 c fo ob x6 x7 n col ro steps) (hst:0≤steps∧steps≤10000000000000) (x y:Nat) (hx:x<n) (hy:y<n):
  Calls Tryz.prog 152 #[.pointer (some ⟨cb,3,none⟩),.int .i64 x,.int .i64 y] w (SJoin S w cb x0 x1 x2 f0 c fo ob x6 x7 n col ro steps x y):=by
 have hn:n≤1048576:=h.uf.few
 obtain ⟨q1,q2⟩:=quo0 hx hn
 obtain ⟨q3,q4⟩:=quo0 hy hn
 have HR:=join_in2 h.uf hst x y hx hy
 obtain ⟨hl,c3,_,_,r0⟩:=h.cells
 have HH:=kI h
 clear h
 go_enter Tryz.func152,Tryz.ntmps152
 go_wp2_with fail
 refine HR.mono ?_
 rintro e w2 ⟨r,k,ro',rfl,hr,hrr,hc,hk,hu,he⟩
 have HF:=kI (aI hc (aI hk (aI hu he)))
 clear hc hk hu he HR
 go_wp2_with fail
 go_ret
 obtain ⟨hc,hk,hu,he⟩:=HF.out
 exact ⟨r,k,ro',rfl,hr,hrr,hc,hk,HH.out.turn he hu,he⟩
theorem steps_st (h:StM S w cb x0 x1 x2 f0 c fo ob x6 x7 n col ro steps) (hst:0≤steps∧steps≤100000000000000):
  Calls Tryz.prog 134 #[.pointer (some ⟨cb,3,none⟩)] w fun e w'=>e = .returned (.int .i64 steps)∧w'=w:=by
 have HR:=steps_uf h.uf
 obtain ⟨hl,c3,_,_,r0⟩:=h.cells
 clear h
 go_enter Tryz.func134,Tryz.ntmps134
 go_wp2_with fail
 go_loopw [3,11] (fun s i wr=>wr=w∧((i = .int .i64 0∧s = .int .i64 0)∨(i = .int .i64 1∧s = .int .i64 steps))) (fun _ i _=>(2-intAt i).toNat)
 case atStart=>exact ⟨rfl,.inl ⟨rfl,rfl⟩⟩
 case round=>
  obtain ⟨rfl,hrel|hrel⟩:=hrel
  ·obtain ⟨rfl,rfl⟩:=hrel
   go_wp2_with fail
   refine HR.mono ?_
   rintro e w2 ⟨rfl,rfl⟩
   go_wp2_with fail
   exact ⟨⟨trivial,.inr ⟨rfl,rfl⟩⟩,by show (2-(1:Int)).toNat<(2-(0:Int)).toNat;decide⟩
  ·obtain ⟨rfl,rfl⟩:=hrel
   go_wp2_with fail
   go_ret
   exact ⟨rfl,rfl⟩
end
end Go.Proofs.YtmamdiggjghjkaaGreatDoor.Un
namespace Go.Proofs.YtmamdiggjghjkaaGreatDoor.Un
open Go.RowKit
set_option maxRecDepth 100000
attribute [local go_sem] Oper.semAt_some
attribute [local go_sem ↓] builtin_app
theorem forInfo:(Tryz.prog.info? 214).map (fun i=>(i.zero,i.size,i.bytes))=some (some (.pointer none),1,8):=by kernel_rfl
theorem app_for (w:World) (fo:Nat):
  ∃cp w1,(app_ #[144,144] 144 #[.slice none 0 0,.slice (some ⟨w.heap.size,0,none⟩) 1 1]).run Tryz.prog (w.alloc (.cells #[.pointer (some ⟨fo,0,none⟩)] 214)) = .ok (.slice (some ⟨w.heap.size+1,0,none⟩) 1 cp) w1∧
   w1.ownsRow 0 214 1 (.slice (some ⟨w.heap.size+1,0,none⟩) 1 cp) 1 [.pointer (some ⟨fo,0,none⟩)]∧(w.alloc (.cells #[.pointer (some ⟨fo,0,none⟩)] 214)).grownBy w1 none:=by
 obtain ⟨i0,hi0,hz0,hz1,hz2⟩:=info_parts forInfo
 have rd1:Rd (w.alloc (.cells #[.pointer (some ⟨fo,0,none⟩)] 214)) 1 (.slice (some ⟨w.heap.size,0,none⟩) 1 1) 1 [.pointer (some ⟨fo,0,none⟩)]:=rd_new w [.pointer (some ⟨fo,0,none⟩)] 214 1 1 rfl (by unfold maxLen;omega)
 obtain ⟨v',w1,hrun,hown1,hg1,hat⟩:=run_append_rd (P:=Tryz.prog) _ 0 144 144 214 i0 _ 1 8 Tryz.underlying144 hi0 hz0 hz1 hz2 rfl (by omega) (.slice none 0 0) 0 [] (World.ownsRow_nil _ _ _ _) _ 1 _ rd1 (by simp [Value.oneCell']) (by unfold maxLen;omega) (by omega) (by omega)
 obtain ⟨g,cp,rfl,_,_⟩:=own_shape hown1 (by omega)
 have hgg:g=w.heap.size+1:=by
  rcases hat with e|e
  ·exact absurd e (by simp [Value.ownBlock])
  ·have e:some g=some (w.heap.size+1):=by rw [←World.size_alloc w (.cells #[.pointer (some ⟨fo,0,none⟩)] 214)];exact e
   injection e
 subst hgg
 exact ⟨cp,w1,by unfold app_;simpa using hrun,by simpa using hown1,hg1⟩
section
variable {S:Nat→Prop}{w w':World}{cb:Nat}{x0 x1 x2:Value}{f0 c fo ob:Nat}{x6 x7:Value}{n:Nat}{col ro col' ro':Nat→Nat}{steps steps':Int}
theorem Else.cell {S:Nat→Prop}{w w2:World}{cb:Nat}(he:Else S w w2) (k:Nat) (v:Value):Else (fun k=>S k∨k=cb) w (w2.setCell ⟨cb,k,none⟩ v):=
 (he.mono fun _ h=>.inl h).trans (Else.set w2 (p:=⟨cb,k,none⟩) (.inr rfl) v)
theorem StM.more (h:StM S w cb x0 x1 x2 f0 c fo ob x6 x7 n col ro steps) (hu:UFo (fun k=>S k∨w.heap.size≤k) w' fo (n+1) col' ro' steps) (he:Else S w w'):
  StM (fun k=>S k∨w.heap.size≤k) (w'.setCell ⟨cb,4,none⟩ (.int .i64 ((n:Int)+1))) cb x0 x1 x2 f0 c fo ob x6 x7 (n+1) col' ro' steps:=by
 have hl:=(gL h.blk).1
 have hb2:=(he.block cb hl h.ncb).trans h.blk
 have hf0:f0<w.heap.size:=(h.row.lt f0 rfl).2
 have hne:f0≠cb:=fun e=>row_ne h.row h.blk (by decide) (by rw [e];rfl)
 have hob:=h.map.lt
 have hoc:ob≠cb:=fun e=>by
  obtain ⟨_,_,⟨_,_,hm,_⟩,_⟩:=h.map
  rw [e,h.blk] at hm
  cases hm
 have hE:=he.cell (cb:=cb) 4 (.int .i64 ((n:Int)+1))
 refine ⟨heap_setCell_same w' cb 4 _ _ _ hb2,h.map.block (hE.block ob hob fun hx=>hx.elim h.nob hoc),fun hx=>hx.elim h.ncb (by omega),fun hx=>hx.elim h.nob (by omega),fun hx=>hx.elim h.nf0 (by omega),own_else h.row hE (fun k hk=>by cases hk;exact fun hx=>hx.elim h.nf0 hne),?_⟩
 exact hu.keep (Else.set (S:=fun k=>k=cb) w' (p:=⟨cb,4,none⟩) rfl _) fun k hk e=>by subst e;exact hk.elim h.ncb (by omega)
theorem add_st (h:StM S w cb x0 x1 x2 f0 c fo ob x6 x7 n col ro steps) (hn0:0<n) (hn:n<1048576) (d:Nat) (hc:∀k,k<n→col k≠d):
  Calls Tryz.prog 133 #[.pointer (some ⟨cb,3,none⟩)] w fun e w'=>e = .returned (.tuple #[])∧StM (fun k=>S k∨w.heap.size≤k) w' cb x0 x1 x2 f0 c fo ob x6 x7 (n+1) (upd col n d) (upd ro n n) steps∧Else (fun k=>S k∨k=cb) w w':=by
 have HR:=add_uf (w:=w.drew) (h.uf.below (Below.refl _ w).drew) hn d hc
 obtain ⟨q1,q2⟩:=quo0 (Nat.lt_succ_self n) (by omega)
 obtain ⟨hl,c3,c4,_,r0⟩:=h.cells
 have f1:((n:Int) == 0)=false:=by simp;omega
 have hz:w.frozen? ⟨cb,4,none⟩=false:=by simp [World.frozen?,h.blk]
 have HH:=kI h
 clear h
 go_enter Tryz.func133,Tryz.ntmps133
 go_wp2_with fail
 go_region_with (go_at_call 148;refine HR.mono ?_;rintro e w2 ⟨rfl,hu,he⟩)
 all_goals
  have he:Else S w w2:=⟨he.os,he.tape,he.output,he.size,he.block⟩
  have hb2:=(he.block cb hl HH.out.ncb).trans HH.out.blk
  have hl2:=(gL hb2).1
  have d4:w2.cell? ⟨cb,4,none⟩=some (.int .i64 n):=cell_of_row w2 cb 4 _ _ _ hb2
  have hz2:w2.frozen? ⟨cb,4,none⟩=false:=by simp [World.frozen?,hb2]
  have HF:=kI (aI hb2 (aI hu he))
  clear hb2 hu he HR
  go_wp2_with fail
  obtain ⟨hb2,hu,he⟩:=HF.out
  exact bodyPost_end (results_none rfl _ _ _) rfl ⟨rfl,HH.out.more hu he,he.cell _ _⟩
theorem StM.tight (h:StM S w cb x0 x1 x2 f0 c fo ob x6 x7 n col ro steps):StM (fun k=>S k∧k<w.heap.size) w cb x0 x1 x2 f0 c fo ob x6 x7 n col ro steps:=
 ⟨h.blk,h.map,fun hx=>h.ncb hx.1,fun hx=>h.nob hx.1,fun hx=>h.nf0 hx.1,h.row,h.uf.tight⟩
theorem StM.grow {T:Nat→Prop}(h:StM S w cb x0 x1 x2 f0 c fo ob x6 x7 n col ro steps) (hst:∀k,S k→T k) (h1:¬ T cb) (h2:¬ T ob) (h3:¬ T f0):StM T w cb x0 x1 x2 f0 c fo ob x6 x7 n col ro steps:=
 ⟨h.blk,h.map,h1,h2,h3,h.row,h.uf.more hst⟩
theorem Else.old {T:Nat→Prop}(h:Else T w w') (ht:∀k,T k→S k∨w.heap.size≤k):Else S w w':=
 ⟨h.os,h.tape,h.output,h.size,fun k hk hs=>h.block k hk fun hx=>(ht k hx).elim hs (by omega)⟩
theorem add_new (blk:w.heap[cb]? = some (Obj.cells #[x0,x1,x2,.slice none 0 0,.int .i64 0,.map (some ob),x6,x7] 150)) (map:MapF (fun _=>none) 0 0 ob w):
  Calls Tryz.prog 133 #[.pointer (some ⟨cb,3,none⟩)] w fun e w'=>e = .returned (.tuple #[])∧(∃f0 c fo,w.heap.size≤f0∧StM (fun k=>w.heap.size≤k∧k≠f0) w' cb x0 x1 x2 f0 c fo ob x6 x7 1 (fun j=>j) (fun j=>j) 0)∧Else (fun k=>k=cb) w w':=by
 have HR:=new_in w 0 (by omega)
 have hl:=(gL blk).1
 have c4:w.cell? ⟨cb,4,none⟩=some (.int .i64 0):=cell_of_row w cb 4 _ _ _ blk
 have hol:=map.lt
 have hoc:ob≠cb:=fun e=>by
  obtain ⟨_,_,⟨_,_,hm,_⟩,_⟩:=map
  rw [e,blk] at hm
  cases hm
 have HM:=kI (aI blk map)
 clear blk map
 go_enter Tryz.func133,Tryz.ntmps133
 go_wp2_with fail
 refine HR.mono ?_
 rintro e w1 ⟨rfl,hu,hB⟩
 have hb1:=(hB.block cb hl).trans HM.out.1
 have c3:w1.cell? ⟨cb,3,none⟩=some (.slice none 0 0):=cell_of_row w1 cb 3 _ _ _ hb1
 obtain ⟨cp,w2,hrun,hown,hgr⟩:=app_for w1 w.heap.size
 have hl1:cb<w1.heap.size:=Nat.lt_of_lt_of_le hl hB.size
 have hE2:Else (fun _=>False) w1 w2:=(Else.alloc _ w1 _).trans (Else.grown hgr fun k hk=>by cases hk)
 have hb2:=(hE2.block cb hl1 id).trans hb1
 have hl2:=(gL hb2).1
 have hz2:w2.frozen? ⟨cb,3,none⟩=false:=by simp [World.frozen?,hb2]
 have e3:w2.cell? ⟨cb,3,none⟩=some (.slice none 0 0):=cell_of_row w2 cb 3 _ _ _ hb2
 have HN:=kI (aI hu (aI hB (aI hown (aI hE2 hb2))))
 clear hu hB hb1 hown hgr hE2 hb2 HR
 go_upto_region 3 with fail
 refine wp_world (fun V=>StM (fun k=>w.heap.size≤k∧k<w1.heap.size) V cb x0 x1 x2 (w1.heap.size+1) cp w.heap.size ob x6 x7 0 (fun j=>j) (fun j=>j) 0∧Else (fun k=>k=cb) w V) ?_ ?_
 ·obtain ⟨hu,hB,hown,hE2,hb2⟩:=HN.out
  have hE3:=hE2.cell (cb:=cb) 3 (.slice (some ⟨w1.heap.size+1,0,none⟩) 1 cp)
  have hE1:Else (fun k=>k=cb) w w1:=Else.of_below hB
  have hfc:w1.heap.size+1≠cb:=by omega
  refine ⟨⟨heap_setCell_same w2 cb 3 _ _ _ hb2,(HM.out.2.block (hE1.block ob hol hoc)).block (hE3.block ob (Nat.lt_of_lt_of_le hol hB.size) (by rintro (h|h);exact h;exact hoc h)),by omega,by omega,by omega,?_,?_⟩,hE1.trans (hE3.mono fun k hk=>hk.elim False.elim id)⟩
  ·exact own_else hown (Else.set (S:=fun k=>k=cb) w2 (p:=⟨cb,3,none⟩) rfl _) (fun k hk=>by cases hk;exact hfc)
  ·exact hu.keep hE3 fun k hk e=>e.elim id (by omega)
 rintro V ⟨hs,hE⟩
 have hw1:=HN.out.2.1.size
 clear c4 c3 hrun hl1 hl2 hz2 e3 HN HM hoc
 obtain ⟨hlV,c3,c4,_,r0⟩:=hs.cells
 have hf0:w1.heap.size+1<V.heap.size:=(hs.row.lt _ rfl).2
 have HR:=add_uf (w:=V.drew) (hs.uf.below (Below.refl _ V).drew) (by omega) 0 (fun k hk=>by omega)
 have HS:=kI (aI hs (aI hE (aI hf0 (aI hw1 (aI hol hl)))))
 clear hl hol hw1
 have q1:Int.tdiv 0 1048576=0:=by decide
 clear hs hE hf0
 go_region_with (go_at_call 148;refine HR.mono ?_;rintro e w3 ⟨rfl,hu,he⟩)
 all_goals
  obtain ⟨hs,hE,hf0,hw1,hol,hl⟩:=HS.out
  have he:Else (fun k=>w.heap.size≤k∧k<w1.heap.size) V w3:=⟨he.os,he.tape,he.output,he.size,he.block⟩
  have hb2:=(he.block cb hlV hs.ncb).trans hs.blk
  have hl2:=(gL hb2).1
  have d4:w3.cell? ⟨cb,4,none⟩=some (.int .i64 0):=cell_of_row w3 cb 4 _ _ _ hb2
  have hz2:w3.frozen? ⟨cb,4,none⟩=false:=by simp [World.frozen?,hb2]
  have HF:=kI (aI hb2 (aI hu he))
  clear hb2 hu he HR hs hE hf0 hw1 hol hl
  go_wp2_with fail
  obtain ⟨hs,hE,hf0,hw1,hol,hl⟩:=HS.out
  obtain ⟨_,hu,he⟩:=HF.out
  rw [upd_id] at hu
  exact bodyPost_end (results_none rfl _ _ _) rfl ⟨rfl,⟨_,_,_,Nat.le_trans hw1 (Nat.le_succ _),(hs.more hu he).grow (fun k hk=>by omega) (by omega) (by omega) (by simp)⟩,(((hE.mono fun k hk=>.inr hk).trans (he.cell 4 _)).old fun k hk=>by omega)⟩
end
end Go.Proofs.YtmamdiggjghjkaaGreatDoor.Un
