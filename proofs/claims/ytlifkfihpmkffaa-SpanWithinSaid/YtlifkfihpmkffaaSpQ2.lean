/- The same region where nothing was left over. -/
import Derived.Test.YtlifkfihpmkffaaSpQ1
namespace Go.Proofs.Ytlifkfihpmkffaa
open Go.RowKit

set_option maxHeartbeats 4000000 in
set_option maxRecDepth 1000000 in
theorem rm18_nil (w5 : World) (Q : Exit → Act → World → Prop) (g : Nat) (a1 a2 : Int) (t0 t1 t2 t3 t4 t7 t8 t10 t11 t12 t13 t14 t15 t16 t17 t18 t19 t20 t21 t22 t23 t24 t25 t26 t27 t28 t29 t30 t31 t32 t33 t34 t35 t36 t37 t38 t39 t40 t41 t42 t43 t44 t45 t46 t47 t48 t49 t50 t51 t52 t53 t54 t55 t56 t57 t58 t59 t60 t61 t62 t63 t64 t65 t66 t67 t68 t69 t70 t71 t72 t73 t74 t75 t76 t77 t78 t79 t80 t81 t82 t83 t84 t85 t86 t87 t88 t89 t90 : Value)
    (x0 : w5.cell? ⟨g, 0, none⟩ = some (.int .i64 a1)) (x1 : w5.cell? ⟨g, 1, none⟩ = some (.int .i64 a2)) (hg5 : g < w5.heap.size)
    (hQ : ∀ (V : Value) (W' : World) (u78 u79 u80 u81 u82 u83 u84 u85 u86 u87 u88 u89 : Value), W'.ownsRow w5.heap.size 25 2 V 1 (enc2 (a1, a2)) → Below w5.heap.size w5 W' → Q .normal ⟨#[t0, t1, t2, V, t4, .pointer (some ⟨g, 0, none⟩), .slice none 0 0, t7, t8, .int .i64 0, t10, t11, t12, t13, t14, t15, t16, t17, t18, t19, t20, t21, t22, t23, t24, t25, t26, t27, t28, t29, t30, t31, t32, t33, t34, t35, t36, t37, t38, t39, t40, t41, t42, t43, t44, t45, t46, t47, t48, t49, t50, t51, t52, t53, t54, t55, t56, t57, t58, t59, t60, t61, t62, t63, t64, t65, t66, t67, t68, t69, t70, t71, t72, t73, t74, t75, t76, t77, u78, u79, u80, u81, u82, u83, u84, u85, u86, u87, u88, u89, t90], []⟩ W') :
    Code.wp Try.prog rm18 Q ⟨#[t0, t1, t2, t3, t4, .pointer (some ⟨g, 0, none⟩), .slice none 0 0, t7, t8, .int .i64 0, t10, t11, t12, t13, t14, t15, t16, t17, t18, t19, t20, t21, t22, t23, t24, t25, t26, t27, t28, t29, t30, t31, t32, t33, t34, t35, t36, t37, t38, t39, t40, t41, t42, t43, t44, t45, t46, t47, t48, t49, t50, t51, t52, t53, t54, t55, t56, t57, t58, t59, t60, t61, t62, t63, t64, t65, t66, t67, t68, t69, t70, t71, t72, t73, t74, t75, t76, t77, t78, t79, t80, t81, t82, t83, t84, t85, t86, t87, t88, t89, t90], []⟩ w5 := by
  obtain ⟨i0, hi, hz0, hz1, hz2⟩ := info_parts spInfo
  have HLO : Hid (Rd w5 2 (.slice none 0 0) 0 []) := Lib.hid ⟨rfl, .inl ⟨rfl, _, _, rfl⟩⟩
  have HHI := HLO
  have HQ := Lib.hid hQ
  clear hQ
  have Oa : Hid (((w5.alloc (.cells #[] 25)).drew).ownsRow w5.heap.size 25 2 (.slice (some ⟨w5.heap.size, 0, none⟩) 0 0) 0 []) := Lib.hid ((own_none_yet w5 _ (Nat.le_refl _) _ _).drew)
  have Ba : Hid (Below w5.heap.size w5 ((w5.alloc (.cells #[] 25)).drew)) := Lib.hid (((Below.refl w5.heap.size w5).alloc (Nat.le_refl _) _).drew)
  have Ra : Hid (∀ b, Value.ownBlock (.slice (some ⟨w5.heap.size, 0, none⟩) 0 0) = some b → w5.heap.size ≤ b) := Lib.hid (by intro b hb; simp [Value.ownBlock] at hb; omega)
  have Ob : Hid ((((w5.alloc (.cells #[] 25)).alloc (.cells #[.int .i64 a1, .int .i64 a2] 25)).drew).ownsRow w5.heap.size 25 2 (.slice (some ⟨w5.heap.size, 0, none⟩) 0 0) 0 []) := Lib.hid (((own_none_yet w5 _ (Nat.le_refl _) _ _).alloc _).drew)
  have Bb : Hid (Below w5.heap.size w5 (((w5.alloc (.cells #[] 25)).alloc (.cells #[.int .i64 a1, .int .i64 a2] 25)).drew)) := Lib.hid ((((Below.refl w5.heap.size w5).alloc (Nat.le_refl _) _).alloc (by simp) _).drew)
  have Rb : Hid (∀ b, Value.ownBlock (.slice (some ⟨w5.heap.size, 0, none⟩) 0 0) = some b → w5.heap.size ≤ b) := Lib.hid (by intro b hb; simp [Value.ownBlock] at hb; omega)
  have Oc : Hid ((((w5.alloc (.cells #[.int .i64 a1, .int .i64 a2] 25)).alloc (.cells #[] 25)).drew).ownsRow w5.heap.size 25 2 (.slice (some ⟨w5.heap.size + 1, 0, none⟩) 0 0) 0 []) := Lib.hid (own_ne2 w5 a1 a2)
  have Bc : Hid (Below w5.heap.size w5 (((w5.alloc (.cells #[.int .i64 a1, .int .i64 a2] 25)).alloc (.cells #[] 25)).drew)) := Lib.hid ((((Below.refl w5.heap.size w5).alloc (Nat.le_refl _) _).alloc (by simp) _).drew)
  have Rc : Hid (∀ b, Value.ownBlock (.slice (some ⟨w5.heap.size + 1, 0, none⟩) 0 0) = some b → w5.heap.size ≤ b) := Lib.hid (by intro b hb; simp [Value.ownBlock] at hb; omega)
  have Sb : Hid (∀ w6, (((w5.alloc (.cells #[] 25)).alloc (.cells #[.int .i64 a1, .int .i64 a2] 25)).drew).grownBy w6 (Value.ownBlock (.slice (some ⟨w5.heap.size, 0, none⟩) 0 0)) → Rd w6 2 (.slice (some ⟨w5.heap.size + 1, 0, none⟩) 1 1) 1 [.int .i64 a1, .int .i64 a2]) := Lib.hid (by
    intro w6 hg
    have h := rd_new (w5.alloc (.cells #[] 25)) [.int .i64 a1, .int .i64 a2] 25 2 1 rfl (by unfold maxLen; omega)
    simp at h
    exact Rd.far (w := (((w5.alloc (.cells #[] 25)).alloc (.cells #[.int .i64 a1, .int .i64 a2] 25)).drew)) h (by simp) hg (by simp [Value.ownBlock]))
  have Sc : Hid (∀ w6, (((w5.alloc (.cells #[.int .i64 a1, .int .i64 a2] 25)).alloc (.cells #[] 25)).drew).grownBy w6 (Value.ownBlock (.slice (some ⟨w5.heap.size + 1, 0, none⟩) 0 0)) → Rd w6 2 (.slice (some ⟨w5.heap.size, 0, none⟩) 1 1) 1 [.int .i64 a1, .int .i64 a2]) := Lib.hid (by
    intro w6 hg
    exact Rd.far (w := (((w5.alloc (.cells #[.int .i64 a1, .int .i64 a2] 25)).alloc (.cells #[] 25)).drew)) (Rd.alloc (rd_new w5 [.int .i64 a1, .int .i64 a2] 25 2 1 rfl (by unfold maxLen; omega)) _) (by simp <;> omega) hg (by simp [Value.ownBlock]))
  have Sa : Hid (∀ w6 : World, Rd (w6.alloc (.cells #[.int .i64 a1, .int .i64 a2] 25)) 2 (.slice (some ⟨w6.heap.size, 0, none⟩) 1 1) 1 [.int .i64 a1, .int .i64 a2]) := Lib.hid (fun w6 => rd_new w6 [.int .i64 a1, .int .i64 a2] 25 2 1 rfl (by unfold maxLen; omega))
  have SZ : Hid (∀ w6 : World, w5.heap.size ≤ w6.heap.size → w5.heap.size ≤ (w6.alloc (.cells #[.int .i64 a1, .int .i64 a2] 25)).heap.size) := Lib.hid (fun w6 h => by simp <;> omega)
  have two : 0 < 2 := by omega
  have n1 : 0 + 0 ≤ maxLen := by unfold maxLen; omega
  have n2 : (0 + 0) * 16 ≤ 140737488355328 := by omega
  have n3 : 0 + 0 + 1 ≤ maxLen := by unfold maxLen; omega
  have n4 : (0 + 0 + 1) * 16 ≤ 140737488355328 := by omega
  have n5 : 0 + 0 + 1 + 0 ≤ maxLen := by unfold maxLen; omega
  have n6 : (0 + 0 + 1 + 0) * 16 ≤ 140737488355328 := by omega
  conv => arg 2; whnf
  go_region_held3 (fun w' => w'.cell? ⟨g, 0, none⟩ = some (.int .i64 a1) ∧ w'.cell? ⟨g, 1, none⟩ = some (.int .i64 a2)) (go_keep) ((first
    | (refine step_append_rd w7 (by rfl) (.tmp 85) (.tmp 88) 22 (by rfl) w5.heap.size 25 i0 _ 2 16 Try.underlying22 hi hz0 hz1 hz2 rfl two v2 (0 + 0 + 1) ([] ++ [] ++ [.int .i64 a1, .int .i64 a2]) (by rfl) hown2 _ 0 [] (by rfl) (HHI.out.below B7) (spCells_one []) n5 n6 B7.size ?_; intro v3 w8 hown3 hg3 _; have B8 : Below w5.heap.size w5 w8 := B7.grown hg3 B7.size (fun b hb => (hown2.lt b hb).1); have z0 : w8.cell? ⟨g, 0, none⟩ = some (.int .i64 a1) := (B8.cell (p := ⟨g, 0, none⟩) hg5).trans x0; have z1 : w8.cell? ⟨g, 1, none⟩ = some (.int .i64 a2) := (B8.cell (p := ⟨g, 1, none⟩) hg5).trans x1)
    | (refine step_append_rd (w6a.alloc (.cells #[.int .i64 a1, .int .i64 a2] 25)) (by rfl) (.tmp 82) (.tmp 84) 22 (by rfl) w5.heap.size 25 i0 _ 2 16 Try.underlying22 hi hz0 hz1 hz2 rfl two v1 (0 + 0) ([] ++ []) (by rfl) (hown1a.alloc _) (.slice (some ⟨w6a.heap.size, 0, none⟩) 1 1) 1 [.int .i64 a1, .int .i64 a2] (by rfl) (Sa.out w6a) (spCells_one [(a1, a2)]) n3 n4 (SZ.out w6a B6a.size) ?_; intro v2 w7 hown2 hg2 _; have B7 : Below w5.heap.size w5 w7 := (B6a.alloc B6a.size _).grown hg2 (SZ.out w6a B6a.size) (fun b hb => (hown1a.lt b hb).1); have z0 : w7.cell? ⟨g, 0, none⟩ = some (.int .i64 a1) := (B7.cell (p := ⟨g, 0, none⟩) hg5).trans x0; have z1 : w7.cell? ⟨g, 1, none⟩ = some (.int .i64 a2) := (B7.cell (p := ⟨g, 1, none⟩) hg5).trans x1)
    | (refine step_append_rd w6b (by rfl) (.tmp 82) (.tmp 84) 22 (by rfl) w5.heap.size 25 i0 _ 2 16 Try.underlying22 hi hz0 hz1 hz2 rfl two v1 (0 + 0) ([] ++ []) (by rfl) hown1b (.slice (some ⟨w5.heap.size + 1, 0, none⟩) 1 1) 1 [.int .i64 a1, .int .i64 a2] (by rfl) (Sb.out w6b hg1b) (spCells_one [(a1, a2)]) n3 n4 B6b.size ?_; intro v2 w7 hown2 hg2 _; have B7 : Below w5.heap.size w5 w7 := B6b.grown hg2 B6b.size (fun b hb => (hown1b.lt b hb).1); have z0 : w7.cell? ⟨g, 0, none⟩ = some (.int .i64 a1) := (B7.cell (p := ⟨g, 0, none⟩) hg5).trans x0; have z1 : w7.cell? ⟨g, 1, none⟩ = some (.int .i64 a2) := (B7.cell (p := ⟨g, 1, none⟩) hg5).trans x1)
    | (refine step_append_rd w6c (by rfl) (.tmp 82) (.tmp 84) 22 (by rfl) w5.heap.size 25 i0 _ 2 16 Try.underlying22 hi hz0 hz1 hz2 rfl two v1 (0 + 0) ([] ++ []) (by rfl) hown1c (.slice (some ⟨w5.heap.size, 0, none⟩) 1 1) 1 [.int .i64 a1, .int .i64 a2] (by rfl) (Sc.out w6c hg1c) (spCells_one [(a1, a2)]) n3 n4 B6c.size ?_; intro v2 w7 hown2 hg2 _; have B7 : Below w5.heap.size w5 w7 := B6c.grown hg2 B6c.size (fun b hb => (hown1c.lt b hb).1); have z0 : w7.cell? ⟨g, 0, none⟩ = some (.int .i64 a1) := (B7.cell (p := ⟨g, 0, none⟩) hg5).trans x0; have z1 : w7.cell? ⟨g, 1, none⟩ = some (.int .i64 a2) := (B7.cell (p := ⟨g, 1, none⟩) hg5).trans x1)
    | (refine step_append_rd ((w5.alloc (.cells #[] 25)).drew) (by rfl) (.tmp 78) (.tmp 81) 22 (by rfl) w5.heap.size 25 i0 _ 2 16 Try.underlying22 hi hz0 hz1 hz2 rfl two (.slice (some ⟨w5.heap.size, 0, none⟩) 0 0) 0 [] (by rfl) Oa.out (.slice none 0 0) 0 [] (by rfl) (HLO.out.below Ba.out) (spCells_one []) n1 n2 Ba.out.size ?_; intro v1 w6a hown1a hg1a _; have B6a : Below w5.heap.size w5 w6a := Ba.out.grown hg1a Ba.out.size Ra.out; have z0 : w6a.cell? ⟨g, 0, none⟩ = some (.int .i64 a1) := (B6a.cell (p := ⟨g, 0, none⟩) hg5).trans x0; have z1 : w6a.cell? ⟨g, 1, none⟩ = some (.int .i64 a2) := (B6a.cell (p := ⟨g, 1, none⟩) hg5).trans x1)
    | (refine step_append_rd (((w5.alloc (.cells #[] 25)).alloc (.cells #[.int .i64 a1, .int .i64 a2] 25)).drew) (by rfl) (.tmp 78) (.tmp 81) 22 (by rfl) w5.heap.size 25 i0 _ 2 16 Try.underlying22 hi hz0 hz1 hz2 rfl two (.slice (some ⟨w5.heap.size, 0, none⟩) 0 0) 0 [] (by rfl) Ob.out (.slice none 0 0) 0 [] (by rfl) (HLO.out.below Bb.out) (spCells_one []) n1 n2 Bb.out.size ?_; intro v1 w6b hown1b hg1b _; have B6b : Below w5.heap.size w5 w6b := Bb.out.grown hg1b Bb.out.size Rb.out; have z0 : w6b.cell? ⟨g, 0, none⟩ = some (.int .i64 a1) := (B6b.cell (p := ⟨g, 0, none⟩) hg5).trans x0; have z1 : w6b.cell? ⟨g, 1, none⟩ = some (.int .i64 a2) := (B6b.cell (p := ⟨g, 1, none⟩) hg5).trans x1)
    | (refine step_append_rd (((w5.alloc (.cells #[.int .i64 a1, .int .i64 a2] 25)).alloc (.cells #[] 25)).drew) (by rfl) (.tmp 78) (.tmp 81) 22 (by rfl) w5.heap.size 25 i0 _ 2 16 Try.underlying22 hi hz0 hz1 hz2 rfl two (.slice (some ⟨w5.heap.size + 1, 0, none⟩) 0 0) 0 [] (by rfl) Oc.out (.slice none 0 0) 0 [] (by rfl) (HLO.out.below Bc.out) (spCells_one []) n1 n2 Bc.out.size ?_; intro v1 w6c hown1c hg1c _; have B6c : Below w5.heap.size w5 w6c := Bc.out.grown hg1c Bc.out.size Rc.out; have z0 : w6c.cell? ⟨g, 0, none⟩ = some (.int .i64 a1) := (B6c.cell (p := ⟨g, 0, none⟩) hg5).trans x0; have z1 : w6c.cell? ⟨g, 1, none⟩ = some (.int .i64 a2) := (B6c.cell (p := ⟨g, 1, none⟩) hg5).trans x1)))
  all_goals
    refine HQ.out v3 w8 _ _ _ _ _ _ _ _ _ _ _ _ ?_ B8
    simpa [enc2] using hown3
end Go.Proofs.Ytlifkfihpmkffaa
