/- The contracts of span.Join, and of the answer's Join: the least span with all bytes of two. -/
import Derived.Test.YtlifkfihpmkffaaSpA
import Derived.Handy
namespace Go.Proofs.Ytlifkfihpmkffaa
open Go.RowKit

def joinSp (s t : Sp) : Sp := if s.1 < s.2 then (if t.1 < t.2 then (min s.1 t.1, max s.2 t.2) else s) else (if t.1 < t.2 then t else (0, 0))
def JoinPost (s t : Sp) (w : World) (e : Ending) (w' : World) : Prop := e = .returned (.agg #[.int .i64 (joinSp s t).1, .int .i64 (joinSp s t).2]) ∧ Below w.heap.size w w'

theorem join_fin {s t : Sp} {w w' : World} (x y : Int) (h : joinSp s t = (x, y)) (hb : Below w.heap.size w w') : JoinPost s t w (.returned (.agg #[.int .i64 x, .int .i64 y])) w' := by
  refine ⟨?_, hb⟩
  rw [h]
set_option maxHeartbeats 4000000 in
set_option maxRecDepth 100000 in
theorem join_any (a b c d : Int) (w : World) :
    Calls Try.prog 23 #[.agg #[.int .i64 a, .int .i64 b], .agg #[.int .i64 c, .int .i64 d]] w (JoinPost (a, b) (c, d) w) := by
  have h5 : joinSp (a, b) (c, d) = if a < b then (if c < d then (min a c, max b d) else (a, b)) else (if c < d then (c, d) else (0, 0)) := rfl
  have H5 := Lib.hid h5
  clear h5
  by_cases h1 : a < b <;> by_cases h2 : c < d
  all_goals
    go_enter Try.func23, Try.ntmps23
    go_wp2
  all_goals
    first
      | (refine bodyPost_ret (v := .agg #[.int .i64 c, .int .i64 d]) ?_ rfl (join_fin c d ?_ ?_)
         · (simp [results, Try.results23, go_sem]; done)
         · (rw [H5.out]; (repeat' split) <;> simp only [Prod.mk.injEq] <;> omega)
         · go_grown)
      | (refine bodyPost_ret (v := .agg #[.int .i64 c, .int .i64 b]) ?_ rfl (join_fin c b ?_ ?_)
         · (simp [results, Try.results23, go_sem]; done)
         · (rw [H5.out]; (repeat' split) <;> simp only [Prod.mk.injEq] <;> omega)
         · go_grown)
      | (refine bodyPost_ret (v := .agg #[.int .i64 a, .int .i64 d]) ?_ rfl (join_fin a d ?_ ?_)
         · (simp [results, Try.results23, go_sem]; done)
         · (rw [H5.out]; (repeat' split) <;> simp only [Prod.mk.injEq] <;> omega)
         · go_grown)
      | (refine bodyPost_ret (v := .agg #[.int .i64 a, .int .i64 b]) ?_ rfl (join_fin a b ?_ ?_)
         · (simp [results, Try.results23, go_sem]; done)
         · (rw [H5.out]; (repeat' split) <;> simp only [Prod.mk.injEq] <;> omega)
         · go_grown)
      | (refine bodyPost_ret (v := .agg #[.int .i64 0, .int .i64 0]) ?_ rfl (join_fin 0 0 ?_ ?_)
         · (simp [results, Try.results23, go_sem]; done)
         · (rw [H5.out]; (repeat' split) <;> simp only [Prod.mk.injEq] <;> omega)
         · go_grown)
set_option maxHeartbeats 4000000 in
set_option maxRecDepth 100000 in
theorem rjoin_any (a b c d : Int) (w : World) :
    Calls Try.prog 24 #[.agg #[.int .i64 a, .int .i64 b], .agg #[.int .i64 c, .int .i64 d]] w (JoinPost (a, b) (c, d) w) := by
  have h5 : joinSp (a, b) (c, d) = if a < b then (if c < d then (min a c, max b d) else (a, b)) else (if c < d then (c, d) else (0, 0)) := rfl
  have H5 := Lib.hid h5
  clear h5
  by_cases h1 : a < b <;> by_cases h2 : c < d
  all_goals
    go_enter Try.func24, Try.ntmps24
    go_wp2
  all_goals
    first
      | (refine bodyPost_ret (v := .agg #[.int .i64 c, .int .i64 d]) ?_ rfl (join_fin c d ?_ ?_)
         · (simp [results, Try.results24, go_sem]; done)
         · (rw [H5.out]; (repeat' split) <;> simp only [Prod.mk.injEq] <;> omega)
         · go_grown)
      | (refine bodyPost_ret (v := .agg #[.int .i64 c, .int .i64 b]) ?_ rfl (join_fin c b ?_ ?_)
         · (simp [results, Try.results24, go_sem]; done)
         · (rw [H5.out]; (repeat' split) <;> simp only [Prod.mk.injEq] <;> omega)
         · go_grown)
      | (refine bodyPost_ret (v := .agg #[.int .i64 a, .int .i64 d]) ?_ rfl (join_fin a d ?_ ?_)
         · (simp [results, Try.results24, go_sem]; done)
         · (rw [H5.out]; (repeat' split) <;> simp only [Prod.mk.injEq] <;> omega)
         · go_grown)
      | (refine bodyPost_ret (v := .agg #[.int .i64 a, .int .i64 b]) ?_ rfl (join_fin a b ?_ ?_)
         · (simp [results, Try.results24, go_sem]; done)
         · (rw [H5.out]; (repeat' split) <;> simp only [Prod.mk.injEq] <;> omega)
         · go_grown)
      | (refine bodyPost_ret (v := .agg #[.int .i64 0, .int .i64 0]) ?_ rfl (join_fin 0 0 ?_ ?_)
         · (simp [results, Try.results24, go_sem]; done)
         · (rw [H5.out]; (repeat' split) <;> simp only [Prod.mk.injEq] <;> omega)
         · go_grown)
end Go.Proofs.Ytlifkfihpmkffaa
