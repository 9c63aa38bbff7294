/- A round of the law LexBack's loop: the first token, and each further one. -/
import Derived.Test.YtlifkfihpmkffaaLexT0
import Derived.Deep.QuietTactic
import Derived.BigQuiet
namespace Go.Proofs.Ytlifkfihpmkffaa
open Go.RowKit
set_option linter.unusedVariables false

set_option maxHeartbeats 4000000 in
set_option maxRecDepth 1000000 in
theorem lb_first (s : ByteArray) (b1 o1 c1 b2 o2 c2 n : Nat) (w3 wr : World) (K : Act → World → Prop) (Q' : Exit → Act → World → Prop) (u2 u4 u5 u7 u8 u10 u11 u12 u13 u14 u15 u16 u17 u18 u19 u20 u21 u22 u23 u24 u25 u26 u27 u28 u29 u30 u31 u32 u33 u34 u35 u36 u37 u38 u39 u40 u41 u42 u43 u44 u45 u46 u47 u48 u49 u50 u51 u52 u53 u54 u55 u56 u57 u58 u59 u60 u61 u62 u63 u64 u65 u66 u67 u68 u69 u70 u71 u72 u73 u74 u75 u76 u77 u78 u79 u80 u81 u82 u83 u84 u85 u86 u87 u88 u89 u90 u91 u92 u93 u94 u95 u96 u97 u98 u99 u100 u101 u102 u103 u104 u105 u106 u107 u108 u109 u110 u111 u112 u113 u114 u115 u116 u117 u118 u119 u120 u121 u122 u123 u124 u125 u126 u127 u128 u129 u130 u131 u132 u133 u134 u135 u136 u137 u138 u139 : Value) (t0 : Int) (p q : Nat) (hs : s.size ≤ 400) (hn : n ≤ 400)
    (lt1 : b1 < w3.heap.size) (lt2 : b2 < w3.heap.size) (hbw : Below w3.heap.size w3 wr) (hz1 : p ≤ q) (hz2 : q ≤ s.size)
    (d0 : wr.cell? ⟨b1, o1, none⟩ = some (.int .i64 t0)) (d1 : wr.cell? ⟨b1, o1 + 1, none⟩ = some (.string (s.extract p q))) (d2 : wr.cell? ⟨b1, o1 + 2, none⟩ = some (.int .i64 p)) (d3 : wr.cell? ⟨b1, o1 + 3, none⟩ = some (.int .i64 q))
    (f0 : wr.cell? ⟨b2, o2, none⟩ = some (.int .i64 t0)) (f1 : wr.cell? ⟨b2, o2 + 1, none⟩ = some (.string (s.extract p q))) :
    Code.wp Try.prog lbBody (Exit.then (fun a' w' => LBI s b1 o1 c1 b2 o2 c2 n w3 a' w' ∧ lbMu n a' < lbMu n ⟨#[.string s, undef, u2, .slice (some ⟨b1, o1, none⟩) (n + 1) c1, u4, u5, .slice (some ⟨b2, o2, none⟩) (n + 1) c2, u7, u8, .int .i64 ((0 : Nat) : Int), u10, u11, u12, u13, u14, u15, u16, u17, u18, u19, u20, u21, u22, u23, u24, u25, u26, u27, u28, u29, u30, u31, u32, u33, u34, u35, u36, u37, u38, u39, u40, u41, u42, u43, u44, u45, u46, u47, u48, u49, u50, u51, u52, u53, u54, u55, u56, u57, u58, u59, u60, u61, u62, u63, u64, u65, u66, u67, u68, u69, u70, u71, u72, u73, u74, u75, u76, u77, u78, u79, u80, u81, u82, u83, u84, u85, u86, u87, u88, u89, u90, u91, u92, u93, u94, u95, u96, u97, u98, u99, u100, u101, u102, u103, u104, u105, u106, u107, u108, u109, u110, u111, u112, u113, u114, u115, u116, u117, u118, u119, u120, u121, u122, u123, u124, u125, u126, u127, u128, u129, u130, u131, u132, u133, u134, u135, u136, u137, u138, u139], []⟩) (Exit.inBlock 0 (Exit.then K Q'))) ⟨#[.string s, undef, u2, .slice (some ⟨b1, o1, none⟩) (n + 1) c1, u4, u5, .slice (some ⟨b2, o2, none⟩) (n + 1) c2, u7, u8, .int .i64 ((0 : Nat) : Int), u10, u11, u12, u13, u14, u15, u16, u17, u18, u19, u20, u21, u22, u23, u24, u25, u26, u27, u28, u29, u30, u31, u32, u33, u34, u35, u36, u37, u38, u39, u40, u41, u42, u43, u44, u45, u46, u47, u48, u49, u50, u51, u52, u53, u54, u55, u56, u57, u58, u59, u60, u61, u62, u63, u64, u65, u66, u67, u68, u69, u70, u71, u72, u73, u74, u75, u76, u77, u78, u79, u80, u81, u82, u83, u84, u85, u86, u87, u88, u89, u90, u91, u92, u93, u94, u95, u96, u97, u98, u99, u100, u101, u102, u103, u104, u105, u106, u107, u108, u109, u110, u111, u112, u113, u114, u115, u116, u117, u118, u119, u120, u121, u122, u123, u124, u125, u126, u127, u128, u129, u130, u131, u132, u133, u134, u135, u136, u137, u138, u139], []⟩ wr := by
  have hsw := hbw.size
  have g1 : b1 < wr.heap.size := by omega
  have g2 : b2 < wr.heap.size := by omega
  have y1 : decide ((p : Int) < 0) = false := decide_eq_false (by omega)
  have y2 : decide ((q : Int) < (p : Int)) = false := decide_eq_false (by omega)
  have y3 : decide ((s.size : Int) < (q : Int)) = false := decide_eq_false (by omega)

  conv => arg 2; whnf
  go_wp2_with fail
  refine wp_region_quiet_lit (by kernel_rfl) (by kernel_rfl) ?_
  simp only [List.append_eq, List.cons_append, List.nil_append]
  repeat (any_goals (first | go_big_quiet_step (fail) | quiet_step (fail)))
  all_goals (refine wpQuiet_nil ?_; intro _ hw'; obtain ⟨nq, hw''⟩ := hw'; subst hw'')
  go_wp2_with fail
  refine ⟨?_, ?_⟩
  · unfold LBI
    repeat apply Exists.intro
    exact ⟨⟨1, by omega, by go_num, below_drewN (hbw.alloc hsw _) _⟩, rfl⟩
  · first | (simp [lbMu, intOf]; done) | (simp [lbMu, intOf]; omega)
set_option maxHeartbeats 4000000 in
set_option maxRecDepth 1000000 in
theorem lb_next (s : ByteArray) (b1 o1 c1 b2 o2 c2 n : Nat) (w3 wr : World) (K : Act → World → Prop) (Q' : Exit → Act → World → Prop) (j : Nat) (u2 u4 u5 u7 u8 u10 u11 u12 u13 u14 u15 u16 u17 u18 u19 u20 u21 u22 u23 u24 u25 u26 u27 u28 u29 u30 u31 u32 u33 u34 u35 u36 u37 u38 u39 u40 u41 u42 u43 u44 u45 u46 u47 u48 u49 u50 u51 u52 u53 u54 u55 u56 u57 u58 u59 u60 u61 u62 u63 u64 u65 u66 u67 u68 u69 u70 u71 u72 u73 u74 u75 u76 u77 u78 u79 u80 u81 u82 u83 u84 u85 u86 u87 u88 u89 u90 u91 u92 u93 u94 u95 u96 u97 u98 u99 u100 u101 u102 u103 u104 u105 u106 u107 u108 u109 u110 u111 u112 u113 u114 u115 u116 u117 u118 u119 u120 u121 u122 u123 u124 u125 u126 u127 u128 u129 u130 u131 u132 u133 u134 u135 u136 u137 u138 u139 : Value) (t0 : Int) (p q : Nat) (hs : s.size ≤ 400) (hn : n ≤ 400)
    (lt1 : b1 < w3.heap.size) (lt2 : b2 < w3.heap.size) (hbw : Below w3.heap.size w3 wr) (hz1 : p ≤ q) (hz2 : q ≤ s.size)
    (hj : j + 1 < n + 1) (d0 : wr.cell? ⟨b1, o1 + (j + 1) * 4, none⟩ = some (.int .i64 t0)) (d1 : wr.cell? ⟨b1, o1 + (j + 1) * 4 + 1, none⟩ = some (.string (s.extract p q))) (d2 : wr.cell? ⟨b1, o1 + (j + 1) * 4 + 2, none⟩ = some (.int .i64 p)) (d3 : wr.cell? ⟨b1, o1 + (j + 1) * 4 + 3, none⟩ = some (.int .i64 q))
    (f0 : wr.cell? ⟨b2, o2 + (j + 1) * 4, none⟩ = some (.int .i64 t0)) (f1 : wr.cell? ⟨b2, o2 + (j + 1) * 4 + 1, none⟩ = some (.string (s.extract p q))) (q' : Nat) (hz3 : q' ≤ p) (d4 : wr.cell? ⟨b1, o1 + j * 4 + 3, none⟩ = some (.int .i64 q')) :
    Code.wp Try.prog lbBody (Exit.then (fun a' w' => LBI s b1 o1 c1 b2 o2 c2 n w3 a' w' ∧ lbMu n a' < lbMu n ⟨#[.string s, undef, u2, .slice (some ⟨b1, o1, none⟩) (n + 1) c1, u4, u5, .slice (some ⟨b2, o2, none⟩) (n + 1) c2, u7, u8, .int .i64 (((j + 1 : Nat) : Int)), u10, u11, u12, u13, u14, u15, u16, u17, u18, u19, u20, u21, u22, u23, u24, u25, u26, u27, u28, u29, u30, u31, u32, u33, u34, u35, u36, u37, u38, u39, u40, u41, u42, u43, u44, u45, u46, u47, u48, u49, u50, u51, u52, u53, u54, u55, u56, u57, u58, u59, u60, u61, u62, u63, u64, u65, u66, u67, u68, u69, u70, u71, u72, u73, u74, u75, u76, u77, u78, u79, u80, u81, u82, u83, u84, u85, u86, u87, u88, u89, u90, u91, u92, u93, u94, u95, u96, u97, u98, u99, u100, u101, u102, u103, u104, u105, u106, u107, u108, u109, u110, u111, u112, u113, u114, u115, u116, u117, u118, u119, u120, u121, u122, u123, u124, u125, u126, u127, u128, u129, u130, u131, u132, u133, u134, u135, u136, u137, u138, u139], []⟩) (Exit.inBlock 0 (Exit.then K Q'))) ⟨#[.string s, undef, u2, .slice (some ⟨b1, o1, none⟩) (n + 1) c1, u4, u5, .slice (some ⟨b2, o2, none⟩) (n + 1) c2, u7, u8, .int .i64 (((j + 1 : Nat) : Int)), u10, u11, u12, u13, u14, u15, u16, u17, u18, u19, u20, u21, u22, u23, u24, u25, u26, u27, u28, u29, u30, u31, u32, u33, u34, u35, u36, u37, u38, u39, u40, u41, u42, u43, u44, u45, u46, u47, u48, u49, u50, u51, u52, u53, u54, u55, u56, u57, u58, u59, u60, u61, u62, u63, u64, u65, u66, u67, u68, u69, u70, u71, u72, u73, u74, u75, u76, u77, u78, u79, u80, u81, u82, u83, u84, u85, u86, u87, u88, u89, u90, u91, u92, u93, u94, u95, u96, u97, u98, u99, u100, u101, u102, u103, u104, u105, u106, u107, u108, u109, u110, u111, u112, u113, u114, u115, u116, u117, u118, u119, u120, u121, u122, u123, u124, u125, u126, u127, u128, u129, u130, u131, u132, u133, u134, u135, u136, u137, u138, u139], []⟩ wr := by
  have hsw := hbw.size
  have g1 : b1 < wr.heap.size := by omega
  have g2 : b2 < wr.heap.size := by omega
  have y1 : decide ((p : Int) < 0) = false := decide_eq_false (by omega)
  have y2 : decide ((q : Int) < (p : Int)) = false := decide_eq_false (by omega)
  have y3 : decide ((s.size : Int) < (q : Int)) = false := decide_eq_false (by omega)
  have y7 : decide ((0 : Int) < (j : Int) + 1) = true := decide_eq_true (by omega)
  have y8 : decide ((p : Int) < (q' : Int)) = false := decide_eq_false (by omega)
  have y9 : (j : Int) + 1 - 1 = (j : Int) := by omega
  conv => arg 2; whnf
  go_wp2_with fail
  refine wp_region_quiet_lit (by kernel_rfl) (by kernel_rfl) ?_
  simp only [List.append_eq, List.cons_append, List.nil_append]
  repeat (any_goals (first | go_big_quiet_step (fail) | quiet_step (fail)))
  all_goals (refine wpQuiet_nil ?_; intro _ hw'; obtain ⟨nq, hw''⟩ := hw'; subst hw'')
  go_wp2_with fail
  refine ⟨?_, ?_⟩
  · unfold LBI
    repeat apply Exists.intro
    exact ⟨⟨j + 1 + 1, by omega, by go_num, below_drewN (hbw.alloc hsw _) _⟩, rfl⟩
  · first | (simp [lbMu, intOf]; done) | (simp [lbMu, intOf]; omega)
end Go.Proofs.Ytlifkfihpmkffaa
