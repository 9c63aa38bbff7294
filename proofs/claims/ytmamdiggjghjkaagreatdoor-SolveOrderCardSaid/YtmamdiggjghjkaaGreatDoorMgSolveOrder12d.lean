/- Texts of one proof, one behind the other. -/
import Derived.Test.YtmamdiggjghjkaaGreatDoorMgSolveOrder12b
import Derived.Test.YtmamdiggjghjkaaGreatDoorMgSolveOrder12c
set_option linter.unusedVariables false
namespace Go.Proofs.YtmamdiggjghjkaaGreatDoor.Un
open Go.RowKit
theorem join_in2 {S:Nat→Prop}{w:World}{b n:Nat}{col ro:Nat→Nat}{steps:Int}(h:UFo S w b n col ro steps) (hst:0≤steps∧steps≤10000000000000) (x y:Nat) (hx:x<n) (hy:y<n):
  Calls Tryz.prog 160 #[.pointer (some ⟨b,0,none⟩),.int .i64 x,.int .i64 y] w (JoinPost2 S w b n col ro steps x y):=by
 obtain ⟨A,Z,X,par,sz,nx,rk,h1,h2,h3,h4,h5⟩:=h
 by_cases hro:ro x=ro y
 ·exact join_eq h1 h2 h3 h4 h5 hst x y hx hy hro
 ·by_cases hs:sz (ro x)<sz (ro y)
  ·exact join_lt h1 h2 h3 h4 h5 hst x y hx hy hro hs
  ·exact join_ge h1 h2 h3 h4 h5 hst x y hx hy hro hs
end Go.Proofs.YtmamdiggjghjkaaGreatDoor.Un
