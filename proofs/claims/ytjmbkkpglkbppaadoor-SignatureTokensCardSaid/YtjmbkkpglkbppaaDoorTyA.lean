/- The contracts of the answer's Size and of what guards the laws. -/
import Derived.Test.YtjmbkkpglkbppaaDoorRows
import Derived.Test.YtjmbkkpglkbppaaDoorTyM
import Derived.Deep.QuietTactic
import Derived.BigQuiet
namespace Go.Proofs.YtjmbkkpglkbppaaDoor
open Go.RowKit

theorem ret_int {k : IntKind} {a b : Int} (h : a = b) : Ending.returned (.int k a) = .returned (.int k b) := by rw [h]
theorem ret_bool {a b : Bool} (h : a = b) : Ending.returned (.bool a) = .returned (.bool b) := by rw [h]
end Go.Proofs.YtjmbkkpglkbppaaDoor
