/- Bytes of two texts in a row. -/
import Derived.Test.YtlifkfihpmkffaaLexP
namespace Go.Proofs.Ytlifkfihpmkffaa

theorem bs_cat (a b : ByteArray) : bs (a ++ b) = bs a ++ bs b := by
  unfold bs
  rw [ByteArray.data_append, Array.toList_append, List.map_append]
end Go.Proofs.Ytlifkfihpmkffaa
