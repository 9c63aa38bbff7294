/- Texts of one proof, one behind the other. -/
import Derived.Test.YtbdckmnppeglfaaMgGraphKeeps35
import Derived.Test.YtbdckmnppeglfaaMgGraphKeeps26
/- GraphKeeps, walked, and its arguments. -/

