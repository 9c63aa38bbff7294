/- Texts of one proof, one behind the other. -/
import Derived.Test.YtbdckmnppeglfaaMgGraphAdds36
import Derived.Test.YtbdckmnppeglfaaMgGraphAdds26
/- GraphAdds, walked, and its arguments. -/

