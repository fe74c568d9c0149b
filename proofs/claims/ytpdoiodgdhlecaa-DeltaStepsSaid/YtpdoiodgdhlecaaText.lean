/- Nothing of its own: Num alone is called here. -/
import Derived.Test.YtpdoiodgdhlecaaNum
import Derived.Lib.AppendStr
