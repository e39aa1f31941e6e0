/- All that a Back tells. -/
import Derived.Test.YthlpapaaodjcjaaB3
