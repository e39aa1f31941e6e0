/- All that a Back tells. -/
import Derived.Test.YtgdpelpepgpegaaB3
