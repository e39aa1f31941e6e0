/- A window: what its functions answer. -/
import Derived.Test.YtejokmnbijggcaaWinA4
