/- A Walter, and literals. -/
import Derived.Test.YtmbglghpnloggaaR4
import Derived.Test.YtmbglghpnloggaaBc0
