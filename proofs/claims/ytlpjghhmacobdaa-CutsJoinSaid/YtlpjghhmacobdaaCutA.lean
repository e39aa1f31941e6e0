/- What package cuts answers: proved in CutA1 .. CutA3. -/
import Derived.Test.YtlpjghhmacobdaaCutA3
