/- Shifts: all that its functions answer. -/
import Derived.Test.YtgdpelpepgpegaaBb
import Derived.Test.YtgdpelpepgpegaaH8
namespace Go.Proofs.Ytgdpelpepgpegaa.Shf
end Go.Proofs.Ytgdpelpepgpegaa.Shf
