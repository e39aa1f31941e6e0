/- What a Two's functions answer: all of it. -/
import Derived.Test.YtcoghcfhkndijaaJ6
namespace Go.Proofs.Ytcoghcfhkndijaa.Two
end Go.Proofs.Ytcoghcfhkndijaa.Two
