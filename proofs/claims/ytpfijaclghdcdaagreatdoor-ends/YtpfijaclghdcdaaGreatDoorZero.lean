/- The tree's zero value as a constant, where the translation has none. -/
import Derived.Test.YtpfijaclghdcdaaGreatDoorProg
import Derived.WalkKit
namespace Go.Proofs.YtpfijaclghdcdaaGreatDoor
open Go.RowKit
end Go.Proofs.YtpfijaclghdcdaaGreatDoor
