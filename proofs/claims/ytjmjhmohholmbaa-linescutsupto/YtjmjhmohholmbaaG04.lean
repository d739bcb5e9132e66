/- A disk in memory: labels and inodes that are changed, that come and go. -/
import Derived.Test.YtjmjhmohholmbaaG03
namespace Go.Proofs.Ytjmjhmohholmbaa
open Go.RowKit Go.Maps Sf

section
variable {P : Nat → Prop} {w u : World} {B : Nat} {d : Dk} {L : Lay}
end
end Go.Proofs.Ytjmjhmohholmbaa
