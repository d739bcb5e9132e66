/- simfs's inodes: crash. -/
import Derived.Test.YtjmjhmohholmbaaG05
namespace Go.Proofs.Ytjmjhmohholmbaa
open Go.RowKit Go.Maps Sf
attribute [local go_sem ↓] Go.wp_at_zero Go.wp_at_succ

theorem FrP.undrew {Q : Nat → Prop} {w u : World} {q : Nat} (h : FrP Q (w.drewN q) u) : FrP Q w u := ⟨h.os, h.tape, h.output, h.size, h.block⟩
end Go.Proofs.Ytjmjhmohholmbaa
