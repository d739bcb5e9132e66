/- strings.Clone. -/
import Derived.Test.YtmdhlaccioaomaaG11
import Derived.Test.YtmdhlaccioaomaaG05
namespace Go.Proofs.Ytmdhlaccioaomaa
open Go.RowKit Go.Maps
attribute [local go_sem ↓] Go.wp_at_zero Go.wp_at_succ

set_option maxRecDepth 8000 in
theorem sclone_any (s : ByteArray) (w : World) (hs : s.size ≤ 281474976710656) : Calls Try.prog 22 #[.string s] w fun e w' => e = .returned (.string s) ∧ Below w.heap.size w w' := by
  have H0 : Hid (Calls Try.prog 37 #[.string s] w _) := Try.stringslite_Clone s w hs
  go_enter Try.func22, Try.ntmps22
  go_wp2_with fail
  refine H0.out.mono ?_
  rintro e w2 ⟨rfl, hb⟩
  go_wp2
  go_ret
  exact ⟨rfl, hb⟩
end Go.Proofs.Ytmdhlaccioaomaa
