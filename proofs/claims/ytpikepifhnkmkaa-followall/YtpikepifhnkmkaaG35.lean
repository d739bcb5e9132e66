/- follow: raise, hold, lose, takeUp, Mark, Held. -/
import Derived.Test.YtpikepifhnkmkaaG34
import Derived.BigRegion
import Derived.Deep.RegionWith
namespace Go.Proofs.Ytpikepifhnkmkaa
open Go.RowKit Go.Maps Sf Ln Fo
attribute [local go_sem ↓] Go.wp_at_zero Go.wp_at_succ

theorem raise_fn {w : World} {F j : Nat} {x k : Int} (hc : w.cell? ⟨F, j, none⟩ = some (.int .i64 x)) (hf : w.frozen? ⟨F, j, none⟩ = false) (hx : 0 ≤ x ∧ x ≤ top) (hk : 0 ≤ k ∧ k ≤ 9223372036854775807) :
    Calls Try.prog 38 #[.pointer (some ⟨F, j, none⟩), .int .i64 k] w fun e w' => e = .returned (.tuple #[]) ∧ w' = (w.setCell ⟨F, j, none⟩ (.int .i64 (raise x k))).drew := by
  unfold top at hx
  obtain ⟨x1, x2⟩ := hx
  obtain ⟨k1, k2⟩ := hk
  have HE : Hid ((w.setCell ⟨F, j, none⟩ (.int .i64 (x + min k (4611686018427387904 - x)))).drew = (w.setCell ⟨F, j, none⟩ (.int .i64 (raise x k))).drew) := rfl
  have hm : -9223372036854775808 ≤ min k (4611686018427387904 - x) ∧ min k (4611686018427387904 - x) ≤ 4611686018427387904 := by omega
  have hm2 : x + min k (4611686018427387904 - x) ≤ 9223372036854775807 ∧ -9223372036854775808 ≤ x + min k (4611686018427387904 - x) := by omega
  go_enter Try.func38, Try.ntmps38
  go_region
  go_wp2
  first | go_end0 | (simp only [Exit.inBlock, Exit.then]; refine bodyPost_ret (results_none rfl _ _ _) rfl ?_) | refine bodyPost_ret (results_none rfl _ _ _) rfl ?_
  exact ⟨rfl, HE.out⟩
theorem drop_to {w : World} {B : Nat} {V : Value} {k : Mk} (h : MkAt w B V k) : Calls Try.prog 53 #[.pointer (some ⟨B, 0, none⟩)] w fun e w' => e = .returned (.tuple #[]) ∧ MTo B V k.drop w w' :=
  (drop_fn h.b h.o).mono fun e w' x => ⟨x.1, x.2.to rfl rfl rfl (by unfold Mk.held Mk.drop; split <;> rfl)⟩
theorem hold_fn {w : World} {F B : Nat} {V : Value} {f : Fo} (h : FoAt w F B V f) (n g : Int) :
    Calls Try.prog 39 #[.pointer (some ⟨F, 0, none⟩), .int .i64 n, .int .i64 g] w fun e w' => e = .returned (.tuple #[]) ∧ FTo F B V (f.hold n g) w w' := by
  have t1 : FTo F B V ⟨{ f.m with n := n }, f.nm, f.ck, f.k⟩ w (w.setCell ⟨F, 2, none⟩ (.int .i64 n)) := (FTo.refl h).set 2 _ rfl rfl
  have t2 : FTo F B V ⟨{ f.m with n := n, g := g }, f.nm, f.ck, f.k⟩ w ((w.setCell ⟨F, 2, none⟩ (.int .i64 n)).setCell ⟨F, 3, none⟩ (.int .i64 g)) := t1.set 3 _ rfl rfl
  have t3 : FTo F B V ⟨{ f.m with n := n, g := g, o := 0 }, f.nm, f.ck, f.k⟩ w (((w.setCell ⟨F, 2, none⟩ (.int .i64 n)).setCell ⟨F, 3, none⟩ (.int .i64 g)).setCell ⟨F, 4, none⟩ (.int .i64 0)) := t2.set 4 _ rfl rfl
  obtain ⟨w3, hw3⟩ : ∃ w3, ((w.setCell ⟨F, 2, none⟩ (.int .i64 n)).setCell ⟨F, 3, none⟩ (.int .i64 g)).setCell ⟨F, 4, none⟩ (.int .i64 0) = w3 := ⟨_, rfl⟩
  rw [hw3] at t3
  have HW : Hid (((w.setCell ⟨F, 2, none⟩ (.int .i64 n)).setCell ⟨F, 3, none⟩ (.int .i64 g)).setCell ⟨F, 4, none⟩ (.int .i64 0) = w3) := hw3
  have HT : Hid (FTo F B V ⟨{ f.m with n := n, g := g, o := 0 }, f.nm, f.ck, f.k⟩ w w3) := t3
  have c0 : w3.cell? ⟨F, 0, none⟩ = some (.pointer (some ⟨B, 0, none⟩)) := by obtain ⟨V1, a1, _⟩ := t3; exact a1.b.cells.1
  have HD : Hid (Calls Try.prog 53 #[.pointer (some ⟨B, 0, none⟩)] w3 fun e w' => e = .returned (.tuple #[]) ∧ ∃ V1, FoAt w3 F B V1 ⟨{ f.m with n := n, g := g, o := 0 }, f.nm, f.ck, f.k⟩ ∧ MTo B V1 f.k.drop w3 w') := by
    obtain ⟨V1, a1, _⟩ := t3
    exact (drop_to a1.m).mono fun e w' x => ⟨x.1, V1, a1, x.2⟩
  obtain ⟨_, c1, c2, c3, c4⟩ := h.b.cells
  have q2 := h.b.frozen 2
  have q3 := h.b.frozen 3
  have q4 := h.b.frozen 4
  clear h t1 t2 t3 hw3
  go_enter Try.func39, Try.ntmps39
  go_upto_region 1 with fail
  rw [HW.out]
  go_wp2_with fail
  refine HD.out.mono ?_
  rintro e w4 ⟨rfl, V1, a1, h4⟩
  have HE : Hid (FTo F B V (f.hold n g) w w4) := HT.out.maker (k := f.k.drop) (fun V2 a2 => by rw [a2.same a1.m]; exact h4) rfl
  clear HD a1 h4 c0
  go_wp2
  first | go_end0 | (simp only [Exit.inBlock, Exit.then]; refine bodyPost_ret (results_none rfl _ _ _) rfl ?_) | refine bodyPost_ret (results_none rfl _ _ _) rfl ?_
  exact ⟨rfl, HE.out⟩
theorem FoAt.same {w : World} {F B : Nat} {V V' : Value} {f f' : Fo} (h : FoAt w F B V f) (h' : FoAt w F B V' f') : V = V' := h.m.same h'.m
/-- a loss is raised -/
theorem FTo.raised {w : World} {F B : Nat} {V : Value} {f f' : Fo} (h : FoAt w F B V f) (j : Nat) (x : Int) (hk : f.k = f'.k) (hc : (foC B f).setIfInBounds j (.int .i64 x) = foC B f') : FTo F B V f' w (w.setCell ⟨F, j, none⟩ (.int .i64 x)).drew := by
  have t := (FTo.refl h).set j (.int .i64 x) hk hc
  exact t.after (drew_below _ 1)
theorem lose_fn {w : World} {F B C : Nat} {V : Value} {f : Fo} (h : FoAt w F B V f) (hk : f.Ok C) :
    Calls Try.prog 23 #[.pointer (some ⟨F, 0, none⟩)] w fun e w' => e = .returned (.tuple #[]) ∧ FTo F B V f.lose w w' := by
  have HR : Hid (Calls Try.prog 38 #[.pointer (some ⟨F, 6, none⟩), .int .i64 1] w _) := raise_fn h.b.losses.2.1 (h.b.frozen 6) hk.m.gn (k := 1) (by decide)
  have t1 : FTo F B V ⟨{ f.m with gn := raise f.m.gn 1 }, f.nm, f.ck, f.k⟩ w (w.setCell ⟨F, 6, none⟩ (.int .i64 (raise f.m.gn 1))).drew := FTo.raised h 6 _ rfl rfl
  obtain ⟨w1, hw1⟩ : ∃ w1, (w.setCell ⟨F, 6, none⟩ (.int .i64 (raise f.m.gn 1))).drew = w1 := ⟨_, rfl⟩
  rw [hw1] at t1
  have HW : Hid ((w.setCell ⟨F, 6, none⟩ (.int .i64 (raise f.m.gn 1))).drew = w1) := hw1
  have HT : Hid (FTo F B V ⟨{ f.m with gn := raise f.m.gn 1 }, f.nm, f.ck, f.k⟩ w w1) := t1
  have HD : Hid (Calls Try.prog 39 #[.pointer (some ⟨F, 0, none⟩), .int .i64 0, .int .i64 0] w1 fun e w' => e = .returned (.tuple #[]) ∧ FTo F B V f.lose w w') := by
    obtain ⟨V1, a1, _⟩ := id t1
    exact (hold_fn a1 0 0).mono fun e w' x => ⟨x.1, HT.out.then fun V2 a2 => by rw [a2.same a1]; exact x.2⟩
  clear h t1 hw1 hk
  go_enter Try.func23, Try.ntmps23
  go_wp2_with fail
  refine HR.out.mono ?_
  rintro e w2 ⟨rfl, h2⟩
  rw [h2, HW.out]
  clear h2 HR
  go_wp2_with fail
  refine HD.out.mono ?_
  rintro e w4 ⟨rfl, h4⟩
  have HE : Hid (FTo F B V f.lose w w4) := h4
  clear HD h4
  go_wp2
  first | go_end0 | (simp only [Exit.inBlock, Exit.then]; refine bodyPost_ret (results_none rfl _ _ _) rfl ?_) | refine bodyPost_ret (results_none rfl _ _ _) rfl ?_
  exact ⟨rfl, HE.out⟩
end Go.Proofs.Ytpikepifhnkmkaa
