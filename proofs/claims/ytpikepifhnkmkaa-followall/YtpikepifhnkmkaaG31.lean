/- lines: the functions but Feed. -/
import Derived.Test.YtpikepifhnkmkaaG30
namespace Go.Proofs.Ytpikepifhnkmkaa
open Go.RowKit Go.Maps Ln
attribute [local go_sem ↓] Go.wp_at_zero Go.wp_at_succ

theorem held_fn {w : World} {B : Nat} {V : Value} {x y z : Int} {l : List UInt8} (h : MkB w B V x y z) (ho : OwnB w V l) :
    Calls Try.prog 34 #[.pointer (some ⟨B, 0, none⟩)] w fun e w' => e = .returned (.int .i64 (l.length : Nat)) ∧ w' = w := by
  obtain ⟨va, vc, rfl, h1, h2⟩ := ho.form
  obtain ⟨c0, _⟩ := h.cells
  obtain ⟨n, hn⟩ : ∃ n, l.length = n := ⟨_, rfl⟩
  rw [hn] at c0 h1 ⊢
  clear h ho hn
  go_enter Try.func34, Try.ntmps34
  go_wp2
  go_ret
  exact ⟨rfl, rfl⟩
theorem begun_fn {w : World} {B : Nat} {V : Value} {x y z : Int} (h : MkB w B V x y z) :
    Calls Try.prog 58 #[.pointer (some ⟨B, 0, none⟩)] w fun e w' => e = .returned (.int .i64 x) ∧ w' = w := by
  obtain ⟨_, c1, _⟩ := h.cells
  clear h
  go_enter Try.func58, Try.ntmps58
  go_wp2
  go_ret
  exact ⟨rfl, rfl⟩
theorem text_fn {w : World} {B : Nat} {V : Value} {x y z : Int} {l : List UInt8} (h : MkB w B V x y z) (ho : OwnB w V l) :
    Calls Try.prog 71 #[.pointer (some ⟨B, 0, none⟩)] w fun e w' => e = .returned (.string ⟨l.toArray⟩) ∧ w' = w := by
  obtain ⟨c0, _⟩ := h.cells
  have hcv := conv_uv (owns_lat ho)
  clear h ho
  go_enter Try.func71, Try.ntmps71
  go_wp2
  go_ret
  exact ⟨rfl, rfl⟩
theorem tooLong_fn {w : World} {B : Nat} {V : Value} {x y z : Int} (h : MkB w B V x y z) :
    Calls Try.prog 69 #[.pointer (some ⟨B, 0, none⟩)] w fun e w' => e = .returned (.bool (decide (y < x))) ∧ ∃ q, w' = w.drewN q := by
  obtain ⟨_, c1, c2, _⟩ := h.cells
  clear h
  go_enter Try.func69, Try.ntmps69
  go_wp2_with fail
  go_quiet (fail)
  have HE : Hid (∃ q, w.drewN nq = w.drewN q) := ⟨nq, rfl⟩
  go_wp2
  go_ret
  exact ⟨rfl, HE.out⟩
theorem letGo_fn {w : World} {B : Nat} {V : Value} {x y z : Int} (h : MkB w B V x y z) :
    Calls Try.prog 62 #[.pointer (some ⟨B, 0, none⟩)] w fun e w' => e = .returned (.tuple #[]) ∧ MPost B V x y z [] w w' := by
  have HE : Hid (MPost B V x y z [] w (w.setCell ⟨B, 0, none⟩ (.slice none 0 0))) := ⟨_, h.put0 _, owns_nil _ 0 5, fun b hb => (by cases hb), (FrP.refl _ w).set (fun _ => .inl rfl) 0 _⟩
  obtain ⟨c0, _⟩ := h.cells
  have q0 := h.frozen 0
  clear h
  go_enter Try.func62, Try.ntmps62
  go_wp2
  first | go_end0 | (simp only [Exit.inBlock, Exit.then]; refine bodyPost_ret (results_none rfl _ _ _) rfl ?_) | refine bodyPost_ret (results_none rfl _ _ _) rfl ?_
  exact ⟨rfl, HE.out⟩
theorem mk_app {w w' : World} {B : Nat} {V V' : Value} {x y z : Int} {l l' : List UInt8} (h : MkB w B V x y z) (ho : OwnB w V l) (hg : w.grownBy w' V.ownBlock) (ho' : OwnB w' V' l') (hh : Here w V V') :
    Hid (MPost B V x y z l' w (w'.setCell ⟨B, 0, none⟩ V')) ∧ w'.frozen? ⟨B, 0, none⟩ = false ∧ w'.cell? ⟨B, 0, none⟩ = some V := by
  have hb' : MkB w' B V x y z := h.same (hg.block B h.lt (fun e => absurd (TyB.ne (ho.ty e.symm).1 h.ty) (by decide)))
  exact ⟨⟨V', hb'.put0 V', own_set ho' hb' 0 V', hh, FrP.set ⟨hg.os, hg.tape, hg.output, hg.size, fun k hk hn => hg.block k hk (fun e => hn (.inr e.symm))⟩ (fun _ => .inl rfl) 0 V'⟩, hb'.frozen 0, hb'.cells.1⟩
theorem lay_fn {w : World} {B : Nat} {V Y : Value} {x y z : Int} {l b : List UInt8} (h : MkB w B V x y z) (ho : OwnB w V l) (hY : LAt w Y (uv b)) (hl : l.length + b.length ≤ 4096) :
    Calls Try.prog 70 #[.pointer (some ⟨B, 0, none⟩), Y] w fun e w' => e = .returned (.tuple #[]) ∧ MPost B V x y z (l ++ b) w w' := by
  have HB : Hid (MkB w B V x y z) := h
  have HO : Hid (OwnB w V l) := ho
  have HY : Hid (LAt w Y (uv b)) := hY
  have HL : Hid (l.length + b.length ≤ 4096) := hl
  obtain ⟨va, vc, rfl, hv1, hv2⟩ := ho.form
  obtain ⟨ya, yc, rfl, hy1, hy2, _⟩ := hY
  rw [uv_len] at HY hy1 ⊢
  obtain ⟨c0, _⟩ := h.cells
  have q0 := h.frozen 0
  obtain ⟨n, hn⟩ : ∃ n, l.length = n := ⟨_, rfl⟩
  obtain ⟨lb, hlb⟩ : ∃ lb, b.length = lb := ⟨_, rfl⟩
  have HN : Hid (l.length = n ∧ b.length = lb) := ⟨hn, hlb⟩
  have HV : Hid (w.ownsRow 0 5 1 (.slice va n vc) n (uv l)) := by have := ho; unfold OwnB at this; rw [hn] at this; exact this
  rw [hn] at c0 hv1 HB HO hl
  rw [hlb] at HY hy1 hl
  rw [hn, hlb]
  clear h ho hn hlb
  go_enter Try.func70, Try.ntmps70
  go_wp2_with (refine wpList_append_lat rfl (.tmp 8) (.tmp 9) rfl (.int .u8 0) 1 (by kernel_rfl) infB rfl 0 _ n (uv l) rfl HV.out _ (uv b) rfl HY.out (uv_one b) (by rw [uv_len, HN.out.2]; unfold maxLen; omega) (by rw [uv_len, HN.out.2]; omega) (Nat.zero_le _) ?_; intro V' w' ho' hgr hnl hh; rw [uv_len, HN.out.2] at ho'; obtain ⟨v1, v2, rfl⟩ := own_form ho'; obtain ⟨HE, q0', c0'⟩ := mk_app (l' := l ++ b) HB.out HO.out hgr (by unfold OwnB; rw [uv_app, List.length_append, HN.out.1, HN.out.2]; exact ho') hh; clear hnl ho' hgr hh c0 q0)
  first | go_end0 | (simp only [Exit.inBlock, Exit.then]; refine bodyPost_ret (results_none rfl _ _ _) rfl ?_) | refine bodyPost_ret (results_none rfl _ _ _) rfl ?_
  exact ⟨rfl, HE.out⟩
theorem drop_fn {w : World} {B : Nat} {V : Value} {x y z : Int} {l : List UInt8} (h : MkB w B V x y z) (ho : OwnB w V l) :
    Calls Try.prog 53 #[.pointer (some ⟨B, 0, none⟩)] w fun e w' => e = .returned (.tuple #[]) ∧ MPost B V 0 y z [] w w' := by
  have HC : Hid (Calls Try.prog 62 #[.pointer (some ⟨B, 0, none⟩)] (w.setCell ⟨B, 1, none⟩ (.int .i64 0)) _) := letGo_fn (h.put1 0)
  have HE : Hid (∀ u, MPost B V 0 y z [] (w.setCell ⟨B, 1, none⟩ (.int .i64 0)) u → MPost B V 0 y z [] w u) := fun u hu => MPost.trans ⟨h.put1 0, own_set ho h 1 _, fun _ hb => .inl hb, (FrP.refl _ w).set (fun _ => .inl rfl) 1 _⟩ hu
  obtain ⟨_, c1, _⟩ := h.cells
  have q1 := h.frozen 1
  clear h ho
  go_enter Try.func53, Try.ntmps53
  go_wp2_with fail
  refine HC.out.mono ?_
  rintro e u ⟨rfl, hu⟩
  have HU : Hid (MPost B V 0 y z [] w u) := HE.out u hu
  clear hu HE HC
  go_wp2
  first | go_end0 | (simp only [Exit.inBlock, Exit.then]; refine bodyPost_ret (results_none rfl _ _ _) rfl ?_) | refine bodyPost_ret (results_none rfl _ _ _) rfl ?_
  exact ⟨rfl, HU.out⟩
end Go.Proofs.Ytpikepifhnkmkaa
