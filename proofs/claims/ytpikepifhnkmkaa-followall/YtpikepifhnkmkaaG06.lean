/- simfs's inodes: crash. -/
import Derived.Test.YtpikepifhnkmkaaG05
namespace Go.Proofs.Ytpikepifhnkmkaa
open Go.RowKit Go.Maps Sf
attribute [local go_sem ↓] Go.wp_at_zero Go.wp_at_succ

theorem IPost.trans {a n : Nat} {V V1 : Value} {f1 f2 : Ino} {w w3 w4 : World} (h : InoAt w3 a n f1 V1 ∧ (∀ b, V1.ownBlock = some b → V.ownBlock = some b ∨ w.heap.size ≤ b) ∧ FrP (fun k => k = a ∨ V.ownBlock = some k) w w3) (h4 : IPost a n V1 f2 w3 w4) : IPost a n V f2 w w4 := by
  obtain ⟨V2, g1, g2, g3⟩ := h4
  obtain ⟨h1, h2, h3⟩ := h
  refine ⟨V2, g1, fun b hb => ?_, h3.trans g3 (fun k hk hq => ?_)⟩
  · rcases g2 b hb with x | x
    · exact h2 b x
    · exact .inr (Nat.le_trans h3.size x)
  · rcases hq with x | x
    · exact .inl x
    · rcases h2 k x with y | y
      · exact .inr y
      · omega
theorem FrP.undrew {Q : Nat → Prop} {w u : World} {q : Nat} (h : FrP Q (w.drewN q) u) : FrP Q w u := ⟨h.os, h.tape, h.output, h.size, h.block⟩
theorem shorten_at {w : World} {a n : Nat} {f : Ino} {V : Value} (h : InoAt w a n f V) (hl : f.bs.length ≤ 1048576) (hls : f.ls ≤ 1048576) (hgen : f.gen < 4611686018427387904) {k : Nat} (hk : k ≤ f.bs.length) {z : Int} (hz : z = (k : Nat)) :
    Calls Try.prog 46 #[.pointer (some ⟨a, 0, none⟩), .int .i64 z] w fun e w' => e = .returned (.tuple #[]) ∧ IPost a n V (f.shorten k) w w' := by
  subst hz
  exact shorten_any h hl hls hgen hk
set_option maxRecDepth 8000 in
set_option maxHeartbeats 800000 in
theorem crash_any {w : World} {a n : Nat} {f : Ino} {V : Value} (h : InoAt w a n f V) (hl : f.bs.length ≤ 1048576) (hls : f.ls ≤ f.bs.length) (hgen : f.gen < 4611686018427387904) {k : Int} (hk : -9223372036854775808 ≤ k ∧ k ≤ 9223372036854775807) :
    Calls Try.prog 51 #[.pointer (some ⟨a, 0, none⟩), .int .i64 k] w fun e w' => e = .returned (.tuple #[]) ∧ IPost a n V (f.crash k) w w' := by
  have HI : Hid (InoAt w a n f V) := h
  obtain ⟨va, vc, rfl, hv1, hv2⟩ := h.v.form
  obtain ⟨c0, c1, c2, c3, c4⟩ := h.cells
  obtain ⟨ls, hls'⟩ : ∃ ls, f.ls = ls := ⟨_, rfl⟩
  rw [hls'] at c4 hls
  obtain ⟨df, hlf⟩ : ∃ df, f.bs.length = ls + df := ⟨f.bs.length - ls, by omega⟩
  have HLL : Hid (f.bs.length = ls + df ∧ f.ls = ls) := ⟨hlf, hls'⟩
  rw [hlf] at c3 hv1 hl HI ⊢
  clear h hlf hls' hls
  rcases (by omega : k < 0 ∨ 0 ≤ k) with hp | hp
  · have hm1 : k < 0 := hp
    have hm2 : ¬ (df : Int) < 0 := by omega
    have HST : Hid (f.stay k = 0) := by show _ = _; unfold Ino.stay; rw [HLL.out.1, HLL.out.2]; omega
    have HEND : Hid (f.crash k = (f.shorten (ls + 0)).sync) := by show _ = _; unfold Ino.crash; rw [HST.out, HLL.out.2]
    go_enter Try.func51, Try.ntmps51
    go_wp2_with fail
    go_quiet (fail)
    have HK2 : Hid (Below w.heap.size w (w.drewN nq)) := ⟨rfl, rfl, rfl, Nat.le_refl _, fun _ _ => rfl⟩
    have HC : Hid (Calls Try.prog 46 #[.pointer (some ⟨a, 0, none⟩), .int .i64 ((ls : Nat))] (w.drewN nq) _) := shorten_at (HI.out.keep (HK2.out.block a HI.out.lt) (fun b _ hl => HK2.out.block b hl)) (by rw [HLL.out.1]; exact hl) (by rw [HLL.out.2]; omega) hgen (k := ls + 0) (by rw [HLL.out.1]; omega) (by omega)
    have c3' : (w.drewN nq).cell? ⟨a, 3, none⟩ = some (.slice va (ls + df) vc) := c3
    have c4' : (w.drewN nq).cell? ⟨a, 4, none⟩ = some (.int .i64 (ls : Nat)) := c4
    go_wp2_with fail
    refine HC.out.mono ?_
    rintro e w3 ⟨rfl, HP⟩
    have HP : Hid (IPost a n (.slice va (ls + df) vc) (f.shorten (ls + 0)) (w.drewN nq) w3) := HP
    obtain ⟨V3, HI3, HV3, HF3⟩ := HP.out
    have HI3 : Hid (InoAt w3 a n (f.shorten (ls + 0)) V3) := HI3
    have HC2 : Hid (Calls Try.prog 47 #[.pointer (some ⟨a, 0, none⟩)] w3 _) := sync_any HI3.out
    have HE : Hid (∀ w4, IPost a n V3 (f.shorten (ls + 0)).sync w3 w4 → IPost a n (.slice va (ls + df) vc) (f.crash k) w w4) := fun w4 h4 => by rw [HEND.out]; exact IPost.trans ⟨HI3.out, HV3, HF3.undrew⟩ h4
    clear HP HV3 HF3 HI3 HC c3 c4 c3' c4'
    go_wp2_with fail
    refine HC2.out.mono ?_
    rintro e w4 ⟨rfl, h4⟩
    have HE2 : Hid (IPost a n (.slice va (ls + df) vc) (f.crash k) w w4) := HE.out w4 h4
    clear h4 HE HC2
    go_wp2
    first | go_end0 | (simp only [Exit.inBlock, Exit.then]; refine bodyPost_ret (results_none rfl _ _ _) rfl ?_) | refine bodyPost_ret (results_none rfl _ _ _) rfl ?_
    exact ⟨rfl, HE2.out⟩
  · obtain ⟨kk, rfl⟩ : ∃ kk : Nat, k = (kk : Int) := ⟨k.toNat, by omega⟩
    rcases Nat.lt_or_ge df kk with hp2 | hp2
    · have hm1 : ¬ (kk : Int) < 0 := by omega
      have hm2 : (df : Int) < (kk : Int) := by omega
      have HST : Hid (f.stay (kk : Int) = df) := by show _ = _; unfold Ino.stay; rw [HLL.out.1, HLL.out.2]; omega
      have HEND : Hid (f.crash (kk : Int) = (f.shorten (ls + df)).sync) := by show _ = _; unfold Ino.crash; rw [HST.out, HLL.out.2]
      go_enter Try.func51, Try.ntmps51
      go_wp2_with fail
      go_quiet (fail)
      have HK2 : Hid (Below w.heap.size w (w.drewN nq)) := ⟨rfl, rfl, rfl, Nat.le_refl _, fun _ _ => rfl⟩
      have HC : Hid (Calls Try.prog 46 #[.pointer (some ⟨a, 0, none⟩), .int .i64 ((ls : Int) + ((ls : Int) + (df : Int) - (ls : Int)))] (w.drewN nq) _) := shorten_at (HI.out.keep (HK2.out.block a HI.out.lt) (fun b _ hl => HK2.out.block b hl)) (by rw [HLL.out.1]; exact hl) (by rw [HLL.out.2]; omega) hgen (k := ls + df) (by rw [HLL.out.1]; omega) (by omega)
      have c3' : (w.drewN nq).cell? ⟨a, 3, none⟩ = some (.slice va (ls + df) vc) := c3
      have c4' : (w.drewN nq).cell? ⟨a, 4, none⟩ = some (.int .i64 (ls : Nat)) := c4
      go_wp2_with fail
      refine HC.out.mono ?_
      rintro e w3 ⟨rfl, HP⟩
      have HP : Hid (IPost a n (.slice va (ls + df) vc) (f.shorten (ls + df)) (w.drewN nq) w3) := HP
      obtain ⟨V3, HI3, HV3, HF3⟩ := HP.out
      have HI3 : Hid (InoAt w3 a n (f.shorten (ls + df)) V3) := HI3
      have HC2 : Hid (Calls Try.prog 47 #[.pointer (some ⟨a, 0, none⟩)] w3 _) := sync_any HI3.out
      have HE : Hid (∀ w4, IPost a n V3 (f.shorten (ls + df)).sync w3 w4 → IPost a n (.slice va (ls + df) vc) (f.crash (kk : Int)) w w4) := fun w4 h4 => by rw [HEND.out]; exact IPost.trans ⟨HI3.out, HV3, HF3.undrew⟩ h4
      clear HP HV3 HF3 HI3 HC c3 c4 c3' c4'
      go_wp2_with fail
      refine HC2.out.mono ?_
      rintro e w4 ⟨rfl, h4⟩
      have HE2 : Hid (IPost a n (.slice va (ls + df) vc) (f.crash (kk : Int)) w w4) := HE.out w4 h4
      clear h4 HE HC2
      go_wp2
      first | go_end0 | (simp only [Exit.inBlock, Exit.then]; refine bodyPost_ret (results_none rfl _ _ _) rfl ?_) | refine bodyPost_ret (results_none rfl _ _ _) rfl ?_
      exact ⟨rfl, HE2.out⟩
    · have hm1 : ¬ (kk : Int) < 0 := by omega
      have hm2 : ¬ (df : Int) < (kk : Int) := by omega
      have HST : Hid (f.stay (kk : Int) = kk) := by show _ = _; unfold Ino.stay; rw [HLL.out.1, HLL.out.2]; omega
      have HEND : Hid (f.crash (kk : Int) = (f.shorten (ls + kk)).sync) := by show _ = _; unfold Ino.crash; rw [HST.out, HLL.out.2]
      go_enter Try.func51, Try.ntmps51
      go_wp2_with fail
      go_quiet (fail)
      have HK2 : Hid (Below w.heap.size w (w.drewN nq)) := ⟨rfl, rfl, rfl, Nat.le_refl _, fun _ _ => rfl⟩
      have HC : Hid (Calls Try.prog 46 #[.pointer (some ⟨a, 0, none⟩), .int .i64 ((ls : Int) + (kk : Int))] (w.drewN nq) _) := shorten_at (HI.out.keep (HK2.out.block a HI.out.lt) (fun b _ hl => HK2.out.block b hl)) (by rw [HLL.out.1]; exact hl) (by rw [HLL.out.2]; omega) hgen (k := ls + kk) (by rw [HLL.out.1]; omega) (by omega)
      have c3' : (w.drewN nq).cell? ⟨a, 3, none⟩ = some (.slice va (ls + df) vc) := c3
      have c4' : (w.drewN nq).cell? ⟨a, 4, none⟩ = some (.int .i64 (ls : Nat)) := c4
      go_wp2_with fail
      refine HC.out.mono ?_
      rintro e w3 ⟨rfl, HP⟩
      have HP : Hid (IPost a n (.slice va (ls + df) vc) (f.shorten (ls + kk)) (w.drewN nq) w3) := HP
      obtain ⟨V3, HI3, HV3, HF3⟩ := HP.out
      have HI3 : Hid (InoAt w3 a n (f.shorten (ls + kk)) V3) := HI3
      have HC2 : Hid (Calls Try.prog 47 #[.pointer (some ⟨a, 0, none⟩)] w3 _) := sync_any HI3.out
      have HE : Hid (∀ w4, IPost a n V3 (f.shorten (ls + kk)).sync w3 w4 → IPost a n (.slice va (ls + df) vc) (f.crash (kk : Int)) w w4) := fun w4 h4 => by rw [HEND.out]; exact IPost.trans ⟨HI3.out, HV3, HF3.undrew⟩ h4
      clear HP HV3 HF3 HI3 HC c3 c4 c3' c4'
      go_wp2_with fail
      refine HC2.out.mono ?_
      rintro e w4 ⟨rfl, h4⟩
      have HE2 : Hid (IPost a n (.slice va (ls + df) vc) (f.crash (kk : Int)) w w4) := HE.out w4 h4
      clear h4 HE HC2
      go_wp2
      first | go_end0 | (simp only [Exit.inBlock, Exit.then]; refine bodyPost_ret (results_none rfl _ _ _) rfl ?_) | refine bodyPost_ret (results_none rfl _ _ _) rfl ?_
      exact ⟨rfl, HE2.out⟩
end Go.Proofs.Ytpikepifhnkmkaa
