/- follow: step. -/
import Derived.Test.YtpikepifhnkmkaaG41
import Derived.Test.YtpikepifhnkmkaaG43
namespace Go.Proofs.Ytpikepifhnkmkaa
open Go.RowKit Go.Maps Sf Ln Fo
attribute [local go_sem ↓] Go.wp_at_zero Go.wp_at_succ

def fnV (n F : Nat) : Value := .func (.func n) #[.pointer (some ⟨F, 0, none⟩)] #[]
/-- what a whole step leaves -/
def StPost (F B Tb Bd : Nat) (V : Value) (f : Fo) (d : Dk) (w w' : World) : Prop := STo F B Tb V (f.step d) w w' ∧ TuC w' Tb (tuC Bd ((f.line d).map fun t => (f.m, t)))
/-- what is known where the first k of the steps did not apply -/
structure StI (w : World) (f : Fo) (d : Dk) (k : Nat) (u : World) : Prop where
  lo : Below w.heap.size w u
  a1 : 1 ≤ k → f.m.n ≠ 0
  a2 : 2 ≤ k → inoZ d f.m.n ≠ none
  a3 : 3 ≤ k → ∀ x, inoZ d f.m.n = some x → (x.gen : Int) = f.m.g
  a4 : 4 ≤ k → ∀ x, inoZ d f.m.n = some x → f.got x = []
  a5 : 5 ≤ k → further f d = false
section
variable {w u v : World} {F B Tb Bd : Nat} {V : Value} {f : Fo} {d : Dk}
theorem st_end (h : FoAt w F B V f) (hT : TuC w Tb (tuC Bd none)) (hb : Below w.heap.size w u) {f' : Fo} (ht : FTo F B V f' u v) (hs : f.step d = f') (hl : f.line d = none) : StPost F B Tb Bd V f d w v := by
  have h2 := h.later hb
  have ht2 : FTo F B V f' w v := (FTo.below h hb).then fun V1 a => by rw [a.same h2]; exact ht
  rw [← hs] at ht2
  exact ⟨ht2.st, by rw [hl]; exact hT.kept h ht2⟩
theorem STo.lower {f' : Fo} (hb : Below w.heap.size w u) (ht : STo F B Tb V f' u v) : STo F B Tb V f' w v := by
  obtain ⟨V', a1, a2, a3⟩ := ht
  refine ⟨V', a1, fun b hb2 => ?_, ?_⟩
  · rcases a2 b hb2 with e | e
    · exact .inl e
    · exact .inr (Nat.le_trans hb.size e)
  · exact (FrP.of_below _ hb).trans a3 (fun _ _ e => e)
end
theorem ten5 (i : Nat) (h : i < 5) : i = 0 ∨ i = 1 ∨ i = 2 ∨ i = 3 ∨ i = 4 := by omega
set_option maxRecDepth 8000 in
set_option maxHeartbeats 8000000 in
theorem step_fn {w : World} {F B Bd Tb K C : Nat} {V : Value} {f : Fo} {P : Nat → Prop} {d : Dk} (h : FoAt w F B V f) (hk : f.Ok C) (hC : C ≤ 1000000000) (hd : Dsk P w Bd d K) (hT : TuC w Tb (tuC Bd none)) :
    Calls Try.prog 28 #[.pointer (some ⟨F, 0, none⟩), .pointer (some ⟨Tb, 0, none⟩)] w fun e w' => e = .returned (.tuple #[]) ∧ StPost F B Tb Bd V f d w w' := by
  obtain ⟨w1, hw1⟩ : ∃ w1, w.alloc (.cells #[fnV 41 F, fnV 42 F, fnV 43 F, fnV 44 F, fnV 45 F] 105) = w1 := ⟨_, rfl⟩
  obtain ⟨A, hA⟩ : ∃ A, w.heap.size = A := ⟨_, rfl⟩
  have k1 : Below w.heap.size w w1 := by rw [← hw1]; exact (Below.refl _ _).alloc (Nat.le_refl _) _
  have hl1 : w1.heap[A]? = some (.cells #[fnV 41 F, fnV 42 F, fnV 43 F, fnV 44 F, fnV 45 F] 105 (0, 0)) := by rw [← hw1, ← hA]; exact heap_alloc_new w _
  have HW : Hid (w.alloc (.cells #[fnV 41 F, fnV 42 F, fnV 43 F, fnV 44 F, fnV 45 F] 105) = w1 ∧ w.heap.size = A) := ⟨hw1, hA⟩
  have HL : Hid (∀ u, Below w1.heap.size w1 u → u.heap[A]? = some (.cells #[fnV 41 F, fnV 42 F, fnV 43 F, fnV 44 F, fnV 45 F] 105 (0, 0))) := fun u hu => (hu.block A (Array.getElem?_eq_some_iff.1 hl1).1).trans hl1
  have HH : Hid (FoAt w F B V f ∧ f.Ok C ∧ TuC w Tb (tuC Bd none) ∧ C ≤ 1000000000 ∧ Dsk P w Bd d K) := ⟨h, hk, hT, hC, hd⟩
  have H0 : Hid (StI w f d 0 w1 ∧ Below w1.heap.size w1 w1) := ⟨⟨k1, fun e => by omega, fun e => by omega, fun e => by omega, fun e => by omega, fun e => by omega⟩, Below.refl _ _⟩
  unfold fnV at HW HL
  clear h hk hC hd hT hw1 hA k1 hl1
  go_enter Try.func28, Try.ntmps28
  go_wp2_with fail
  rw [HW.out.1, HW.out.2]
  clear HW
  go_loopw [18] (fun i u => ∃ k : Nat, k ≤ 5 ∧ i = .int .i64 (k : Nat) ∧ Hid (StI w f d k u ∧ Below w1.heap.size w1 u)) (fun i _ => 5 - (Go.RowKit.intOf i).toNat)
  case atStart => exact ⟨0, by omega, rfl, H0⟩
  case round =>
  obtain ⟨k, hk5, rfl, HI⟩ := hrel
  clear H0
  have hl := HL.out wr HI.out.2
  by_cases hlt : k < 5
  · have hfr := HH.out.1.later HI.out.1.lo
    have htr := HH.out.2.2.1.later HI.out.1.lo
    have hdr := HH.out.2.2.2.2.later HI.out.1.lo
    rcases ten5 k hlt with rfl | rfl | rfl | rfl | rfl
    · have c0 : wr.cell? ⟨A, 0, none⟩ = some (.func (.func 41) #[.pointer (some ⟨F, 0, none⟩)] #[]) := by simp [World.cell?, hl]
      have HC : Hid (Calls Try.prog 41 #[.pointer (some ⟨F, 0, none⟩), .pointer (some ⟨Tb, 0, none⟩)] wr _) := begin_fn hfr HH.out.2.1 hdr (htr.cell rfl)
      clear hl hfr htr hdr
      go_wp2_with fail
      refine HC.out.mono ?_
      rintro e w2 ⟨p1, p2⟩
      by_cases hn : f.m.n = 0
      · obtain ⟨rfl, ht⟩ := p1 hn
        have HE : Hid (StPost F B Tb Bd V f d w w2) := st_end HH.out.1 HH.out.2.2.1 HI.out.1.lo ht (by unfold Fo.step; rw [if_pos hn]) (by unfold Fo.line; rw [if_pos hn])
        clear p1 p2 hn ht HC
        go_wp2_with fail
        first | go_end0 | (simp only [Exit.inBlock, Exit.then]; refine bodyPost_ret (results_none rfl _ _ _) rfl ?_) | refine bodyPost_ret (results_none rfl _ _ _) rfl ?_
        exact ⟨rfl, HE.out⟩
      · obtain ⟨rfl, hw⟩ := p2 hn
        have HI2 : Hid (StI w f d 1 wr ∧ Below w1.heap.size w1 wr) := ⟨⟨HI.out.1.lo, fun _ => hn, fun e => by omega, fun e => by omega, fun e => by omega, fun e => by omega⟩, HI.out.2⟩
        rw [hw]
        clear p1 p2 hn hw HC
        go_wp2_with fail
        go_roundw
        case rel => exact ⟨1, by omega, rfl, HI2⟩
        case measure => decide
    · have c0 : wr.cell? ⟨A, 1, none⟩ = some (.func (.func 42) #[.pointer (some ⟨F, 0, none⟩)] #[]) := by simp [World.cell?, hl]
      have HC : Hid (Calls Try.prog 42 #[.pointer (some ⟨F, 0, none⟩), .pointer (some ⟨Tb, 0, none⟩)] wr _) := seeGone_fn hfr HH.out.2.1 hdr (htr.cell rfl)
      clear hl hfr htr hdr
      go_wp2_with fail
      refine HC.out.mono ?_
      rintro e w2 ⟨p1, p2⟩
      have hn := HI.out.1.a1 (by omega)
      cases hin : inoZ d f.m.n with
      | none =>
        obtain ⟨rfl, ht⟩ := p1 hin
        have HE : Hid (StPost F B Tb Bd V f d w w2) := st_end HH.out.1 HH.out.2.2.1 HI.out.1.lo ht (by unfold Fo.step; rw [if_neg hn, hin]) (by unfold Fo.line; rw [if_neg hn, hin])
        clear p1 p2 hn hin ht HC
        go_wp2_with fail
        first | go_end0 | (simp only [Exit.inBlock, Exit.then]; refine bodyPost_ret (results_none rfl _ _ _) rfl ?_) | refine bodyPost_ret (results_none rfl _ _ _) rfl ?_
        exact ⟨rfl, HE.out⟩
      | some x =>
        obtain ⟨rfl, hw⟩ := p2 (by rw [hin]; exact fun e => by cases e)
        have HI2 : Hid (StI w f d 2 w2 ∧ Below w1.heap.size w1 w2) := ⟨⟨below_step HI.out.1.lo hw, fun _ => hn, fun _ e => (by rw [hin] at e; cases e), fun e => by omega, fun e => by omega, fun e => by omega⟩, below_step HI.out.2 hw⟩
        clear p1 p2 hn hin hw HC
        go_wp2_with fail
        go_roundw
        case rel => exact ⟨2, by omega, rfl, HI2⟩
        case measure => decide
    · have c0 : wr.cell? ⟨A, 2, none⟩ = some (.func (.func 43) #[.pointer (some ⟨F, 0, none⟩)] #[]) := by simp [World.cell?, hl]
      have hn := HI.out.1.a1 (by omega)
      cases hin : inoZ d f.m.n with
      | none => exact absurd hin (HI.out.1.a2 (by omega))
      | some x =>
      have HC : Hid (Calls Try.prog 43 #[.pointer (some ⟨F, 0, none⟩), .pointer (some ⟨Tb, 0, none⟩)] wr (AgPost F B V f x.gen wr)) := beginAgain_fn hfr HH.out.2.1 hdr (htr.cell rfl) hin
      have HIN : Hid (inoZ d f.m.n = some x) := hin
      clear hl hfr htr hdr hin
      go_wp2_with fail
      refine HC.out.mono ?_
      rintro e w2 ⟨p1, p2⟩
      by_cases hg : (x.gen : Int) = f.m.g
      · obtain ⟨rfl, hw⟩ := p2 hg
        have HI2 : Hid (StI w f d 3 w2 ∧ Below w1.heap.size w1 w2) := ⟨⟨below_step HI.out.1.lo hw, fun _ => hn, fun _ e => (by rw [HIN.out] at e; cases e), fun _ y hy => (by rw [HIN.out] at hy; cases hy; exact hg), fun e => by omega, fun e => by omega⟩, below_step HI.out.2 hw⟩
        clear p1 p2 hn hg hw HC
        go_wp2_with fail
        go_roundw
        case rel => exact ⟨3, by omega, rfl, HI2⟩
        case measure => decide
      · obtain ⟨rfl, ht⟩ := p1 hg
        have HE : Hid (StPost F B Tb Bd V f d w w2) := st_end HH.out.1 HH.out.2.2.1 HI.out.1.lo ht (by unfold Fo.step; rw [if_neg hn, HIN.out]; simp only; rw [if_pos hg]) (by unfold Fo.line; rw [if_neg hn, HIN.out]; simp only; rw [if_pos hg])
        clear p1 p2 hn hg ht HC
        go_wp2_with fail
        first | go_end0 | (simp only [Exit.inBlock, Exit.then]; refine bodyPost_ret (results_none rfl _ _ _) rfl ?_) | refine bodyPost_ret (results_none rfl _ _ _) rfl ?_
        exact ⟨rfl, HE.out⟩
    · have c0 : wr.cell? ⟨A, 3, none⟩ = some (.func (.func 44) #[.pointer (some ⟨F, 0, none⟩)] #[]) := by simp [World.cell?, hl]
      have hn := HI.out.1.a1 (by omega)
      cases hin : inoZ d f.m.n with
      | none => exact absurd hin (HI.out.1.a2 (by omega))
      | some x =>
      have hg := HI.out.1.a3 (by omega) x hin
      have HC : Hid (Calls Try.prog 44 #[.pointer (some ⟨F, 0, none⟩), .pointer (some ⟨Tb, 0, none⟩)] wr (RdPost F B Tb Bd V f (f.got x) wr)) := read_fn hfr HH.out.2.1 HH.out.2.2.2.1 hdr htr hin hg
      have HIN : Hid (inoZ d f.m.n = some x ∧ (x.gen : Int) = f.m.g) := ⟨hin, hg⟩
      clear hl hfr htr hdr hin hg
      go_wp2_with fail
      refine HC.out.mono ?_
      rintro e w2 ⟨p1, p2⟩
      by_cases hb : f.got x = []
      · obtain ⟨rfl, hw⟩ := p1 hb
        have HI2 : Hid (StI w f d 4 w2 ∧ Below w1.heap.size w1 w2) := ⟨⟨below_step HI.out.1.lo hw, fun _ => hn, fun _ e => (by rw [HIN.out.1] at e; cases e), fun _ y hy => (by rw [HIN.out.1] at hy; cases hy; exact HIN.out.2), fun _ y hy => (by rw [HIN.out.1] at hy; cases hy; exact hb), fun e => by omega⟩, below_step HI.out.2 hw⟩
        clear p1 p2 hn hb hw HC
        go_wp2_with fail
        go_roundw
        case rel => exact ⟨4, by omega, rfl, HI2⟩
        case measure => decide
      · obtain ⟨rfl, ht, htu⟩ := p2 hb
        have hng : ¬ (x.gen : Int) ≠ f.m.g := fun e => e HIN.out.2
        have HE : Hid (StPost F B Tb Bd V f d w w2) := by
          have e1 : f.step d = f.on (f.got x) := by unfold Fo.step; rw [if_neg hn, HIN.out.1]; simp only; rw [if_neg hng, if_pos hb]
          have e2 : (f.line d).map (fun t => (f.m, t)) = if f.k.whole (f.got x) then some (f.m, f.k.text (f.got x)) else none := by
            unfold Fo.line; rw [if_neg hn, HIN.out.1]; simp only; rw [if_neg hng]
            cases hwh : f.k.whole (f.got x) with
            | true => rw [if_pos ⟨hb, rfl⟩]; rfl
            | false => rw [if_neg (fun e => by cases e.2)]; rfl
          refine ⟨?_, ?_⟩
          · rw [e1]; exact STo.lower HI.out.1.lo ht
          · rw [e2]; exact htu
        clear p1 p2 hn hb ht htu hng HC
        go_wp2_with fail
        first | go_end0 | (simp only [Exit.inBlock, Exit.then]; refine bodyPost_ret (results_none rfl _ _ _) rfl ?_) | refine bodyPost_ret (results_none rfl _ _ _) rfl ?_
        exact ⟨rfl, HE.out⟩
    · have c0 : wr.cell? ⟨A, 4, none⟩ = some (.func (.func 45) #[.pointer (some ⟨F, 0, none⟩)] #[]) := by simp [World.cell?, hl]
      have hn := HI.out.1.a1 (by omega)
      cases hin : inoZ d f.m.n with
      | none => exact absurd hin (HI.out.1.a2 (by omega))
      | some x =>
      have hng : ¬ (x.gen : Int) ≠ f.m.g := fun e => e (HI.out.1.a3 (by omega) x hin)
      have hgo : f.got x = [] := HI.out.1.a4 (by omega) x hin
      have hgo' : ¬ f.got x ≠ [] := fun e => e hgo
      have e1 : f.step d = if further f d then f.tail.takeUp d else f := by unfold Fo.step; rw [if_neg hn, hin]; simp only; rw [if_neg hng, if_neg hgo']
      have e2 : f.line d = none := by unfold Fo.line; rw [if_neg hn, hin]; simp only; rw [if_neg hng, if_neg (fun e => hgo' e.1)]
      have HC : Hid (Calls Try.prog 45 #[.pointer (some ⟨F, 0, none⟩), .pointer (some ⟨Tb, 0, none⟩)] wr (OverPost F B V f d wr)) := goOver_fn hfr HH.out.2.1 hdr (htr.cell rfl)
      obtain ⟨bb, hbb⟩ : ∃ bb, further f d = bb := ⟨_, rfl⟩
      have HEE : Hid (f.step d = (if further f d then f.tail.takeUp d else f) ∧ f.line d = none ∧ further f d = bb ∧ inoZ d f.m.n = some x ∧ f.m.n ≠ 0 ∧ (x.gen : Int) = f.m.g ∧ f.got x = []) := ⟨e1, e2, hbb, hin, hn, HI.out.1.a3 (by omega) x hin, hgo⟩
      clear hl hfr htr hdr hin e1 e2 hng hgo hgo' hn hbb
      go_wp2_with fail
      refine HC.out.mono ?_
      rintro e w2 ⟨rfl, ht, hbw⟩
      rw [HEE.out.2.2.1]
      cases bb with
      | true =>
        have HE : Hid (StPost F B Tb Bd V f d w w2) := st_end HH.out.1 HH.out.2.2.1 HI.out.1.lo ht (by rw [HEE.out.1]) HEE.out.2.1
        clear ht HC hbw
        go_wp2_with fail
        first | go_end0 | (simp only [Exit.inBlock, Exit.then]; refine bodyPost_ret (results_none rfl _ _ _) rfl ?_) | refine bodyPost_ret (results_none rfl _ _ _) rfl ?_
        exact ⟨rfl, HE.out⟩
      | false =>
        have hw := hbw HEE.out.2.2.1
        obtain ⟨_, _, h3, h4, h5, h6, h7⟩ := HEE.out
        have HI2 : Hid (StI w f d 5 w2 ∧ Below w1.heap.size w1 w2) := ⟨⟨below_step HI.out.1.lo hw, fun _ => h5, fun _ e => (by rw [h4] at e; cases e), fun _ y hy => (by rw [h4] at hy; cases hy; exact h6), fun _ y hy => (by rw [h4] at hy; cases hy; exact h7), fun _ => h3⟩, below_step HI.out.2 hw⟩
        clear ht HC hbw hw h3 h4 h5 h6 h7
        go_wp2_with fail
        go_roundw
        case rel => exact ⟨5, by omega, rfl, HI2⟩
        case measure => decide
  · obtain rfl : k = 5 := by omega
    have HE : Hid (StPost F B Tb Bd V f d w wr) := by
      have hn := HI.out.1.a1 (by omega)
      cases hin : inoZ d f.m.n with
      | none => exact absurd hin (HI.out.1.a2 (by omega))
      | some x =>
        have hng : ¬ (x.gen : Int) ≠ f.m.g := fun e => e (HI.out.1.a3 (by omega) x hin)
        have hgo' : ¬ f.got x ≠ [] := fun e => e (HI.out.1.a4 (by omega) x hin)
        have hfu : ¬ further f d = true := by rw [HI.out.1.a5 (by omega)]; exact Bool.false_ne_true
        exact st_end HH.out.1 HH.out.2.2.1 HI.out.1.lo (FTo.refl (HH.out.1.later HI.out.1.lo)) (by unfold Fo.step; rw [if_neg hn, hin]; simp only; rw [if_neg hng, if_neg hgo', if_neg hfu]) (by unfold Fo.line; rw [if_neg hn, hin]; simp only; rw [if_neg hng, if_neg (fun e => hgo' e.1)])
    clear hl HL
    go_wp2_with fail
    first | go_end0 | (simp only [Exit.inBlock, Exit.then]; refine bodyPost_ret (results_none rfl _ _ _) rfl ?_) | refine bodyPost_ret (results_none rfl _ _ _) rfl ?_
    exact ⟨rfl, HE.out⟩
end Go.Proofs.Ytpikepifhnkmkaa
