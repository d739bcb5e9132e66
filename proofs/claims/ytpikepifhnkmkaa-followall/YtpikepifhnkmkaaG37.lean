/- follow: begin, goOver. -/
import Derived.Test.YtpikepifhnkmkaaG36
namespace Go.Proofs.Ytpikepifhnkmkaa
open Go.RowKit Go.Maps Sf Ln Fo
attribute [local go_sem ↓] Go.wp_at_zero Go.wp_at_succ

def BegPost (F B : Nat) (V : Value) (f : Fo) (d : Dk) (w : World) (e : Ending) (w' : World) : Prop := (f.m.n = 0 → e = .returned (.bool true) ∧ FTo F B V (if further f d then f.takeUp d else f) w w') ∧ (f.m.n ≠ 0 → e = .returned (.bool false) ∧ w' = w)
set_option maxRecDepth 8000 in
set_option maxHeartbeats 2000000 in
theorem begin_fn {w : World} {F B Bd T K C : Nat} {V : Value} {f : Fo} {P : Nat → Prop} {d : Dk} (h : FoAt w F B V f) (hk : f.Ok C) (hd : Dsk P w Bd d K) (hT : w.cell? ⟨T, 0, none⟩ = some (.pointer (some ⟨Bd, 0, none⟩))) :
    Calls Try.prog 41 #[.pointer (some ⟨F, 0, none⟩), .pointer (some ⟨T, 0, none⟩)] w (BegPost F B V f d w) := by
  have c2 := h.b.cells.2.2.1
  by_cases hn : f.m.n = 0
  · rw [hn] at c2
    have HA : Hid (Calls Try.prog 55 #[.pointer (some ⟨F, 0, none⟩), .pointer (some ⟨Bd, 0, none⟩)] w (ArrPost f d w)) := arrival_fn h hk hd
    have HH : Hid (FoAt w F B V f ∧ f.Ok C ∧ Wf d K ∧ K ≤ 1000000 ∧ f.m.n = 0) := ⟨h, hk, hd.wf, hd.k, hn⟩
    obtain ⟨b, hb⟩ : ∃ b, further f d = b := ⟨_, rfl⟩
    have HB : Hid (further f d = b) := hb
    clear h hk hd hn hb
    go_enter Try.func41, Try.ntmps41
    go_wp2_with fail
    refine HA.out.mono ?_
    rintro e w1 ⟨n, q, g, z, rfl, hf, k1⟩
    rw [HB.out]
    obtain ⟨w2, hw2⟩ : ∃ w2, w1.alloc (.cells #[.int .i64 (n : Nat), .int .i64 (q : Nat), .int .i64 (g : Nat), .int .i64 (z : Nat)] 64) = w2 := ⟨_, rfl⟩
    obtain ⟨A, hA⟩ : ∃ A, w1.heap.size = A := ⟨_, rfl⟩
    have k2 : Below w1.heap.size w1 w2 := by rw [← hw2]; exact (Below.refl _ _).alloc (Nat.le_refl _) _
    have HW : Hid (w1.alloc (.cells #[.int .i64 (n : Nat), .int .i64 (q : Nat), .int .i64 (g : Nat), .int .i64 (z : Nat)] 64) = w2 ∧ w1.heap.size = A) := ⟨hw2, hA⟩
    have st : StatB w2 A (.int .i64 (n : Nat)) (.int .i64 (q : Nat)) (.int .i64 (g : Nat)) (.int .i64 (z : Nat)) := by rw [← hw2, ← hA]; exact heap_alloc_new w1 _
    obtain ⟨s0, s1, s2, s3, _⟩ := st.cells
    have HK : Hid (Below w.heap.size w w2) := below_step k1 k2
    have HF : Hid (b = true → n = num d f.nm ∧ q = ser d f.nm ∧ g = genOf d (num d f.nm)) := fun e => hf (HB.out.trans e)
    unfold statV
    clear hf k1 k2 hw2 hA st HA c2 hT
    go_upto_region 4 with fail
    rw [HW.out.1, HW.out.2]
    cases b with
    | true =>
      obtain ⟨rfl, rfl, rfl⟩ := HF.out rfl
      have HC : Hid (Calls Try.prog 56 #[.pointer (some ⟨F, 0, none⟩), .agg #[.int .i64 (num d f.nm : Nat), .int .i64 (ser d f.nm : Nat), .int .i64 (genOf d (num d f.nm) : Nat), .int .i64 (z : Nat)]] w2 fun e w' => e = .returned (.tuple #[]) ∧ FTo F B V (f.takeUp d) w2 w') := by
        have hs := HH.out.2.2.1.serLe f.nm
        exact takeUp_fn (HH.out.1.later HK.out) HH.out.2.1 (z := z) (further_iff.1 HB.out).2 (by have := HH.out.2.2.2.1; omega)
      go_wp2_with fail
      refine HC.out.mono ?_
      rintro e w3 ⟨rfl, h3⟩
      have HE : Hid (FTo F B V (if further f d then f.takeUp d else f) w w3) := by
        show FTo _ _ _ _ _ _
        rw [if_pos HB.out]
        exact (FTo.below HH.out.1 HK.out).then fun V1 a1 => by rw [a1.same (HH.out.1.later HK.out)]; exact h3
      clear h3 HC
      go_wp2
      go_ret
      exact ⟨fun _ => ⟨rfl, HE.out⟩, fun x => absurd HH.out.2.2.2.2 x⟩
    | false =>
      have HE : Hid (FTo F B V (if further f d then f.takeUp d else f) w w2) := by
        show FTo _ _ _ _ _ _
        rw [if_neg (by rw [HB.out]; exact Bool.false_ne_true)]
        exact FTo.below HH.out.1 HK.out
      go_wp2
      go_ret
      exact ⟨fun _ => ⟨rfl, HE.out⟩, fun x => absurd HH.out.2.2.2.2 x⟩
  · have e : (f.m.n != 0) = true := by simpa using hn
    have HN : Hid (f.m.n ≠ 0) := hn
    clear h hk hd hT hn
    go_enter Try.func41, Try.ntmps41
    go_wp2
    go_ret
    exact ⟨fun x => absurd x HN.out, fun _ => ⟨rfl, rfl⟩⟩
def OverPost (F B : Nat) (V : Value) (f : Fo) (d : Dk) (w : World) (e : Ending) (w' : World) : Prop := e = .returned (.bool (further f d)) ∧ FTo F B V (if further f d then f.tail.takeUp d else f) w w' ∧ (further f d = false → Below w.heap.size w w')
theorem tail_same (f : Fo) : f.tail.m.s = f.m.s ∧ f.tail.nm = f.nm ∧ f.tail.k = f.k := by unfold Fo.tail; split <;> exact ⟨rfl, rfl, rfl⟩
theorem begun_at {w : World} {F B : Nat} {V : Value} {f : Fo} (h : FoAt w F B V f) : Calls Try.prog 58 #[.pointer (some ⟨B, 0, none⟩)] w fun e w' => e = .returned (.int .i64 (f.k.u.length : Nat)) ∧ w' = w := begun_fn h.m.b
set_option maxRecDepth 8000 in
set_option maxHeartbeats 2000000 in
theorem goOver_fn {w : World} {F B Bd T K C : Nat} {V : Value} {f : Fo} {P : Nat → Prop} {d : Dk} (h : FoAt w F B V f) (hk : f.Ok C) (hd : Dsk P w Bd d K) (hT : w.cell? ⟨T, 0, none⟩ = some (.pointer (some ⟨Bd, 0, none⟩))) :
    Calls Try.prog 45 #[.pointer (some ⟨F, 0, none⟩), .pointer (some ⟨T, 0, none⟩)] w (OverPost F B V f d w) := by
  have HA : Hid (Calls Try.prog 55 #[.pointer (some ⟨F, 0, none⟩), .pointer (some ⟨Bd, 0, none⟩)] w (ArrPost f d w)) := arrival_fn h hk hd
  have HH : Hid (FoAt w F B V f ∧ f.Ok C ∧ Wf d K ∧ K ≤ 1000000) := ⟨h, hk, hd.wf, hd.k⟩
  obtain ⟨b, hb⟩ : ∃ b, further f d = b := ⟨_, rfl⟩
  have HB : Hid (further f d = b) := hb
  clear h hk hd hb
  go_enter Try.func45, Try.ntmps45
  go_wp2_with fail
  refine HA.out.mono ?_
  rintro e w1 ⟨n, q, g, z, rfl, hf, k1⟩
  rw [HB.out]
  obtain ⟨w2, hw2⟩ : ∃ w2, w1.alloc (.cells #[.int .i64 (n : Nat), .int .i64 (q : Nat), .int .i64 (g : Nat), .int .i64 (z : Nat)] 64) = w2 := ⟨_, rfl⟩
  obtain ⟨A, hA⟩ : ∃ A, w1.heap.size = A := ⟨_, rfl⟩
  have k2 : Below w1.heap.size w1 w2 := by rw [← hw2]; exact (Below.refl _ _).alloc (Nat.le_refl _) _
  have HW : Hid (w1.alloc (.cells #[.int .i64 (n : Nat), .int .i64 (q : Nat), .int .i64 (g : Nat), .int .i64 (z : Nat)] 64) = w2 ∧ w1.heap.size = A) := ⟨hw2, hA⟩
  have st : StatB w2 A (.int .i64 (n : Nat)) (.int .i64 (q : Nat)) (.int .i64 (g : Nat)) (.int .i64 (z : Nat)) := by rw [← hw2, ← hA]; exact heap_alloc_new w1 _
  obtain ⟨s0, s1, s2, s3, _⟩ := st.cells
  have HK : Hid (Below w.heap.size w w2) := below_step k1 k2
  have HF : Hid (b = true → n = num d f.nm ∧ q = ser d f.nm ∧ g = genOf d (num d f.nm)) := fun e => hf (HB.out.trans e)
  have HAF : Hid (A ≠ F) := fun e => by have := HH.out.1.b.lt; have := k1.size; omega
  have HST : Hid (StatB w2 A (.int .i64 (n : Nat)) (.int .i64 (q : Nat)) (.int .i64 (g : Nat)) (.int .i64 (z : Nat))) := st
  unfold statV
  clear hf k1 k2 hw2 hA st HA hT
  go_upto_region 2 with fail
  rw [HW.out.1, HW.out.2]
  cases b with
  | false =>
    have HE : Hid (FTo F B V (if further f d then f.tail.takeUp d else f) w w2) := by
      show FTo _ _ _ _ _ _
      rw [if_neg (by rw [HB.out]; exact Bool.false_ne_true)]
      exact FTo.below HH.out.1 HK.out
    go_wp2
    go_ret
    exact ⟨by rw [HB.out]; rfl, HE.out, fun _ => HK.out⟩
  | true =>
    have h2 := HH.out.1.later HK.out
    have c0 := h2.b.cells.1
    have HBG : Hid (Calls Try.prog 58 #[.pointer (some ⟨B, 0, none⟩)] w2 _) := begun_at h2
    obtain ⟨rfl, rfl, rfl⟩ := HF.out rfl
    have HC : Hid (∀ w3, FTo F B V f.tail w w3 → Calls Try.prog 56 #[.pointer (some ⟨F, 0, none⟩), .agg #[.int .i64 (num d f.nm : Nat), .int .i64 (ser d f.nm : Nat), .int .i64 (genOf d (num d f.nm) : Nat), .int .i64 (z : Nat)]] w3 fun e w' => e = .returned (.tuple #[]) ∧ FTo F B V (if further f d then f.tail.takeUp d else f) w w') := fun w3 ht => by
      have hs := HH.out.2.2.1.serLe f.nm
      obtain ⟨V3, a3, _⟩ := id ht
      obtain ⟨t1, t2, t3⟩ := tail_same f
      refine (takeUp_fn a3 (tail_ok HH.out.2.1) (n := num d f.nm) (q := ser d f.nm) (g := genOf d (num d f.nm)) (z := z) (by rw [t1]; exact (further_iff.1 HB.out).2) (by have := HH.out.2.2.2; omega)).mono ?_
      intro e w' x
      refine ⟨x.1, ?_⟩
      rw [if_pos HB.out]
      refine ht.then fun V4 a4 => ?_
      rw [a4.same a3]
      have := x.2
      unfold Fo.takeUp
      rw [t2]
      exact this
    obtain ⟨lu, hlu⟩ : ∃ lu, f.k.u.length = lu := ⟨_, rfl⟩
    rw [hlu] at HBG
    by_cases hl : 0 < lu
    · have l1 : (0 : Int) < (lu : Int) := by omega
      have HR : Hid (Calls Try.prog 38 #[.pointer (some ⟨F, 8, none⟩), .int .i64 1] w2 _) := raise_fn h2.b.losses.2.2.2.1 (h2.b.frozen 8) HH.out.2.1.m.tl (k := 1) (by decide)
      have ht : FTo F B V f.tail w (w2.setCell ⟨F, 8, none⟩ (.int .i64 (raise f.m.tl 1))).drew := by
        have e : f.tail = ⟨{ f.m with tl := raise f.m.tl 1 }, f.nm, f.ck, f.k⟩ := by unfold Fo.tail; rw [if_pos (by rw [hlu]; exact hl)]
        rw [e]
        exact (FTo.below HH.out.1 HK.out).then fun V1 a1 => FTo.raised a1 8 _ rfl rfl
      obtain ⟨w3, hw3⟩ : ∃ w3, (w2.setCell ⟨F, 8, none⟩ (.int .i64 (raise f.m.tl 1))).drew = w3 := ⟨_, rfl⟩
      have HW3 : Hid ((w2.setCell ⟨F, 8, none⟩ (.int .i64 (raise f.m.tl 1))).drew = w3) := hw3
      rw [hw3] at ht
      have st3 : StatB w3 A (.int .i64 (num d f.nm : Nat)) (.int .i64 (ser d f.nm : Nat)) (.int .i64 (genOf d (num d f.nm) : Nat)) (.int .i64 (z : Nat)) := by rw [← hw3]; exact (Below.heap_setCell w2 ⟨F, 8, none⟩ _ A (fun e => HAF.out e)).trans HST.out
      have HC3 := HC.out w3 ht
      have HC3 : Hid (Calls Try.prog 56 #[.pointer (some ⟨F, 0, none⟩), .agg #[.int .i64 (num d f.nm : Nat), .int .i64 (ser d f.nm : Nat), .int .i64 (genOf d (num d f.nm) : Nat), .int .i64 (z : Nat)]] w3 _) := HC3
      obtain ⟨z0, z1, z2, z3, _⟩ := st3.cells
      clear h2 hlu hl ht hw3 st3 HC
      go_wp2_with fail
      refine HBG.out.mono ?_
      rintro e wx ⟨rfl, hwx⟩
      rw [hwx]
      clear hwx HBG
      go_wp2_with fail
      refine HR.out.mono ?_
      rintro e wx ⟨rfl, hwx⟩
      rw [hwx, HW3.out]
      clear hwx HR s0 s1 s2 s3 c0
      go_wp2_with fail
      refine HC3.out.mono ?_
      rintro e w4 ⟨rfl, h4⟩
      have HE : Hid (FTo F B V (if further f d then f.tail.takeUp d else f) w w4) := h4
      clear h4 HC3
      go_wp2
      go_ret
      exact ⟨by rw [HB.out]; rfl, HE.out, fun y => by rw [HB.out] at y; cases y⟩
    · have l1 : ¬ (0 : Int) < (lu : Int) := by omega
      have HC3 := HC.out w2 (by
        have e : f.tail = f := by unfold Fo.tail; rw [if_neg (by rw [hlu]; exact hl)]
        rw [e]
        exact FTo.below HH.out.1 HK.out)
      have HC3 : Hid (Calls Try.prog 56 #[.pointer (some ⟨F, 0, none⟩), .agg #[.int .i64 (num d f.nm : Nat), .int .i64 (ser d f.nm : Nat), .int .i64 (genOf d (num d f.nm) : Nat), .int .i64 (z : Nat)]] w2 _) := HC3
      clear h2 hlu hl HC
      go_wp2_with fail
      refine HBG.out.mono ?_
      rintro e wx ⟨rfl, hwx⟩
      rw [hwx]
      clear hwx HBG
      go_wp2_with fail
      refine HC3.out.mono ?_
      rintro e w4 ⟨rfl, h4⟩
      have HE : Hid (FTo F B V (if further f d then f.tail.takeUp d else f) w w4) := h4
      clear h4 HC3
      go_wp2
      go_ret
      exact ⟨by rw [HB.out]; rfl, HE.out, fun y => by rw [HB.out] at y; cases y⟩
end Go.Proofs.Ytpikepifhnkmkaa
