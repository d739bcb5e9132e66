
import Derived.Test.YtmjnobdlgbojoaaGreatDoorG20
import Derived.Test.YtmjnobdlgbojoaaGreatDoorG41
import Derived.Test.YtmjnobdlgbojoaaGreatDoorG31
namespace Go.Proofs.YtmjnobdlgbojoaaGreatDoor
open Go.RowKit
attribute [local go_sem ↓] Go.wp_at_zero Go.wp_at_succ
set_option maxRecDepth 4000 in
set_option maxHeartbeats 8000000 in
theorem way_2 {w0 : World} {B : Nat} {s : Oct.S} {subs : List Tn} {mn mx : Int} {a : Option Addr} {n c : Nat} {vs : List Nd} (hn : n = subs.length) (hl : vs.length = n) (hm : n ≤ 1000000) (hr : RowAt (fun b => b ≠ B) w0 a vs) (hs : ∀ (i : Nat) (t : Tn) (v : Nd), subs[i]? = some t → vs[i]? = some v → LayV w0 B t v) : WayV 43 w0 B (.mk 2 s subs mn mx) ⟨2, s, a, n, c, mn, mx⟩ := by
  intro w b0 Y m a0 hlow h0 hb hbb hS hE
  obtain ⟨R, hR⟩ : ∃ R, lay (.mk 2 s subs mn mx) m a0 = R := ⟨_, rfl⟩
  rw [hR] at hS hE ⊢
  have HR : Hid ((m.st.ed ⟨2, a0, m.S, s⟩, m.S) = R) := by show _ = _; rw [← hR, lay_mk]; simp
  have HIH : Hid (∀ (i : Nat) (t : Tn) (v : Nd), subs[i]? = some t → vs[i]? = some v → LayV w0 B t v) := hs
  have HRO : Hid (RowAt (fun b => b ≠ B) w0 a vs) := hr
  have HN : Hid (n = subs.length) := hn
  have HL : Hid (vs.length = n) := hl
  have HBS : Hid (R.1.S ≤ 1000000 ∧ R.1.es.length ≤ 1000000) := ⟨hS, hE⟩
  have HM0 : Hid (n ≤ 1000000) := hm
  clear hs hr hn hl hS hE hR
  have HSB : Hid (Sb w0 b0 B Y w.heap.size ⟨2, s, a, n, c, mn, mx⟩ w (w.alloc (.cells #[.int .i64 2, .int .u64 (Oct.word s 0 : Nat), .int .u64 (Oct.word s 1 : Nat), .int .u64 (Oct.word s 2 : Nat), .int .u64 (Oct.word s 3 : Nat), .slice a n c, .int .i64 mn, .int .i64 mx] 30)) m) := sb_start w0 ⟨2, s, a, n, c, mn, mx⟩ hbb hlow hb h0
  obtain ⟨w1, hw1⟩ : ∃ w1, w.alloc (.cells #[.int .i64 2, .int .u64 (Oct.word s 0 : Nat), .int .u64 (Oct.word s 1 : Nat), .int .u64 (Oct.word s 2 : Nat), .int .u64 (Oct.word s 3 : Nat), .slice a n c, .int .i64 mn, .int .i64 mx] 30) = w1 := ⟨_, rfl⟩
  rw [hw1] at HSB
  obtain ⟨A, hA⟩ : ∃ A, w.heap.size = A := ⟨_, rfl⟩
  rw [hA] at HSB
  have HW1 : Hid (w.alloc (.cells #[.int .i64 2, .int .u64 (Oct.word s 0 : Nat), .int .u64 (Oct.word s 1 : Nat), .int .u64 (Oct.word s 2 : Nat), .int .u64 (Oct.word s 3 : Nat), .slice a n c, .int .i64 mn, .int .i64 mx] 30) = w1) := hw1
  have HAA : Hid (w.heap.size = A) := hA
  have HB : Hid (b0 ≤ w.heap.size) := hb
  have H0 : Hid (w0.heap.size ≤ b0) := h0
  clear hw1 hA hb h0 hlow hbb
  obtain ⟨y0, y1, y2, y3, y4, y5, y6, y7⟩ := HSB.out.nb.cells
  simp only at y0 y1 y2 y3 y4 y5 y6 y7
  unfold Nd.val
  simp only
  go_enter Tryz.func43, Tryz.ntmps43
  go_upto_region 1 with fail
  rw [HW1.out, HAA.out]
  clear HW1
  clear HIH HRO
  have hgr : m.S + 1 ≤ 1000000 := by have := HBS.out.1; rw [← HR.out] at this; exact this
  have hge : m.es.length + 1 ≤ 1000000 := by have := HBS.out.2; rw [← HR.out] at this; simpa [Mk.st, Mk.ed] using this
  have HC : Hid (Calls Tryz.prog 67 #[.pointer (some ⟨B, 0, none⟩), .int .i64 2, .int .i64 (a0 : Nat), setV s] w1 _) := onward_any B b0 Y m 2 a0 s w1 HSB.out.bb HSB.out.sz (by omega) (by omega)
  unfold setV at HC
  go_wp2_with fail
  refine HC.out.mono ?_
  rintro e w2 ⟨rfl, h2, f2⟩
  have HS2 : Hid (Sb w0 b0 B Y A ⟨2, s, a, n, c, mn, mx⟩ w w2 (m.st.ed ⟨2, a0, m.S, s⟩)) := HSB.out.call h2 f2
  clear h2 f2 HSB HC y0 y1 y2 y3 y4 y5 y6 y7
  go_wp2
  go_ret
  rw [← HR.out]
  exact ⟨rfl, HS2.out.bb, HS2.out.fm⟩
set_option maxRecDepth 4000 in
set_option maxHeartbeats 8000000 in
theorem way_6 {w0 : World} {B : Nat} {s : Oct.S} {subs : List Tn} {mn mx : Int} {a : Option Addr} {n c : Nat} {vs : List Nd} (hn : n = subs.length) (hl : vs.length = n) (hm : n ≤ 1000000) (hr : RowAt (fun b => b ≠ B) w0 a vs) (hs : ∀ (i : Nat) (t : Tn) (v : Nd), subs[i]? = some t → vs[i]? = some v → LayV w0 B t v) (hno : noSet s = true) : WayV 47 w0 B (.mk 6 s subs mn mx) ⟨6, s, a, n, c, mn, mx⟩ := by
  have hz : Oct.word s 0 = 0 ∧ Oct.word s 1 = 0 ∧ Oct.word s 2 = 0 ∧ Oct.word s 3 = 0 := by
    unfold noSet at hno
    simp at hno
    omega
  have HZS : Hid (Oct.word s 0 = 0 ∧ Oct.word s 1 = 0 ∧ Oct.word s 2 = 0 ∧ Oct.word s 3 = 0) := hz
  clear hz hno
  intro w b0 Y m a0 hlow h0 hb hbb hS hE
  obtain ⟨R, hR⟩ : ∃ R, lay (.mk 6 s subs mn mx) m a0 = R := ⟨_, rfl⟩
  rw [hR] at hS hE ⊢
  have HR : Hid ((m.st.ed ⟨3, a0, m.S, s⟩, m.S) = R) := by show _ = _; rw [← hR, lay_mk]; simp
  have HIH : Hid (∀ (i : Nat) (t : Tn) (v : Nd), subs[i]? = some t → vs[i]? = some v → LayV w0 B t v) := hs
  have HRO : Hid (RowAt (fun b => b ≠ B) w0 a vs) := hr
  have HN : Hid (n = subs.length) := hn
  have HL : Hid (vs.length = n) := hl
  have HBS : Hid (R.1.S ≤ 1000000 ∧ R.1.es.length ≤ 1000000) := ⟨hS, hE⟩
  have HM0 : Hid (n ≤ 1000000) := hm
  clear hs hr hn hl hS hE hR
  have HSB : Hid (Sb w0 b0 B Y w.heap.size ⟨6, s, a, n, c, mn, mx⟩ w (w.alloc (.cells #[.int .i64 6, .int .u64 (Oct.word s 0 : Nat), .int .u64 (Oct.word s 1 : Nat), .int .u64 (Oct.word s 2 : Nat), .int .u64 (Oct.word s 3 : Nat), .slice a n c, .int .i64 mn, .int .i64 mx] 30)) m) := sb_start w0 ⟨6, s, a, n, c, mn, mx⟩ hbb hlow hb h0
  obtain ⟨w1, hw1⟩ : ∃ w1, w.alloc (.cells #[.int .i64 6, .int .u64 (Oct.word s 0 : Nat), .int .u64 (Oct.word s 1 : Nat), .int .u64 (Oct.word s 2 : Nat), .int .u64 (Oct.word s 3 : Nat), .slice a n c, .int .i64 mn, .int .i64 mx] 30) = w1 := ⟨_, rfl⟩
  rw [hw1] at HSB
  obtain ⟨A, hA⟩ : ∃ A, w.heap.size = A := ⟨_, rfl⟩
  rw [hA] at HSB
  have HW1 : Hid (w.alloc (.cells #[.int .i64 6, .int .u64 (Oct.word s 0 : Nat), .int .u64 (Oct.word s 1 : Nat), .int .u64 (Oct.word s 2 : Nat), .int .u64 (Oct.word s 3 : Nat), .slice a n c, .int .i64 mn, .int .i64 mx] 30) = w1) := hw1
  have HAA : Hid (w.heap.size = A) := hA
  have HB : Hid (b0 ≤ w.heap.size) := hb
  have H0 : Hid (w0.heap.size ≤ b0) := h0
  clear hw1 hA hb h0 hlow hbb
  obtain ⟨y0, y1, y2, y3, y4, y5, y6, y7⟩ := HSB.out.nb.cells
  simp only at y0 y1 y2 y3 y4 y5 y6 y7
  unfold Nd.val
  simp only
  go_enter Tryz.func47, Tryz.ntmps47
  go_upto_region 1 with fail
  rw [HW1.out, HAA.out]
  clear HW1
  clear HIH HRO
  have hgr : m.S + 1 ≤ 1000000 := by have := HBS.out.1; rw [← HR.out] at this; exact this
  have hge : m.es.length + 1 ≤ 1000000 := by have := HBS.out.2; rw [← HR.out] at this; simpa [Mk.st, Mk.ed] using this
  have HC : Hid (Calls Tryz.prog 67 #[.pointer (some ⟨B, 0, none⟩), .int .i64 3, .int .i64 (a0 : Nat), setV s] w1 _) := onward_any B b0 Y m 3 a0 s w1 HSB.out.bb HSB.out.sz (by omega) (by omega)
  unfold setV at HC
  rw [HZS.out.1, HZS.out.2.1, HZS.out.2.2.1, HZS.out.2.2.2] at HC
  simp only [Int.natCast_zero] at HC
  go_wp2_with fail
  refine HC.out.mono ?_
  rintro e w2 ⟨rfl, h2, f2⟩
  have HS2 : Hid (Sb w0 b0 B Y A ⟨6, s, a, n, c, mn, mx⟩ w w2 (m.st.ed ⟨3, a0, m.S, s⟩)) := HSB.out.call h2 f2
  clear h2 f2 HSB HC y0 y1 y2 y3 y4 y5 y6 y7
  go_wp2
  go_ret
  rw [← HR.out]
  exact ⟨rfl, HS2.out.bb, HS2.out.fm⟩
set_option maxRecDepth 4000 in
set_option maxHeartbeats 8000000 in
theorem way_7 {w0 : World} {B : Nat} {s : Oct.S} {subs : List Tn} {mn mx : Int} {a : Option Addr} {n c : Nat} {vs : List Nd} (hn : n = subs.length) (hl : vs.length = n) (hm : n ≤ 1000000) (hr : RowAt (fun b => b ≠ B) w0 a vs) (hs : ∀ (i : Nat) (t : Tn) (v : Nd), subs[i]? = some t → vs[i]? = some v → LayV w0 B t v) (hno : noSet s = true) : WayV 48 w0 B (.mk 7 s subs mn mx) ⟨7, s, a, n, c, mn, mx⟩ := by
  have hz : Oct.word s 0 = 0 ∧ Oct.word s 1 = 0 ∧ Oct.word s 2 = 0 ∧ Oct.word s 3 = 0 := by
    unfold noSet at hno
    simp at hno
    omega
  have HZS : Hid (Oct.word s 0 = 0 ∧ Oct.word s 1 = 0 ∧ Oct.word s 2 = 0 ∧ Oct.word s 3 = 0) := hz
  clear hz hno
  intro w b0 Y m a0 hlow h0 hb hbb hS hE
  obtain ⟨R, hR⟩ : ∃ R, lay (.mk 7 s subs mn mx) m a0 = R := ⟨_, rfl⟩
  rw [hR] at hS hE ⊢
  have HR : Hid ((m.st.ed ⟨4, a0, m.S, s⟩, m.S) = R) := by show _ = _; rw [← hR, lay_mk]; simp
  have HIH : Hid (∀ (i : Nat) (t : Tn) (v : Nd), subs[i]? = some t → vs[i]? = some v → LayV w0 B t v) := hs
  have HRO : Hid (RowAt (fun b => b ≠ B) w0 a vs) := hr
  have HN : Hid (n = subs.length) := hn
  have HL : Hid (vs.length = n) := hl
  have HBS : Hid (R.1.S ≤ 1000000 ∧ R.1.es.length ≤ 1000000) := ⟨hS, hE⟩
  have HM0 : Hid (n ≤ 1000000) := hm
  clear hs hr hn hl hS hE hR
  have HSB : Hid (Sb w0 b0 B Y w.heap.size ⟨7, s, a, n, c, mn, mx⟩ w (w.alloc (.cells #[.int .i64 7, .int .u64 (Oct.word s 0 : Nat), .int .u64 (Oct.word s 1 : Nat), .int .u64 (Oct.word s 2 : Nat), .int .u64 (Oct.word s 3 : Nat), .slice a n c, .int .i64 mn, .int .i64 mx] 30)) m) := sb_start w0 ⟨7, s, a, n, c, mn, mx⟩ hbb hlow hb h0
  obtain ⟨w1, hw1⟩ : ∃ w1, w.alloc (.cells #[.int .i64 7, .int .u64 (Oct.word s 0 : Nat), .int .u64 (Oct.word s 1 : Nat), .int .u64 (Oct.word s 2 : Nat), .int .u64 (Oct.word s 3 : Nat), .slice a n c, .int .i64 mn, .int .i64 mx] 30) = w1 := ⟨_, rfl⟩
  rw [hw1] at HSB
  obtain ⟨A, hA⟩ : ∃ A, w.heap.size = A := ⟨_, rfl⟩
  rw [hA] at HSB
  have HW1 : Hid (w.alloc (.cells #[.int .i64 7, .int .u64 (Oct.word s 0 : Nat), .int .u64 (Oct.word s 1 : Nat), .int .u64 (Oct.word s 2 : Nat), .int .u64 (Oct.word s 3 : Nat), .slice a n c, .int .i64 mn, .int .i64 mx] 30) = w1) := hw1
  have HAA : Hid (w.heap.size = A) := hA
  have HB : Hid (b0 ≤ w.heap.size) := hb
  have H0 : Hid (w0.heap.size ≤ b0) := h0
  clear hw1 hA hb h0 hlow hbb
  obtain ⟨y0, y1, y2, y3, y4, y5, y6, y7⟩ := HSB.out.nb.cells
  simp only at y0 y1 y2 y3 y4 y5 y6 y7
  unfold Nd.val
  simp only
  go_enter Tryz.func48, Tryz.ntmps48
  go_upto_region 1 with fail
  rw [HW1.out, HAA.out]
  clear HW1
  clear HIH HRO
  have hgr : m.S + 1 ≤ 1000000 := by have := HBS.out.1; rw [← HR.out] at this; exact this
  have hge : m.es.length + 1 ≤ 1000000 := by have := HBS.out.2; rw [← HR.out] at this; simpa [Mk.st, Mk.ed] using this
  have HC : Hid (Calls Tryz.prog 67 #[.pointer (some ⟨B, 0, none⟩), .int .i64 4, .int .i64 (a0 : Nat), setV s] w1 _) := onward_any B b0 Y m 4 a0 s w1 HSB.out.bb HSB.out.sz (by omega) (by omega)
  unfold setV at HC
  rw [HZS.out.1, HZS.out.2.1, HZS.out.2.2.1, HZS.out.2.2.2] at HC
  simp only [Int.natCast_zero] at HC
  go_wp2_with fail
  refine HC.out.mono ?_
  rintro e w2 ⟨rfl, h2, f2⟩
  have HS2 : Hid (Sb w0 b0 B Y A ⟨7, s, a, n, c, mn, mx⟩ w w2 (m.st.ed ⟨4, a0, m.S, s⟩)) := HSB.out.call h2 f2
  clear h2 f2 HSB HC y0 y1 y2 y3 y4 y5 y6 y7
  go_wp2
  go_ret
  rw [← HR.out]
  exact ⟨rfl, HS2.out.bb, HS2.out.fm⟩
set_option maxRecDepth 4000 in
set_option maxHeartbeats 8000000 in
theorem way_1 {w0 : World} {B : Nat} {s : Oct.S} {subs : List Tn} {mn mx : Int} {a : Option Addr} {n c : Nat} {vs : List Nd} (hn : n = subs.length) (hl : vs.length = n) (hm : n ≤ 1000000) (hr : RowAt (fun b => b ≠ B) w0 a vs) (hs : ∀ (i : Nat) (t : Tn) (v : Nd), subs[i]? = some t → vs[i]? = some v → LayV w0 B t v) : WayV 42 w0 B (.mk 1 s subs mn mx) ⟨1, s, a, n, c, mn, mx⟩ := by
  intro w b0 Y m a0 hlow h0 hb hbb hS hE
  obtain ⟨R, hR⟩ : ∃ R, lay (.mk 1 s subs mn mx) m a0 = R := ⟨_, rfl⟩
  rw [hR] at hS hE ⊢
  have HR : Hid ((m, a0) = R) := by show _ = _; rw [← hR, lay_mk]; simp
  have HIH : Hid (∀ (i : Nat) (t : Tn) (v : Nd), subs[i]? = some t → vs[i]? = some v → LayV w0 B t v) := hs
  have HRO : Hid (RowAt (fun b => b ≠ B) w0 a vs) := hr
  have HN : Hid (n = subs.length) := hn
  have HL : Hid (vs.length = n) := hl
  have HBS : Hid (R.1.S ≤ 1000000 ∧ R.1.es.length ≤ 1000000) := ⟨hS, hE⟩
  have HM0 : Hid (n ≤ 1000000) := hm
  clear hs hr hn hl hS hE hR
  have HSB : Hid (Sb w0 b0 B Y w.heap.size ⟨1, s, a, n, c, mn, mx⟩ w (w.alloc (.cells #[.int .i64 1, .int .u64 (Oct.word s 0 : Nat), .int .u64 (Oct.word s 1 : Nat), .int .u64 (Oct.word s 2 : Nat), .int .u64 (Oct.word s 3 : Nat), .slice a n c, .int .i64 mn, .int .i64 mx] 30)) m) := sb_start w0 ⟨1, s, a, n, c, mn, mx⟩ hbb hlow hb h0
  obtain ⟨w1, hw1⟩ : ∃ w1, w.alloc (.cells #[.int .i64 1, .int .u64 (Oct.word s 0 : Nat), .int .u64 (Oct.word s 1 : Nat), .int .u64 (Oct.word s 2 : Nat), .int .u64 (Oct.word s 3 : Nat), .slice a n c, .int .i64 mn, .int .i64 mx] 30) = w1 := ⟨_, rfl⟩
  rw [hw1] at HSB
  obtain ⟨A, hA⟩ : ∃ A, w.heap.size = A := ⟨_, rfl⟩
  rw [hA] at HSB
  have HW1 : Hid (w.alloc (.cells #[.int .i64 1, .int .u64 (Oct.word s 0 : Nat), .int .u64 (Oct.word s 1 : Nat), .int .u64 (Oct.word s 2 : Nat), .int .u64 (Oct.word s 3 : Nat), .slice a n c, .int .i64 mn, .int .i64 mx] 30) = w1) := hw1
  have HAA : Hid (w.heap.size = A) := hA
  have HB : Hid (b0 ≤ w.heap.size) := hb
  have H0 : Hid (w0.heap.size ≤ b0) := h0
  clear hw1 hA hb h0 hlow hbb
  obtain ⟨y0, y1, y2, y3, y4, y5, y6, y7⟩ := HSB.out.nb.cells
  simp only at y0 y1 y2 y3 y4 y5 y6 y7
  unfold Nd.val
  simp only
  go_enter Tryz.func42, Tryz.ntmps42
  go_upto_region 1 with fail
  rw [HW1.out, HAA.out]
  clear HW1
  clear HIH HRO
  go_wp2
  go_ret
  rw [← HR.out]
  exact ⟨rfl, HSB.out.bb, HSB.out.fm⟩
end Go.Proofs.YtmjnobdlgbojoaaGreatDoor


namespace Go.Proofs.YtmjnobdlgbojoaaGreatDoor
open Go.RowKit
attribute [local go_sem ↓] Go.wp_at_zero Go.wp_at_succ
theorem tails_one (F : Mk → Nat → Mk × Nat) (j : Nat) (x : Mk × Nat) (l : List Nat) : tails F (j + 1) x l = tails F j (F x.1 x.2) (l ++ [(F x.1 x.2).2]) := rfl
theorem rowI_first (w : World) (base a : Nat) (hb : base ≤ w.heap.size) : RowI (w.alloc (.cells #[.int .i64 (a : Nat)] 3)) base (.slice (some ⟨w.heap.size, 0, none⟩) 1 1) [a] := by
  refine ⟨rfl, Or.inr ⟨w.heap.size, 1, _, rfl, hb, heap_alloc_new w _, Nat.le_refl _, by decide, rfl, rfl⟩⟩
set_option maxRecDepth 4000 in
set_option maxHeartbeats 8000000 in
theorem bloop_any {w0 : World} {B : Nat} {t : Tn} {v : Nd} (HL : LayV w0 B t v) (w : World) (b0 Y : Nat) (m : Mk) (a : Nat) (hlow : Kp B w0 w) (h0 : w0.heap.size ≤ b0) (hb : b0 ≤ w.heap.size) (hbb : BB w b0 B Y m) (hS : (again (lay t) (m, a)).1.S ≤ 1000000) (hE : (again (lay t) (m, a)).1.es.length ≤ 1000000) : Calls Tryz.prog 70 #[.pointer (some ⟨B, 0, none⟩), v.val, .int .i64 (a : Nat)] w fun e w' => e = .returned (.int .i64 ((again (lay t) (m, a)).2 : Nat)) ∧ BB w' b0 B Y (again (lay t) (m, a)).1 ∧ Fm b0 B w w' := by
  obtain ⟨r, hr⟩ : ∃ r, lay t (m.st.fr a m.S) m.S = r := ⟨_, rfl⟩
  have HRR : Hid (lay t (m.st.fr a m.S) m.S = r) := hr
  have HA : Hid (again (lay t) (m, a) = (((r.1.fr r.2 m.S).st).fr m.S r.1.S, r.1.S)) := by show _ = _; rw [← hr]; rfl
  have hle := lay_le t (m.st.fr a m.S) m.S
  rw [hr] at hle
  rw [HA.out] at hS hE ⊢
  have hS2 : r.1.S + 1 ≤ 1000000 := hS
  have hE2 : r.1.es.length + 1 + 1 ≤ 1000000 := by simpa [Mk.fr, Mk.ed, Mk.st] using hE
  have hS1 : m.S + 1 ≤ r.1.S := hle.1
  have hE1 : m.es.length + 1 ≤ r.1.es.length := by simpa [Mk.fr, Mk.ed, Mk.st] using hle.2
  have HLL : Hid (LayV w0 B t v) := HL
  clear HL hr hle HA hS hE
  have HSB : Hid (Sb w0 b0 B Y w.heap.size v w (w.alloc (.cells #[.int .i64 v.k, .int .u64 (Oct.word v.s 0 : Nat), .int .u64 (Oct.word v.s 1 : Nat), .int .u64 (Oct.word v.s 2 : Nat), .int .u64 (Oct.word v.s 3 : Nat), .slice v.a v.n v.c, .int .i64 v.mn, .int .i64 v.mx] 30)) m) := sb_start w0 v hbb hlow hb h0
  obtain ⟨w1, hw1⟩ : ∃ w1, w.alloc (.cells #[.int .i64 v.k, .int .u64 (Oct.word v.s 0 : Nat), .int .u64 (Oct.word v.s 1 : Nat), .int .u64 (Oct.word v.s 2 : Nat), .int .u64 (Oct.word v.s 3 : Nat), .slice v.a v.n v.c, .int .i64 v.mn, .int .i64 v.mx] 30) = w1 := ⟨_, rfl⟩
  rw [hw1] at HSB
  obtain ⟨A, hA⟩ : ∃ A, w.heap.size = A := ⟨_, rfl⟩
  rw [hA] at HSB
  have HW1 : Hid (w.alloc (.cells #[.int .i64 v.k, .int .u64 (Oct.word v.s 0 : Nat), .int .u64 (Oct.word v.s 1 : Nat), .int .u64 (Oct.word v.s 2 : Nat), .int .u64 (Oct.word v.s 3 : Nat), .slice v.a v.n v.c, .int .i64 v.mn, .int .i64 v.mx] 30) = w1) := hw1
  have HAA : Hid (w.heap.size = A) := hA
  have HB : Hid (b0 ≤ w.heap.size) := hb
  have H0 : Hid (w0.heap.size ≤ b0) := h0
  clear hw1 hA hb h0 hlow hbb
  obtain ⟨y0, y1, y2, y3, y4, y5, y6, y7⟩ := HSB.out.nb.cells
  unfold Nd.val
  go_enter Tryz.func70, Tryz.ntmps70
  go_upto_region 1 with fail
  rw [HW1.out, HAA.out]
  clear HW1
  go_wp2_with fail
  refine (fork_any B b0 Y m a w1 HSB.out.bb HSB.out.sz (by omega) (by omega)).mono ?_
  rintro e w2 ⟨rfl, h2, f2⟩
  have HS2 : Hid (Sb w0 b0 B Y A v w w2 (m.st.fr a m.S)) := HSB.out.call h2 f2
  clear h2 f2 HSB y0 y1 y2 y3 y4 y5 y6 y7
  obtain ⟨y0, y1, y2, y3, y4, y5, y6, y7⟩ := HS2.out.nb.cells
  have HC : Hid (Calls Tryz.prog 21 #[.pointer (some ⟨B, 0, none⟩), v.val, .int .i64 (m.S : Nat)] w2 _) := HLL.out w2 b0 Y (m.st.fr a m.S) m.S HS2.out.low H0.out HS2.out.sz HS2.out.bb (by rw [HRR.out]; omega) (by rw [HRR.out]; omega)
  rw [HRR.out] at HC
  unfold Nd.val at HC
  go_wp2_with fail
  refine HC.out.mono ?_
  rintro e w3 ⟨rfl, h3, f3⟩
  have HS3 : Hid (Sb w0 b0 B Y A v w w3 r.1) := HS2.out.call h3 f3
  clear h3 f3 HS2 HC y0 y1 y2 y3 y4 y5 y6 y7
  go_wp2_with fail
  refine (bfree_any B b0 Y r.1 r.2 m.S w3 HS3.out.bb HS3.out.sz (by omega)).mono ?_
  rintro e w4 ⟨rfl, h4, f4⟩
  have HS4 : Hid (Sb w0 b0 B Y A v w w4 (r.1.fr r.2 m.S)) := HS3.out.call h4 f4
  clear h4 f4 HS3
  have HC : Hid (Calls Tryz.prog 68 #[.pointer (some ⟨B, 0, none⟩), .int .i64 (m.S : Nat)] w4 fun e w' => e = .returned (.int .i64 (r.1.S : Nat)) ∧ BB w' b0 B Y ((r.1.fr r.2 m.S).st.fr m.S r.1.S) ∧ Fm b0 B w4 w') := fork_any B b0 Y (r.1.fr r.2 m.S) m.S w4 HS4.out.bb HS4.out.sz (by show r.1.S ≤ _; omega) (by simp [Mk.fr, Mk.ed]; omega)
  go_wp2_with fail
  refine HC.out.mono ?_
  rintro e w5 ⟨rfl, h5, f5⟩
  have HS5 : Hid (Sb w0 b0 B Y A v w w5 ((r.1.fr r.2 m.S).st.fr m.S r.1.S)) := HS4.out.call h5 f5
  clear h5 f5 HS4 HC
  go_wp2
  go_ret
  exact ⟨rfl, HS5.out.bb, HS5.out.fm⟩
set_option maxRecDepth 4000 in
set_option maxHeartbeats 8000000 in
theorem bupTo_any {w0 : World} {B : Nat} {t : Tn} {v : Nd} (HL : LayV w0 B t v) (X : Nat) (hX : X ≤ 255) (w : World) (b0 Y : Nat) (m : Mk) (a : Nat) (hlow : Kp B w0 w) (h0 : w0.heap.size ≤ b0) (hb : b0 ≤ w.heap.size) (hbb : BB w b0 B Y m) (hS : (joint (tails (lay t) X (m, a) [a])).1.S ≤ 1000000) (hE : (joint (tails (lay t) X (m, a) [a])).1.es.length ≤ 1000000) : Calls Tryz.prog 71 #[.pointer (some ⟨B, 0, none⟩), v.val, .int .i64 (X : Nat), .int .i64 (a : Nat)] w fun e w' => e = .returned (.int .i64 ((joint (tails (lay t) X (m, a) [a])).2 : Nat)) ∧ BB w' b0 B Y (joint (tails (lay t) X (m, a) [a])).1 ∧ Fm b0 B w w' := by
  obtain ⟨R, hR⟩ : ∃ R, tails (lay t) X (m, a) [a] = R := ⟨_, rfl⟩
  have HR : Hid (tails (lay t) (X - 0) (m, a) [a] = R) := hR
  rw [hR] at hS hE ⊢
  have HJS : Hid ((joint R).1.S ≤ 1000000 ∧ (joint R).1.es.length ≤ 1000000) := ⟨hS, hE⟩
  have hJ := joint_le R
  have HRS : Hid (R.1.S ≤ 1000000 ∧ R.1.es.length ≤ 1000000) := ⟨Nat.le_trans hJ.1 hS, Nat.le_trans hJ.2 hE⟩
  have HLL : Hid (LayV w0 B t v) := HL
  clear HL hR hJ hS hE
  have HSB : Hid (Sb w0 b0 B Y w.heap.size v w (w.alloc (.cells #[.int .i64 v.k, .int .u64 (Oct.word v.s 0 : Nat), .int .u64 (Oct.word v.s 1 : Nat), .int .u64 (Oct.word v.s 2 : Nat), .int .u64 (Oct.word v.s 3 : Nat), .slice v.a v.n v.c, .int .i64 v.mn, .int .i64 v.mx] 30)) m) := sb_start w0 v hbb hlow hb h0
  obtain ⟨w1, hw1⟩ : ∃ w1, w.alloc (.cells #[.int .i64 v.k, .int .u64 (Oct.word v.s 0 : Nat), .int .u64 (Oct.word v.s 1 : Nat), .int .u64 (Oct.word v.s 2 : Nat), .int .u64 (Oct.word v.s 3 : Nat), .slice v.a v.n v.c, .int .i64 v.mn, .int .i64 v.mx] 30) = w1 := ⟨_, rfl⟩
  rw [hw1] at HSB
  obtain ⟨A, hA⟩ : ∃ A, w.heap.size = A := ⟨_, rfl⟩
  rw [hA] at HSB
  have HW1 : Hid (w.alloc (.cells #[.int .i64 v.k, .int .u64 (Oct.word v.s 0 : Nat), .int .u64 (Oct.word v.s 1 : Nat), .int .u64 (Oct.word v.s 2 : Nat), .int .u64 (Oct.word v.s 3 : Nat), .slice v.a v.n v.c, .int .i64 v.mn, .int .i64 v.mx] 30) = w1) := hw1
  have HAA : Hid (w.heap.size = A) := hA
  have HB : Hid (b0 ≤ w.heap.size) := hb
  have H0 : Hid (w0.heap.size ≤ b0) := h0
  clear hw1 hA hb h0 hlow hbb
  obtain ⟨y0, y1, y2, y3, y4, y5, y6, y7⟩ := HSB.out.nb.cells
  unfold Nd.val
  go_enter Tryz.func71, Tryz.ntmps71
  go_upto_region 1 with fail
  rw [HW1.out, HAA.out]
  clear HW1
  have kk : Below w1.heap.size w1 (w1.alloc (.cells #[.int .i64 (a : Nat)] 3)) := (Below.refl _ _).alloc (Nat.le_refl _) _
  have HS2 : Hid (Sb w0 b0 B Y A v w (w1.alloc (.cells #[.int .i64 (a : Nat)] 3)) m) := HSB.out.later kk
  have HI2 : Hid (RowI (w1.alloc (.cells #[.int .i64 (a : Nat)] 3)) w.heap.size (.slice (some ⟨w1.heap.size, 0, none⟩) 1 1) [a]) := rowI_first w1 w.heap.size a HSB.out.fm.size
  clear kk
  go_upto_region 2 with fail
  obtain ⟨w2, hw2⟩ : ∃ w2, w1.alloc (.cells #[.int .i64 (a : Nat)] 3) = w2 := ⟨_, rfl⟩
  rw [hw2] at HS2 HI2 ⊢
  clear hw2 HSB y0 y1 y2 y3 y4 y5 y6 y7
  go_wp2_with fail
  go_loopw [3, 9, 13] (fun va ve i q => ∃ (j : Nat) (m' : Mk) (a' : Nat) (l : List Nat), va = .int .i64 (a' : Nat) ∧ i = .int .i64 (j : Nat) ∧ j ≤ X ∧ Hid (l.length = j + 1) ∧ Hid (tails (lay t) (X - j) (m', a') l = R) ∧ Hid (RowI q w.heap.size ve l) ∧ Hid (Sb w0 b0 B Y A v w q m')) (fun _ _ i _ => X - (intOf i).toNat)
  case atStart => exact ⟨0, m, a, [a], rfl, rfl, Nat.zero_le _, rfl, HR, HI2, HS2⟩
  case round =>
    clear HS2 HI2 HR
    obtain ⟨j, m', a', l, rfl, rfl, hjn, HLJ, HRj, HIj, HSj⟩ := hrel
    obtain ⟨y0, y1, y2, y3, y4, y5, y6, y7⟩ := HSj.out.nb.cells
    by_cases hlt : j < X
    · have hlt' : (j : Int) < (X : Int) := by omega
      have HRn : Hid (tails (lay t) (X - (j + 1)) (lay t m' a') (l ++ [(lay t m' a').2]) = R) := by
        show _ = _
        rw [← HRj.out, show X - j = (X - (j + 1)) + 1 by omega, tails_one]
      have HLE : Hid ((lay t m' a').1.le R.1) := by have h1 := tails_le (lay_le t) (X - (j + 1)) (lay t m' a') (l ++ [(lay t m' a').2]); rw [HRn.out] at h1; exact h1
      have HC : Hid (Calls Tryz.prog 21 #[.pointer (some ⟨B, 0, none⟩), v.val, .int .i64 (a' : Nat)] wr _) := HLL.out wr b0 Y m' a' HSj.out.low H0.out HSj.out.sz HSj.out.bb (Nat.le_trans HLE.out.1 HRS.out.1) (Nat.le_trans HLE.out.2 HRS.out.2)
      obtain ⟨r, hr⟩ : ∃ r, lay t m' a' = r := ⟨_, rfl⟩
      rw [hr] at HC HRn
      clear hr HLE HRj
      unfold Nd.val at HC
      go_wp2_with fail
      refine HC.out.mono ?_
      rintro e w4 ⟨rfl, h4, f4⟩
      have HS4 : Hid (Sb w0 b0 B Y A v w w4 r.1) := HSj.out.call h4 f4
      have HI4 : Hid (RowI w4 w.heap.size u9 l) := HIj.out.fmb HSj.out.bb f4
      clear h4 f4 HC HSj HIj y0 y1 y2 y3 y4 y5 y6 y7
      have kk : Below w4.heap.size w4 (w4.alloc (.cells #[.int .i64 (r.2 : Nat)] 3)) := (Below.refl _ _).alloc (Nat.le_refl _) _
      have HS5 : Hid (Sb w0 b0 B Y A v w (w4.alloc (.cells #[.int .i64 (r.2 : Nat)] 3)) r.1) := HS4.out.later kk
      have HI5 : Hid (RowI (w4.alloc (.cells #[.int .i64 (r.2 : Nat)] 3)) w.heap.size u9 l) := HI4.out.keep (fun b _ hlt _ => kk.block b hlt)
      have HC5 : Hid ((w4.alloc (.cells #[.int .i64 (r.2 : Nat)] 3)).cell? ⟨w4.heap.size, 0, none⟩ = some (.int .i64 (r.2 : Nat))) := by show _ = _; rw [World.cell?_alloc_mark]; rfl
      have HLQ2 : Hid (l.length ≤ 2000000) := by have := HLJ.out; show _ ≤ _; omega
      have HZ5 : Hid (w.heap.size ≤ (w4.alloc (.cells #[.int .i64 (r.2 : Nat)] 3)).heap.size) := HS5.out.fm.size
      clear kk
      go_wp2_with (at_builtin; go_must (refine wpList_append_int rfl _ _ rfl w.heap.size _ l rfl HI5.out ⟨w4.heap.size, 0, none⟩ 1 r.2 rfl HC5.out HLQ2.out HZ5.out ?_; intro g' cap' w6 hn6 hg6; have HI6 : Hid (RowI w6 w.heap.size _ (l ++ [r.2])) := hn6; have HG6 : Hid ((w4.alloc (.cells #[.int .i64 (r.2 : Nat)] 3)).grownBy w6 u9.ownBlock) := hg6; clear hn6 hg6))
      have HS6 : Hid (Sb w0 b0 B Y A v w w6 r.1) := HS5.out.own HG6.out (HI5.out.ty) HB.out
      go_roundw
      case rel => exact ⟨j + 1, r.1, r.2, l ++ [r.2], rfl, by go_num, by omega, (by have := HLJ.out; show _ = _; simp; omega), HRn, HI6, HS6⟩
      case measure => simp [intOf]; omega
    · have hlt' : ¬ (j : Int) < (X : Int) := by omega
      have HRF : Hid (R = (m', l)) := by
        show _ = _
        rw [← HRj.out, show X - j = 0 by omega, tails]
      obtain ⟨oa, oc, hV, hlc, hcm⟩ := HIj.out.form
      subst hV
      obtain ⟨N, hN⟩ : ∃ N, l.length = N := ⟨_, rfl⟩
      rw [hN] at HIj hlc ⊢
      simp only [maxLen] at hcm
      have HC : Hid (Calls Tryz.prog 69 #[.pointer (some ⟨B, 0, none⟩), .slice oa N oc] wr _) := bjoin_any B b0 Y w.heap.size m' l oa N oc wr hN HSj.out.bb HSj.out.sz HIj.out (by rw [← HRF.out]; exact HJS.out.1) (by rw [← HRF.out]; exact HJS.out.2)
      rw [← HRF.out] at HC
      clear hN hlc hcm
      go_wp2_with fail
      refine HC.out.mono ?_
      rintro e w4 ⟨rfl, h4, f4⟩
      have HS4 : Hid (Sb w0 b0 B Y A v w w4 (joint R).1) := HSj.out.call h4 f4
      clear h4 f4 HC HSj HIj HRj
      go_wp2
      go_ret
      exact ⟨rfl, HS4.out.bb, HS4.out.fm⟩
end Go.Proofs.YtmjnobdlgbojoaaGreatDoor


namespace Go.Proofs.YtmjnobdlgbojoaaGreatDoor
open Go.RowKit
attribute [local go_sem ↓] Go.wp_at_zero Go.wp_at_succ
theorem rounds_one (F : Mk → Nat → Mk × Nat) (j : Nat) (x : Mk × Nat) : rounds F (j + 1) x = rounds F j (F x.1 x.2) := rfl
set_option maxRecDepth 4000 in
set_option maxHeartbeats 16000000 in
theorem way_times {w0 : World} {B : Nat} {s : Oct.S} {t : Tn} {v : Nd} {mn mx : Int} {a : Option Addr} {c : Nat} (hr : RowAt (fun b => b ≠ B) w0 a [v]) (HL : LayV w0 B t v) (hp : placesOf t ≠ 1) (hmn : 0 ≤ mn ∧ mn ≤ 255) (hmx : mx = -1 ∨ mn ≤ mx ∧ mx ≤ 255) : WayV 46 w0 B (.mk 5 s [t] mn mx) ⟨5, s, a, 1, c, mn, mx⟩ := by
  intro w b0 Y m a0 hlow h0 hb hbb hS hE
  obtain ⟨R, hR⟩ : ∃ R, lay (.mk 5 s [t] mn mx) m a0 = R := ⟨_, rfl⟩
  rw [hR] at hS hE ⊢
  obtain ⟨M, rfl⟩ : ∃ M : Nat, mn = (M : Nat) := ⟨mn.toNat, by omega⟩
  have hM : M ≤ 255 := by omega
  have HRC : Hid (R = if mx = -1 then again (lay t) (rounds (lay t) M (m, a0)) else if mx = (M : Nat) then rounds (lay t) M (m, a0) else joint (tails (lay t) (mx - (M : Nat)).toNat (rounds (lay t) M (m, a0)) [(rounds (lay t) M (m, a0)).2])) := by
    show _ = _
    rw [← hR, lay_mk]
    simp only [show ¬ ((5 : Int) = 2 ∨ (5 : Int) = 6 ∨ (5 : Int) = 7) by decide, show ¬ (5 : Int) = 3 by decide, show ¬ (5 : Int) = 4 by decide, if_false, if_true, hd]
    unfold timesOf
    rw [if_neg hp, Int.toNat_natCast]
  have HRO : Hid (RowAt (fun b => b ≠ B) w0 a [v]) := hr
  have HLL : Hid (LayV w0 B t v) := HL
  have HBS : Hid (R.1.S ≤ 1000000 ∧ R.1.es.length ≤ 1000000) := ⟨hS, hE⟩
  obtain ⟨C, hC⟩ : ∃ C, rounds (lay t) M (m, a0) = C := ⟨_, rfl⟩
  have HCC : Hid (rounds (lay t) (M - 0) (m, a0) = C) := hC
  rw [hC] at HRC
  have HCL : Hid (C.1.le R.1) := by
    show C.1.le R.1
    rw [HRC.out]
    split
    · exact again_le (lay_le t) C
    split
    · exact .refl _
    · exact (tails_le (lay_le t) _ _ _).trans (joint_le _)
  clear hr HL hS hE hR hC hp
  have HSB : Hid (Sb w0 b0 B Y w.heap.size ⟨5, s, a, 1, c, (M : Nat), mx⟩ w (w.alloc (.cells #[.int .i64 5, .int .u64 (Oct.word s 0 : Nat), .int .u64 (Oct.word s 1 : Nat), .int .u64 (Oct.word s 2 : Nat), .int .u64 (Oct.word s 3 : Nat), .slice a 1 c, .int .i64 (M : Nat), .int .i64 mx] 30)) m) := sb_start w0 ⟨5, s, a, 1, c, (M : Nat), mx⟩ hbb hlow hb h0
  obtain ⟨w1, hw1⟩ : ∃ w1, w.alloc (.cells #[.int .i64 5, .int .u64 (Oct.word s 0 : Nat), .int .u64 (Oct.word s 1 : Nat), .int .u64 (Oct.word s 2 : Nat), .int .u64 (Oct.word s 3 : Nat), .slice a 1 c, .int .i64 (M : Nat), .int .i64 mx] 30) = w1 := ⟨_, rfl⟩
  rw [hw1] at HSB
  obtain ⟨A, hA⟩ : ∃ A, w.heap.size = A := ⟨_, rfl⟩
  rw [hA] at HSB
  have HW1 : Hid (w.alloc (.cells #[.int .i64 5, .int .u64 (Oct.word s 0 : Nat), .int .u64 (Oct.word s 1 : Nat), .int .u64 (Oct.word s 2 : Nat), .int .u64 (Oct.word s 3 : Nat), .slice a 1 c, .int .i64 (M : Nat), .int .i64 mx] 30) = w1) := hw1
  have HAA : Hid (w.heap.size = A) := hA
  have HB : Hid (b0 ≤ w.heap.size) := hb
  have H0 : Hid (w0.heap.size ≤ b0) := h0
  clear hw1 hA hb h0 hlow hbb
  obtain ⟨y0, y1, y2, y3, y4, y5, y6, y7⟩ := HSB.out.nb.cells
  simp only at y0 y1 y2 y3 y4 y5 y6 y7
  unfold Nd.val
  simp only
  go_enter Tryz.func46, Tryz.ntmps46
  go_upto_region 1 with fail
  rw [HW1.out, HAA.out]
  clear HW1
  have hrow := (HRO.out.keep (w' := w1) (Y := fun _ => True) (fun _ _ _ => trivial) (fun b hb hlt => HSB.out.low.2 b hlt hb)).nth (i := 0) rfl
  obtain ⟨g, off, hgo, e0, e1, e2, e3, e4, e5, e6, e7⟩ := hrow
  cases hgo
  simp only [Nat.zero_mul, Nat.add_zero] at e0 e1 e2 e3 e4 e5 e6 e7
  have kk : Below w1.heap.size w1 (w1.alloc (.cells #[.int .i64 v.k, .int .u64 (Oct.word v.s 0 : Nat), .int .u64 (Oct.word v.s 1 : Nat), .int .u64 (Oct.word v.s 2 : Nat), .int .u64 (Oct.word v.s 3 : Nat), .slice v.a v.n v.c, .int .i64 v.mn, .int .i64 v.mx] 30)) := (Below.refl _ _).alloc (Nat.le_refl _) _
  have HS2 : Hid (Sb w0 b0 B Y A ⟨5, s, some ⟨g, off, none⟩, 1, c, (M : Nat), mx⟩ w (w1.alloc (.cells #[.int .i64 v.k, .int .u64 (Oct.word v.s 0 : Nat), .int .u64 (Oct.word v.s 1 : Nat), .int .u64 (Oct.word v.s 2 : Nat), .int .u64 (Oct.word v.s 3 : Nat), .slice v.a v.n v.c, .int .i64 v.mn, .int .i64 v.mx] 30)) m) := HSB.out.later kk
  have HV2 : Hid (NB (w1.alloc (.cells #[.int .i64 v.k, .int .u64 (Oct.word v.s 0 : Nat), .int .u64 (Oct.word v.s 1 : Nat), .int .u64 (Oct.word v.s 2 : Nat), .int .u64 (Oct.word v.s 3 : Nat), .slice v.a v.n v.c, .int .i64 v.mn, .int .i64 v.mx] 30)) w1.heap.size v) := nb_new w1 v
  go_upto_region 2 with fail
  obtain ⟨w2, hw2⟩ : ∃ w2, w1.alloc (.cells #[.int .i64 v.k, .int .u64 (Oct.word v.s 0 : Nat), .int .u64 (Oct.word v.s 1 : Nat), .int .u64 (Oct.word v.s 2 : Nat), .int .u64 (Oct.word v.s 3 : Nat), .slice v.a v.n v.c, .int .i64 v.mn, .int .i64 v.mx] 30) = w2 := ⟨_, rfl⟩
  obtain ⟨A2, hA2⟩ : ∃ A2, w1.heap.size = A2 := ⟨_, rfl⟩
  rw [hw2] at HS2 HV2 ⊢
  rw [hA2] at HV2 ⊢
  clear hw2 hA2 kk HSB e0 e1 e2 e3 e4 e5 e6 e7 y0 y1 y2 y3 y4 y5 y6 y7
  obtain ⟨y0, y1, y2, y3, y4, y5, y6, y7⟩ := HS2.out.nb.cells
  simp only at y0 y1 y2 y3 y4 y5 y6 y7
  go_wp2_with fail
  clear y0 y1 y2 y3 y4 y5 y6 y7
  go_loopw [2, 14] (fun va i u => ∃ (j : Nat) (m' : Mk) (a' : Nat), va = .int .i64 (a' : Nat) ∧ i = .int .i64 (j : Nat) ∧ j ≤ M ∧ Hid (rounds (lay t) (M - j) (m', a') = C) ∧ Hid (NB u A2 v) ∧ Hid (Sb w0 b0 B Y A ⟨5, s, some ⟨g, off, none⟩, 1, c, (M : Nat), mx⟩ w u m')) (fun _ i _ => M - (intOf i).toNat)
  case atStart => exact ⟨0, m, a0, rfl, rfl, Nat.zero_le _, HCC, HV2, HS2⟩
  case round =>
    clear HS2 HV2 HCC
    obtain ⟨j, m', a', rfl, rfl, hjn, HRj, HVj, HSj⟩ := hrel
    by_cases hlt : j < M
    · have hlt' : (j : Int) < (M : Int) := by omega
      obtain ⟨z0, z1, z2, z3, z4, z5, z6, z7⟩ := HVj.out.cells
      have HRn : Hid (rounds (lay t) (M - (j + 1)) (lay t m' a') = C) := by
        show _ = _
        rw [← HRj.out, show M - j = (M - (j + 1)) + 1 by omega, rounds_one]
      have hle := rounds_le (lay_le t) (M - (j + 1)) (lay t m' a')
      rw [HRn.out] at hle
      have HC : Hid (Calls Tryz.prog 21 #[.pointer (some ⟨B, 0, none⟩), v.val, .int .i64 (a' : Nat)] wr _) := HLL.out wr b0 Y m' a' HSj.out.low H0.out HSj.out.sz HSj.out.bb (Nat.le_trans hle.1 (Nat.le_trans HCL.out.1 HBS.out.1)) (Nat.le_trans hle.2 (Nat.le_trans HCL.out.2 HBS.out.2))
      obtain ⟨r, hr⟩ : ∃ r, lay t m' a' = r := ⟨_, rfl⟩
      rw [hr] at HC HRn
      clear hr hle HRj
      unfold Nd.val at HC
      go_wp2_with fail
      refine HC.out.mono ?_
      rintro e w4 ⟨rfl, h4, f4⟩
      have HS4 : Hid (Sb w0 b0 B Y A ⟨5, s, some ⟨g, off, none⟩, 1, c, (M : Nat), mx⟩ w w4 r.1) := HSj.out.call h4 f4
      have HV4 : Hid (NB w4 A2 v) := f4.keep HVj.out (HSj.out.bb.ne ⟨_, _, HVj.out⟩ (by decide)) (by decide)
      clear h4 f4 HC HSj HVj z0 z1 z2 z3 z4 z5 z6 z7
      go_wp2
      go_roundw
      case rel => exact ⟨j + 1, r.1, r.2, rfl, by go_num, by omega, HRn, HV4, HS4⟩
      case measure => simp [intOf]; omega
    · have hlt' : ¬ (j : Int) < (M : Int) := by omega
      have HCE : Hid (C = (m', a')) := by
        show _ = _
        rw [← HRj.out, show M - j = 0 by omega, rounds]
      rw [HCE.out] at HRC
      clear HRj HCL HCE
      obtain ⟨z0, z1, z2, z3, z4, z5, z6, z7⟩ := HVj.out.cells
      obtain ⟨y0, y1, y2, y3, y4, y5, y6, y7⟩ := HSj.out.nb.cells
      simp only at y0 y1 y2 y3 y4 y5 y6 y7
      by_cases hm1 : mx = -1
      · subst hm1
        have HRA : Hid (R = again (lay t) (m', a')) := by show _ = _; rw [HRC.out, if_pos rfl]
        have HC : Hid (Calls Tryz.prog 70 #[.pointer (some ⟨B, 0, none⟩), v.val, .int .i64 (a' : Nat)] wr _) := bloop_any HLL.out wr b0 Y m' a' HSj.out.low H0.out HSj.out.sz HSj.out.bb (by rw [← HRA.out]; exact HBS.out.1) (by rw [← HRA.out]; exact HBS.out.2)
        rw [← HRA.out] at HC
        unfold Nd.val at HC
        clear HRC HRA
        go_wp2_with fail
        refine HC.out.mono ?_
        rintro e w4 ⟨rfl, h4, f4⟩
        have HS4 : Hid (Sb w0 b0 B Y A ⟨5, s, some ⟨g, off, none⟩, 1, c, (M : Nat), -1⟩ w w4 R.1) := HSj.out.call h4 f4
        clear h4 f4 HC HSj HVj z0 z1 z2 z3 z4 z5 z6 z7 y0 y1 y2 y3 y4 y5 y6 y7
        go_wp2
        go_ret
        exact ⟨rfl, HS4.out.bb, HS4.out.fm⟩
      · obtain ⟨X, rfl⟩ : ∃ X : Nat, mx = (X : Nat) := ⟨mx.toNat, by omega⟩
        have hX1 : ¬ ((X : Nat) : Int) = -1 := by omega
        have hX3 : (((X : Nat) : Int) == -1) = false := by rw [beq_eq_false_iff_ne]; omega
        have hX2 : X ≤ 255 := by omega
        have hX4 : M ≤ X := by omega
        by_cases hXM : X = M
        · subst hXM
          have HRE : Hid (R = (m', a')) := by show _ = _; rw [HRC.out, if_neg hX1, if_pos rfl]
          go_wp2
          go_ret
          rw [HRE.out]
          exact ⟨rfl, HSj.out.bb, HSj.out.fm⟩
        have hXM' : ¬ ((X : Nat) : Int) = ((M : Nat) : Int) := by omega
        have hXM2 : ((M : Nat) : Int) < ((X : Nat) : Int) := by omega
        obtain ⟨Z, hZ⟩ : ∃ Z : Nat, ((X : Nat) : Int) - ((M : Nat) : Int) = ((Z : Nat) : Int) := ⟨X - M, by omega⟩
        have HZZ : Hid (((X : Nat) : Int) - ((M : Nat) : Int) = ((Z : Nat) : Int)) := hZ
        have hZ2 : Z ≤ 255 := by omega
        have HRE : Hid (R = joint (tails (lay t) Z (m', a') [a'])) := by
          show _ = _
          rw [HRC.out, if_neg hX1, if_neg hXM', hZ, Int.toNat_natCast]
        clear hZ HRC
        have HC : Hid (Calls Tryz.prog 71 #[.pointer (some ⟨B, 0, none⟩), v.val, .int .i64 (Z : Nat), .int .i64 (a' : Nat)] wr _) := bupTo_any HLL.out Z hZ2 wr b0 Y m' a' HSj.out.low H0.out HSj.out.sz HSj.out.bb (by rw [← HRE.out]; exact HBS.out.1) (by rw [← HRE.out]; exact HBS.out.2)
        rw [← HRE.out, ← HZZ.out] at HC
        unfold Nd.val at HC
        clear HRE
        go_wp2_with fail
        refine HC.out.mono ?_
        rintro e w4 ⟨rfl, h4, f4⟩
        have HS4 : Hid (Sb w0 b0 B Y A ⟨5, s, some ⟨g, off, none⟩, 1, c, (M : Nat), (X : Nat)⟩ w w4 R.1) := HSj.out.call h4 f4
        clear h4 f4 HC HSj HVj z0 z1 z2 z3 z4 z5 z6 z7 y0 y1 y2 y3 y4 y5 y6 y7
        go_wp2
        go_ret
        exact ⟨rfl, HS4.out.bb, HS4.out.fm⟩
end Go.Proofs.YtmjnobdlgbojoaaGreatDoor


namespace Go.Proofs.YtmjnobdlgbojoaaGreatDoor
open Go.RowKit
attribute [local go_sem ↓] Go.wp_at_zero Go.wp_at_succ
theorem wb_cell {u : World} {Y k : Nat} {x : Value} (h : WB u Y) (hx : (#[Value.nilFunc, .func (.func 42) #[] #[], .func (.func 43) #[] #[], .func (.func 44) #[] #[], .func (.func 45) #[] #[], .func (.func 46) #[] #[], .func (.func 47) #[] #[], .func (.func 48) #[] #[]] : Array Value)[k]? = some x) : u.cell? ⟨Y, k, none⟩ = some x := by
  unfold WB at h
  simp only [World.cell?, h]
  simpa using hx
theorem blay_any {w0 : World} {B : Nat} {t : Tn} {x : Nd} (h : NwAt (fun b => b ≠ B) w0 t x) : (plc t).2 = true → tidy t = true → LayV w0 B t x := by
  induction h with
  | mk k s subs mn mx a n c vs hn hl hm hr hin ih =>
    intro hp hti
    obtain ⟨hsh, hsub⟩ := plc_subs hp
    rw [tidy, Bool.and_eq_true] at hti
    have hts := (tidys_iff _).1 hti.2
    have hs : ∀ (i : Nat) (t : Tn) (v : Nd), subs[i]? = some t → vs[i]? = some v → LayV w0 B t v := fun i t v ht hv => ih i t v ht hv (hsub t (List.mem_of_getElem? ht)) (hts t (List.mem_of_getElem? ht))
    rcases shp_kind hsh with rfl | rfl | rfl | rfl | rfl | rfl | rfl
    · exact disp_any (k := 1) rfl (by decide) ent45 (fun u Y h => wb_cell h rfl) (way_1 hn hl hm hr hs)
    · exact disp_any (k := 2) rfl (by decide) ent46 (fun u Y h => wb_cell h rfl) (way_2 hn hl hm hr hs)
    · exact disp_any (k := 3) rfl (by decide) ent47 (fun u Y h => wb_cell h rfl) (way_seq hn hl hm hr hs)
    · exact disp_any (k := 4) rfl (by decide) ent48 (fun u Y h => wb_cell h rfl) (way_alt hn hl hm hr hs)
    · obtain ⟨h1, hmn, hmx⟩ := shp_five hsh
      match subs, vs, hn, hl, h1 with
      | [u], [v], hn, hl, _ =>
        have hn : n = 1 := hn
        subst hn
        have hpl : placesOf u ≠ 1 := by
          have h2 := hti.1
          rw [Bool.or_eq_true] at h2
          rcases h2 with h2 | h2
          · exact absurd rfl (of_decide_eq_true h2)
          · exact of_decide_eq_true h2
        exact disp_any (k := 5) rfl (by decide) ent49 (fun u Y h => wb_cell h rfl) (way_times hr (hs 0 u v rfl rfl) hpl hmn hmx)
      | [u], [], hn, hl, _ => simp at hn hl; omega
      | [u], _ :: _ :: _, hn, hl, _ => simp at hn hl; omega
    · exact disp_any (k := 6) rfl (by decide) ent50 (fun u Y h => wb_cell h rfl) (way_6 hn hl hm hr hs (by unfold shapedT at hsh; simp at hsh; exact hsh.1.2))
    · exact disp_any (k := 7) rfl (by decide) ent51 (fun u Y h => wb_cell h rfl) (way_7 hn hl hm hr hs (by unfold shapedT at hsh; simp at hsh; exact hsh.1.2))
end Go.Proofs.YtmjnobdlgbojoaaGreatDoor
