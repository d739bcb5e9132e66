/- The contracts of the document's answer's reader: Read, Left, Num, Text, Take. -/
import Derived.Test.YtfncocffnfebbaaRef
namespace Go.Proofs.Ytfncocffnfebbaa
open Go.RowKit
attribute [local go_sem ↓] Go.wp_at_zero Go.wp_at_succ

/-- THE DOCUMENT's READER at block X, over a copy of zb, at a place. -/
def Rx (w : World) (X : Nat) (xa : Option Addr) (xc p : Nat) (zb : List Int) : Prop :=
  w.heap[X]? = some (.cells #[.slice xa zb.length xc, .int .i64 p] 70 (0, 0)) ∧ BytesAt w xa zb ∧ (zb ≠ [] → ∃ g, xa = some ⟨g, 0, none⟩ ∧ g ≠ X) ∧ zb.length ≤ xc ∧ p ≤ zb.length ∧ xc ≤ maxLen
theorem two_of_block {w : World} {X : Nat} {v u : Value} {t : TypeId} (h : w.heap[X]? = some (.cells #[v, u] t (0, 0))) : w.cell? ⟨X, 0, none⟩ = some v ∧ w.cell? ⟨X, 1, none⟩ = some u ∧ w.frozen? ⟨X, 0, none⟩ = false ∧ w.frozen? ⟨X, 1, none⟩ = false := by
  simp [World.cell?, World.frozen?, h]
theorem Rx.grow {w w' : World} {X : Nat} {xa : Option Addr} {xc p : Nat} {zb : List Int} (h : Rx w X xa xc p zb) (hb : Below w.heap.size w w') : Rx w' X xa xc p zb := by
  obtain ⟨h1, h2, h3⟩ := h
  exact ⟨by rw [hb.block X (Array.getElem?_eq_some_iff.1 h1).1]; exact h1, bytesAt_later hb h2, h3⟩
theorem Rx.cells {w : World} {X : Nat} {xa : Option Addr} {xc p : Nat} {zb : List Int} (h : Rx w X xa xc p zb) : w.cell? ⟨X, 0, none⟩ = some (.slice xa zb.length xc) ∧ w.cell? ⟨X, 1, none⟩ = some (.int .i64 p) ∧ w.frozen? ⟨X, 1, none⟩ = false := by
  obtain ⟨a, b, _, d⟩ := two_of_block h.1
  exact ⟨a, b, d⟩
theorem bytesAt_sub {w : World} {g n p : Nat} {zb : List Int} (h : BytesAt w (some ⟨g, 0, none⟩) zb) (hl : p + n ≤ zb.length) : BytesAt w (some ⟨g, p, none⟩) ((zb.drop p).take n) := by
  rcases h with rfl | ⟨b, off, e, hc⟩
  · exact Or.inl (by simp)
  · cases e
    refine Or.inr ⟨g, p, rfl, fun k hk => ?_⟩
    have hk1 : k < n := by simp at hk; omega
    have h1 := hc (p + k) (by omega)
    rw [Nat.zero_add] at h1
    rw [h1]
    simp [hk1]
theorem sub_length {zb : List Int} {p n : Nat} (hl : p + n ≤ zb.length) : ((zb.drop p).take n).length = n := by simp; omega

theorem xleft_any (X : Nat) (xa : Option Addr) (xc p : Nat) (zb : List Int) (w : World) (h : Rx w X xa xc p zb) (hl : zb.length ≤ 16777216) :
    Calls Try.prog 25 #[.pointer (some ⟨X, 0, none⟩)] w fun e w' => e = .returned (.int .i64 (zb.length - p : Nat)) ∧ Below w.heap.size w w' := by
  obtain ⟨c0, c1, _⟩ := h.cells
  have hp := h.2.2.2.2.1
  obtain ⟨L, hL⟩ : ∃ L, L = zb.length := ⟨_, rfl⟩
  rw [← hL] at c0 hp hl ⊢
  clear h hL
  go_enter Try.func25, Try.ntmps25
  go_wp2
  go_quiet (fail)
  go_wp2
  go_ret
  exact ⟨ret_int (by omega), below_drewN (Below.refl _ _) _⟩

theorem xset {w w' : World} {X : Nat} {xa : Option Addr} {xc p : Nat} {zb : List Int} (h : Rx w X xa xc p zb) (hb : Below w.heap.size w w') (q : Nat) (hq : q ≤ zb.length) (v : Value) (hv : v = .int .i64 q) :
    Rx (w'.setCell ⟨X, 1, none⟩ v) X xa xc q zb ∧ w.grownBy (w'.setCell ⟨X, 1, none⟩ v) (some X) := by
  subst hv
  have h' := h.grow hb
  obtain ⟨h1, h2, h3, h4, h5, h6⟩ := h'
  have hg : w'.grownBy (w'.setCell ⟨X, 1, none⟩ (.int .i64 q)) (some X) := by
    have := grown_setCell w' X 1 0 (.int .i64 q)
    exact this
  refine ⟨⟨?_, ?_, h3, h4, hq, h6⟩, ⟨hg.os.trans hb.os, hg.tape.trans hb.tape, hg.output.trans hb.output, Nat.le_trans hb.size hg.size, fun k hk hne => (hg.block k (Nat.lt_of_lt_of_le hk hb.size) hne).trans (hb.block k hk)⟩⟩
  · simp only [World.setCell, Array.getElem?_modify, h1]
    rfl
  · by_cases hz : zb = []
    · exact Or.inl hz
    · obtain ⟨g, rfl, hne⟩ := h3 hz
      exact bytesAt_grown hg hne h2

theorem xnum_wide (X : Nat) (n : Int) (w : World) (hn : n < 1 ∨ 8 < n) : Calls Try.prog 19 #[.pointer (some ⟨X, 0, none⟩), .int .i64 n] w fun e w' => e = .returned (.tuple #[.int .u64 0, .int .i64 21]) ∧ w' = w := by
  have HN : Hid (n < 1 ∨ 8 < n) := hn
  clear hn
  go_enter Try.func19, Try.ntmps19
  go_wp2_with fail
  refine (rwidth_no _ _ HN.out).mono ?_
  rintro e w' ⟨rfl, rfl⟩
  go_wp2
  go_ret2
  exact ⟨rfl, rfl⟩
theorem xnum_short (X : Nat) (xa : Option Addr) (xc p n : Nat) (zb : List Int) (w : World) (h : Rx w X xa xc p zb) (hl : zb.length ≤ 16777216) (h1 : 1 ≤ n) (h8 : n ≤ 8) (hs : zb.length - p < n) :
    Calls Try.prog 19 #[.pointer (some ⟨X, 0, none⟩), .int .i64 n] w fun e w' => e = .returned (.tuple #[.int .u64 0, .int .i64 20]) ∧ Below w.heap.size w w' := by
  have H : Hid (Rx w X xa xc p zb) := h
  have HL : Hid (zb.length ≤ 16777216) := hl
  obtain ⟨D, hD⟩ : ∃ D, D = zb.length - p := ⟨_, rfl⟩
  have HD : Hid (D = zb.length - p) := hD
  rw [← hD] at hs
  clear h hl hD
  go_enter Try.func19, Try.ntmps19
  go_wp2_with fail
  refine (rwidth_yes _ _ (by omega) (by omega)).mono ?_
  rintro e w' ⟨rfl, rfl⟩
  go_wp2_with fail
  refine (xleft_any X xa xc p zb _ H.out HL.out).mono ?_
  rintro e w1 ⟨rfl, hb1⟩
  rw [← HD.out]
  have HB1 : Hid (Below w'.heap.size w' w1) := hb1
  clear hb1
  go_wp2
  go_ret2
  exact ⟨rfl, HB1.out⟩

set_option maxHeartbeats 1000000 in
theorem xnum_ok (X : Nat) (xa : Option Addr) (xc p n : Nat) (zb : List Int) (w : World) (h : Rx w X xa xc p zb) (hbs : Rec.Bs zb) (hl : zb.length ≤ 16777216) (h1 : 1 ≤ n) (h8 : n ≤ 8) (hs : p + n ≤ zb.length) :
    Calls Try.prog 19 #[.pointer (some ⟨X, 0, none⟩), .int .i64 n] w fun e w' => e = .returned (.tuple #[.int .u64 (Rec.val ((zb.drop p).take n) : Nat), .int .i64 0]) ∧ Rx w' X xa xc (p + n) zb ∧ w.grownBy w' (some X) := by
  have H : Hid (Rx w X xa xc p zb) := h
  have HL : Hid (zb.length ≤ 16777216) := hl
  have HS : Hid (p + n ≤ zb.length) := hs
  have HBS : Hid (Rec.Bs ((zb.drop p).take n)) := Rec.bs_take (Rec.bs_drop hbs p) n
  obtain ⟨g, rfl, _⟩ := h.2.2.1 (fun e => by rw [e] at hs; simp at hs; omega)
  obtain ⟨L, hL⟩ : ∃ L, L = zb.length := ⟨_, rfl⟩
  have hxc := h.2.2.2.1
  have hxm := h.2.2.2.2.2
  unfold maxLen at hxm
  rw [← hL] at hl hs hxc
  have HLL : Hid (L = zb.length) := hL
  obtain ⟨D, hD⟩ : ∃ D, D = zb.length - p := ⟨_, rfl⟩
  have HD : Hid (D = zb.length - p) := hD
  have hDn : n ≤ D := by rw [hD]; omega
  obtain ⟨V, hV⟩ : ∃ V, V = Rec.val ((zb.drop p).take n) := ⟨_, rfl⟩
  have HV : Hid (V = Rec.val ((zb.drop p).take n)) := hV
  rw [← hV]
  have hpi : (0 : Int) ≤ (p : Int) := by omega
  have hpn : (p : Int) ≤ (p : Int) + (n : Int) := by omega
  have hpx : (p : Int) + (n : Int) ≤ (xc : Int) := by omega
  have hpx2 : ¬ xc = p := by omega
  clear h hL hD hV hbs
  go_enter Try.func19, Try.ntmps19
  go_wp2_with fail
  refine (rwidth_yes _ _ (by omega) (by omega)).mono ?_
  rintro e w' ⟨rfl, rfl⟩
  go_wp2_with fail
  refine (xleft_any X _ xc p zb _ H.out HL.out).mono ?_
  rintro e w1 ⟨rfl, hb1⟩
  rw [← HD.out]
  have H1 : Hid (Rx w1 X _ xc p zb) := H.out.grow hb1
  have HB1 : Hid (Below w'.heap.size w' w1) := hb1
  clear hb1
  have hne : Nonempty (Later w1) := ⟨⟨w1, Below.refl _ _⟩⟩
  have hc0 : ∀ u : Later w1, u.at_.cell? ⟨X, 0, none⟩ = some (.slice (some ⟨g, 0, none⟩) L xc) := fun u => by rw [HLL.out]; exact (H1.out.grow u.below).cells.1
  have hc1 : ∀ u : Later w1, u.at_.cell? ⟨X, 1, none⟩ = some (.int .i64 p) := fun u => (H1.out.grow u.below).cells.2.1
  have HCV : Hid (∀ u : Later w1, Calls Try.prog 32 #[.slice (some ⟨g, p, none⟩) n (xc - p)] u.at_ fun e w' => e = .returned (.int .u64 (V : Nat)) ∧ Below u.at_.heap.size u.at_ w') := fun u => by
    rw [HV.out]
    exact rvalue_any _ _ n _ _ (sub_length HS.out).symm h8 (bytesAt_sub (H1.out.grow u.below).2.1 HS.out) HBS.out
  go_wp2
  refine wp_region_later (by kernel_rfl) (by kernel_rfl) ?_
  repeat (first
    | go_big_quiet_step (((go_at_call 32; exact calls_later (HCV.out _))))
    | quiet_step (((go_at_call 32; exact calls_later (HCV.out _)))))
  refine wpQuiet_nil ?_
  intro _ hw'
  obtain ⟨u, hw''⟩ := hw'
  subst hw''
  have hd0 := hc0 u
  have hd1 := hc1 u
  have hdf := (H1.out.grow u.below).cells.2.2
  have HBU : Hid (Below w'.heap.size w' u.at_) := below_trans HB1.out u.below HB1.out.size
  obtain ⟨W, hW⟩ : ∃ W, W = u.at_ := ⟨_, rfl⟩
  rw [← hW] at hd0 hd1 hdf HBU ⊢
  clear hc0 hc1 HCV hne hW
  go_wp2
  go_ret2
  obtain ⟨k1, k2⟩ := xset H.out HBU.out (p + n) HS.out _ (show Value.int .i64 ((p : Int) + (n : Int)) = .int .i64 (p + n : Nat) by simp)
  exact ⟨rfl, k1, k2⟩

/-- Text -/
theorem xtext_short4 (X : Nat) (xa : Option Addr) (xc p : Nat) (zb : List Int) (w : World) (h : Rx w X xa xc p zb) (hl : zb.length ≤ 16777216) (hs : zb.length - p < 4) :
    Calls Try.prog 21 #[.pointer (some ⟨X, 0, none⟩)] w fun e w' => e = .returned (.tuple #[.string ⟨#[]⟩, .int .i64 20]) ∧ Below w.heap.size w w' := by
  have H : Hid (Rx w X xa xc p zb) := h
  have HL : Hid (zb.length ≤ 16777216) := hl
  obtain ⟨D, hD⟩ : ∃ D, D = zb.length - p := ⟨_, rfl⟩
  have HD : Hid (D = zb.length - p) := hD
  rw [← hD] at hs
  clear h hl hD
  go_enter Try.func21, Try.ntmps21
  go_wp2_with fail
  refine (xleft_any X xa xc p zb _ H.out HL.out).mono ?_
  rintro e w1 ⟨rfl, hb1⟩
  rw [← HD.out]
  have HB1 : Hid (Below w.heap.size w w1) := hb1
  clear hb1
  go_wp2
  go_ret2
  exact ⟨rfl, HB1.out⟩

set_option maxHeartbeats 2000000 in
theorem xtext_short (X : Nat) (xa : Option Addr) (xc p : Nat) (zb : List Int) (w : World) (h : Rx w X xa xc p zb) (hbs : Rec.Bs zb) (hl : zb.length ≤ 16777216) (h4 : p + 4 ≤ zb.length) (hs : zb.length < p + 4 + Rec.val ((zb.drop p).take 4)) :
    Calls Try.prog 21 #[.pointer (some ⟨X, 0, none⟩)] w fun e w' => e = .returned (.tuple #[.string ⟨#[]⟩, .int .i64 20]) ∧ Below w.heap.size w w' := by
  have H : Hid (Rx w X xa xc p zb) := h
  have HL : Hid (zb.length ≤ 16777216) := hl
  have HS : Hid (p + 4 ≤ zb.length) := h4
  have HBS : Hid (Rec.Bs ((zb.drop p).take 4)) := Rec.bs_take (Rec.bs_drop hbs p) 4
  obtain ⟨g, rfl, _⟩ := h.2.2.1 (fun e => by rw [e] at h4; simp at h4)
  obtain ⟨L, hL⟩ : ∃ L, L = zb.length := ⟨_, rfl⟩
  have hxc := h.2.2.2.1
  have hxm := h.2.2.2.2.2
  unfold maxLen at hxm
  have hv4 := Rec.val_lt HBS.out
  rw [sub_length h4, Rec.pow4] at hv4
  rw [← hL] at hl hs hxc h4
  have HLL : Hid (L = zb.length) := hL
  obtain ⟨D, hD⟩ : ∃ D, D = zb.length - p := ⟨_, rfl⟩
  have HD : Hid (D = zb.length - p) := hD
  have hDn : D = L - p := by rw [hD, hL]
  obtain ⟨V, hV⟩ : ∃ V, V = Rec.val ((zb.drop p).take 4) := ⟨_, rfl⟩
  have HV : Hid (V = Rec.val ((zb.drop p).take 4)) := hV
  rw [← hV] at hs hv4
  have hD4 : 4 ≤ D := by omega
  have hDV : D - 4 < V := by omega
  have hDVi : (D : Int) - 4 < (V : Int) := by omega
  have hpi : (0 : Int) ≤ (p : Int) := by omega
  have hpn : (p : Int) ≤ (p : Int) + 4 := by omega
  have hpx : (p : Int) + 4 ≤ (xc : Int) := by omega
  have hpx2 : ¬ xc = p := by omega
  clear h hL hD hV hbs hDn
  go_enter Try.func21, Try.ntmps21
  go_wp2_with fail
  refine (xleft_any X _ xc p zb _ H.out HL.out).mono ?_
  rintro e w1 ⟨rfl, hb1⟩
  rw [← HD.out]
  have H1 : Hid (Rx w1 X _ xc p zb) := H.out.grow hb1
  have HB1 : Hid (Below w.heap.size w w1) := hb1
  clear hb1
  have hne : Nonempty (Later w1) := ⟨⟨w1, Below.refl _ _⟩⟩
  have hc0 : ∀ u : Later w1, u.at_.cell? ⟨X, 0, none⟩ = some (.slice (some ⟨g, 0, none⟩) L xc) := fun u => by rw [HLL.out]; exact (H1.out.grow u.below).cells.1
  have hc1 : ∀ u : Later w1, u.at_.cell? ⟨X, 1, none⟩ = some (.int .i64 p) := fun u => (H1.out.grow u.below).cells.2.1
  have HCV : Hid (∀ u : Later w1, Calls Try.prog 32 #[.slice (some ⟨g, p, none⟩) 4 (xc - p)] u.at_ fun e w' => e = .returned (.int .u64 (V : Nat)) ∧ Below u.at_.heap.size u.at_ w') := fun u => by
    rw [HV.out]
    exact rvalue_any _ _ 4 _ _ (sub_length HS.out).symm (by decide) (bytesAt_sub (H1.out.grow u.below).2.1 HS.out) HBS.out
  have hp4 : p + 4 - p = 4 := by omega
  go_wp2
  refine wp_region_later (by kernel_rfl) (by kernel_rfl) ?_
  repeat (first
    | go_big_quiet_step (((go_at_call 32; exact calls_later (HCV.out _))))
    | quiet_step (((go_at_call 32; exact calls_later (HCV.out _)))))
  refine wpQuiet_nil ?_
  intro _ hw'
  obtain ⟨u, hw''⟩ := hw'
  subst hw''
  have HBU : Hid (Below w.heap.size w u.at_) := below_trans HB1.out u.below HB1.out.size
  have HU : Hid (Rx u.at_ X _ xc p zb) := H1.out.grow u.below
  obtain ⟨W, hW⟩ : ∃ W, W = u.at_ := ⟨_, rfl⟩
  rw [← hW] at HBU HU ⊢
  clear hc0 hc1 HCV hne hW
  go_wp2_with fail
  refine (xleft_any X _ xc p zb _ HU.out HL.out).mono ?_
  rintro e w2 ⟨rfl, hb2⟩
  rw [← HD.out]
  have HB2 : Hid (Below w.heap.size w w2) := below_trans HBU.out hb2 HBU.out.size
  clear hb2
  go_wp2
  go_ret2
  exact ⟨rfl, HB2.out⟩
set_option maxHeartbeats 2000000 in
theorem xtext_ok (X : Nat) (xa : Option Addr) (xc p : Nat) (zb : List Int) (w : World) (h : Rx w X xa xc p zb) (hbs : Rec.Bs zb) (hl : zb.length ≤ 16777216) (hs : p + 4 + Rec.val ((zb.drop p).take 4) ≤ zb.length) :
    Calls Try.prog 21 #[.pointer (some ⟨X, 0, none⟩)] w fun e w' => e = .returned (.tuple #[.string (strOfNums ((zb.drop (p + 4)).take (Rec.val ((zb.drop p).take 4)))), .int .i64 0]) ∧ Rx w' X xa xc (p + 4 + Rec.val ((zb.drop p).take 4)) zb ∧ w.grownBy w' (some X) := by
  have h4 : p + 4 ≤ zb.length := by omega
  have H : Hid (Rx w X xa xc p zb) := h
  have HL : Hid (zb.length ≤ 16777216) := hl
  have HS : Hid (p + 4 ≤ zb.length) := h4
  have HBS : Hid (Rec.Bs ((zb.drop p).take 4)) := Rec.bs_take (Rec.bs_drop hbs p) 4
  obtain ⟨g, rfl, _⟩ := h.2.2.1 (fun e => by rw [e] at h4; simp at h4)
  obtain ⟨L, hL⟩ : ∃ L, L = zb.length := ⟨_, rfl⟩
  have hxc := h.2.2.2.1
  have hxm := h.2.2.2.2.2
  unfold maxLen at hxm
  have hv4 := Rec.val_lt HBS.out
  rw [sub_length h4, Rec.pow4] at hv4
  rw [← hL] at hl hs hxc h4
  have HLL : Hid (L = zb.length) := hL
  obtain ⟨D, hD⟩ : ∃ D, D = zb.length - p := ⟨_, rfl⟩
  have HD : Hid (D = zb.length - p) := hD
  have hDn : D = L - p := by rw [hD, hL]
  obtain ⟨V, hV⟩ : ∃ V, V = Rec.val ((zb.drop p).take 4) := ⟨_, rfl⟩
  have HV : Hid (V = Rec.val ((zb.drop p).take 4)) := hV
  have HSV : Hid (p + 4 + V ≤ zb.length) := by rw [hV, ← hL]; exact hs
  rw [← hV] at hs hv4 ⊢
  rw [hL] at hs
  obtain ⟨S, hS⟩ : ∃ S, S = strOfNums ((zb.drop (p + 4)).take V) := ⟨_, rfl⟩
  have HSS : Hid (S = strOfNums ((zb.drop (p + 4)).take V)) := hS
  rw [← hS]
  rw [← hL] at hs
  have hD4 : 4 ≤ D := by omega
  have hDle : D ≤ 16777216 := by omega
  have hDV : V ≤ D - 4 := by omega
  have hDVi : (V : Int) ≤ (D : Int) - 4 := by omega
  have hpi : (0 : Int) ≤ (p : Int) := by omega
  have hpn : (p : Int) ≤ (p : Int) + 4 := by omega
  have hpx : (p : Int) + 4 ≤ (xc : Int) := by omega
  have hpx2 : ¬ xc = p := by omega
  have hp4i : (0 : Int) ≤ (p : Int) + 4 := by omega
  have hp4v : (p : Int) + 4 ≤ (p : Int) + 4 + (V : Int) := by omega
  have hp4x : (p : Int) + 4 + (V : Int) ≤ (xc : Int) := by omega
  clear h hL hD hV hbs hDn hS
  go_enter Try.func21, Try.ntmps21
  go_wp2_with fail
  refine (xleft_any X _ xc p zb _ H.out HL.out).mono ?_
  rintro e w1 ⟨rfl, hb1⟩
  rw [← HD.out]
  have H1 : Hid (Rx w1 X _ xc p zb) := H.out.grow hb1
  have HB1 : Hid (Below w.heap.size w w1) := hb1
  clear hb1
  have hne : Nonempty (Later w1) := ⟨⟨w1, Below.refl _ _⟩⟩
  have hc0 : ∀ u : Later w1, u.at_.cell? ⟨X, 0, none⟩ = some (.slice (some ⟨g, 0, none⟩) L xc) := fun u => by rw [HLL.out]; exact (H1.out.grow u.below).cells.1
  have hc1 : ∀ u : Later w1, u.at_.cell? ⟨X, 1, none⟩ = some (.int .i64 p) := fun u => (H1.out.grow u.below).cells.2.1
  have HCV : Hid (∀ u : Later w1, Calls Try.prog 32 #[.slice (some ⟨g, p, none⟩) 4 (xc - p)] u.at_ fun e w' => e = .returned (.int .u64 (V : Nat)) ∧ Below u.at_.heap.size u.at_ w') := fun u => by
    rw [HV.out]
    exact rvalue_any _ _ 4 _ _ (sub_length HS.out).symm (by decide) (bytesAt_sub (H1.out.grow u.below).2.1 HS.out) HBS.out
  have hp4 : p + 4 - p = 4 := by omega
  go_wp2
  refine wp_region_later (by kernel_rfl) (by kernel_rfl) ?_
  repeat (first
    | go_big_quiet_step (((go_at_call 32; exact calls_later (HCV.out _))))
    | quiet_step (((go_at_call 32; exact calls_later (HCV.out _)))))
  refine wpQuiet_nil ?_
  intro _ hw'
  obtain ⟨u, hw''⟩ := hw'
  subst hw''
  have HBU : Hid (Below w.heap.size w u.at_) := below_trans HB1.out u.below HB1.out.size
  have HU : Hid (Rx u.at_ X _ xc p zb) := H1.out.grow u.below
  obtain ⟨W, hW⟩ : ∃ W, W = u.at_ := ⟨_, rfl⟩
  rw [← hW] at HBU HU ⊢
  clear hc0 hc1 HCV hne hW
  go_wp2_with fail
  refine (xleft_any X _ xc p zb _ HU.out HL.out).mono ?_
  rintro e w2 ⟨rfl, hb2⟩
  rw [← HD.out]
  have HB2 : Hid (Below w.heap.size w w2) := below_trans HBU.out hb2 HBU.out.size
  have H2 : Hid (Rx w2 X _ xc p zb) := HU.out.grow hb2
  clear hb2
  have hne : Nonempty (Later w2) := ⟨⟨w2, Below.refl _ _⟩⟩
  have hc0 : ∀ u : Later w2, u.at_.cell? ⟨X, 0, none⟩ = some (.slice (some ⟨g, 0, none⟩) L xc) := fun u => by rw [HLL.out]; exact (H2.out.grow u.below).cells.1
  have hc1 : ∀ u : Later w2, u.at_.cell? ⟨X, 1, none⟩ = some (.int .i64 p) := fun u => (H2.out.grow u.below).cells.2.1
  have hsub : p + 4 + V - (p + 4) = V := by omega
  have hfin : ∀ W, Below w.heap.size w W → Rx (W.setCell ⟨X, 1, none⟩ (.int .i64 ((p : Int) + 4 + (V : Int)))) X (some ⟨g, 0, none⟩) xc (p + 4 + V) zb ∧ w.grownBy (W.setCell ⟨X, 1, none⟩ (.int .i64 ((p : Int) + 4 + (V : Int)))) (some X) := fun W hW =>
    xset H.out hW (p + 4 + V) HSV.out _ (show Value.int .i64 ((p : Int) + 4 + (V : Int)) = .int .i64 (p + 4 + V : Nat) by simp)
  have HFIN : Hid _ := hfin
  clear hfin
  by_cases hxe : xc = p + 4
  · have hV0 : V = 0 := by omega
    subst hV0
    have hcv : ∀ (u : Later w2) (a : Option Addr) (c : Nat), (convert 26 9 (.slice a 0 c)).run Try.prog u.at_ = .ok (.string S) u.at_ := fun u a c => by
      rw [HSS.out]
      exact conv_string _ a 0 c _ (by simp) (Or.inl (by simp))
    go_wp2_with fail
    refine wp_region_later (by kernel_rfl) (by kernel_rfl) ?_
    repeat (first
      | go_big_quiet_step (fail)
      | quiet_step (fail))
    refine wpQuiet_nil ?_
    intro _ hw'
    obtain ⟨u, hw''⟩ := hw'
    subst hw''
    have hd0 := hc0 u
    have hd1 := hc1 u
    have hdf := (H2.out.grow u.below).cells.2.2
    have HBU2 : Hid (Below w.heap.size w u.at_) := below_trans HB2.out u.below HB2.out.size
    obtain ⟨W2, hW2⟩ : ∃ W2, W2 = u.at_ := ⟨_, rfl⟩
    rw [← hW2] at hd0 hd1 hdf HBU2 ⊢
    clear hc0 hc1 hne hW2 hcv
    go_wp2
    go_ret2
    obtain ⟨k1, k2⟩ := HFIN.out W2 HBU2.out
    exact ⟨rfl, by simpa using k1, by simpa using k2⟩
  · have hcv : ∀ u : Later w2, (convert 26 9 (.slice (some ⟨g, p + 4, none⟩) V (xc - (p + 4)))).run Try.prog u.at_ = .ok (.string S) u.at_ := fun u => by
      rw [HSS.out]
      exact conv_string _ _ _ _ _ (by rw [sub_length HSV.out]) (bytesAt_sub (H2.out.grow u.below).2.1 HSV.out)
    go_wp2_with fail
    refine wp_region_later (by kernel_rfl) (by kernel_rfl) ?_
    repeat (first
      | go_big_quiet_step (fail)
      | quiet_step (fail))
    refine wpQuiet_nil ?_
    intro _ hw'
    obtain ⟨u, hw''⟩ := hw'
    subst hw''
    have hd0 := hc0 u
    have hd1 := hc1 u
    have hdf := (H2.out.grow u.below).cells.2.2
    have HBU2 : Hid (Below w.heap.size w u.at_) := below_trans HB2.out u.below HB2.out.size
    obtain ⟨W2, hW2⟩ : ∃ W2, W2 = u.at_ := ⟨_, rfl⟩
    rw [← hW2] at hd0 hd1 hdf HBU2 ⊢
    clear hc0 hc1 hne hW2 hcv
    go_wp2
    go_ret2
    obtain ⟨k1, k2⟩ := HFIN.out W2 HBU2.out
    exact ⟨rfl, k1, k2⟩
end Go.Proofs.Ytfncocffnfebbaa
