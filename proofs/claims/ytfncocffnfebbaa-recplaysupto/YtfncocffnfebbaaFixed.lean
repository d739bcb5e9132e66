/- The contracts of rec.Text, of heronlaw02.same and of heronlaw02.fixed: it answers true, and makes memory alone. -/
import Derived.Test.YtfncocffnfebbaaReader
namespace Go.Proofs.Ytfncocffnfebbaa
open Go.RowKit

set_option maxHeartbeats 400000 in
theorem text_any (s : ByteArray) (w : World) (hs : s.size ≤ 1048576) :
    Calls Try.prog 10 #[.string s] w fun e w' => ∃ v, e = .returned v ∧ Owns w' w.heap.size v (Rec.text s) ∧ Below w.heap.size w w' := by
  obtain ⟨L, hL⟩ : ∃ L, L = s.size := ⟨_, rfl⟩
  have HL : Hid (L = s.size) := hL
  rw [← hL] at hs
  go_enter Try.func10, Try.ntmps10
  go_wp2_with (at_make; refine wpList_make_room rfl _ _ rfl (4 + s.size) _ rfl rfl (by simp) (by omega) ?_; intro w1 ho1 hb1; have HO1 : Hid (Owns w1 w.heap.size (.slice (some ⟨w.heap.size, 0, none⟩) 0 (4 + s.size)) []) := ho1; have HB1 : Hid (Below w.heap.size w w1) := hb1; clear ho1 hb1)
  refine (lay_any w _ [] s.size 4 _ (by omega) (by decide) (by simp) HO1.out HB1.out).mono ?_
  rintro e w2 ⟨v, rfl, ho2, hb2⟩
  rw [List.nil_append] at ho2
  obtain ⟨g, c, rfl, hg, _⟩ := ho2.form
  have HG : Hid (w.heap.size ≤ g) := hg
  have HO2 : Hid (Owns w2 w.heap.size (.slice (some ⟨g, 0, none⟩) (Rec.num s.size 4).length c) (Rec.num s.size 4)) := ho2
  have HB2 : Hid (Below w.heap.size w w2) := hb2
  clear ho2 hb2 hg
  go_wp2_with (at_builtin; go_must (refine wpList_append_text rfl _ _ rfl w.heap.size _ _ rfl HO2.out s rfl (by rw [Rec.num_length]; omega) HB2.out.size ?_; intro v3 w3 ho3 hg3; have HO3 : Hid (Owns w3 w.heap.size v3 (Rec.text s)) := ho3; have HB3 : Hid (Below w.heap.size w w3) := HB2.out.grown hg3 HB2.out.size (fun q hq => by cases hq; exact HG.out); clear ho3 hg3))
  exact bodyPost_ret (v := v3) (by simp [results, Try.results10, go_sem]) rfl ⟨v3, rfl, HO3.out, HB3.out⟩

theorem same_yes (a b : Option Addr) (n m c d : Nat) (xs : List Int) (w : World) (hn : n = xs.length) (hm : m = xs.length) (ha : BytesAt w a xs) (hb : BytesAt w b xs) :
    Calls Try.prog 27 #[.slice a n c, .slice b m d] w fun e w' => e = .returned (.bool true) ∧ w' = w := by
  have h1 := conv_string w a n c xs hn ha
  have h2 := conv_string w b m d xs hm hb
  obtain ⟨S, hS⟩ : ∃ S, S = strOfNums xs := ⟨_, rfl⟩
  rw [← hS] at h1 h2
  clear hS ha hb hn hm
  go_enter Try.func27, Try.ntmps27
  go_wp2
  go_ret
  exact ⟨ret_bool (by simp), rfl⟩

theorem Rd.grow {w w' : World} {P H off : Nat} {zs : List Int} (h : Rd w P H off zs) (hb : Below w.heap.size w w') : Rd w' P H off zs := by
  obtain ⟨a, e1, e2, e3, e4⟩ := h
  refine ⟨a, by rw [hb.block P (Array.getElem?_eq_some_iff.1 e1).1]; exact e1, e2, e3, fun k hk => ?_⟩
  rw [hb.cell (p := ⟨H, off + k, none⟩) (World.block_lt_of_cell? w _ (e4 k hk))]
  exact e4 k hk
theorem below_grown {w w' : World} {P B : Nat} (h : w.grownBy w' (some P)) (hB : B ≤ P) (hs : B ≤ w.heap.size) : Below B w w' := (Below.refl _ _).grown h hs (fun k hk => by cases hk; exact hB)
theorem bytesAt_grown {w w' : World} {P b : Nat} {off : Nat} {zs : List Int} (h : w.grownBy w' (some P)) (hb : b ≠ P) (hz : BytesAt w (some ⟨b, off, none⟩) zs) : BytesAt w' (some ⟨b, off, none⟩) zs := by
  rcases hz with h0 | ⟨b', off', e, hc⟩
  · exact Or.inl h0
  · cases e
    exact Or.inr ⟨b, off, rfl, fun k hk => grown_cell h hb (hc k hk)⟩
theorem Owns.bytes {w : World} {B : Nat} {g n c : Nat} {zs : List Int} (h : Owns w B (.slice (some ⟨g, 0, none⟩) n c) zs) : BytesAt w (some ⟨g, 0, none⟩) zs ∧ n = zs.length ∧ B ≤ g ∧ g < w.heap.size ∧ c ≤ maxLen := by
  obtain ⟨g', c', e, hB, hlt, hb, _, hm, _⟩ := h.form
  cases e
  exact ⟨hb, rfl, hB, hlt, hm⟩

theorem rnum_fix (P H : Nat) (w : World) (hr : Rd w P H 0 [2, 1, 0, 0, 0, 97, 7]) : Calls Try.prog 20 #[.pointer (some ⟨P, 0, none⟩), .int .i64 1] w fun e w' => e = .returned (.tuple #[.int .u64 2, .int .i64 0]) ∧ Rd w' P H 1 [1, 0, 0, 0, 97, 7] ∧ w.grownBy w' (some P) :=
  (rnum_ok P H 0 1 _ _ hr (by decide) (by decide) (by decide) (by decide) (Rec.bs_lit (by decide))).mono fun _ _ h => ⟨h.1, h.2⟩
theorem rtext_fix (P H : Nat) (w : World) (hr : Rd w P H 1 [1, 0, 0, 0, 97, 7]) : Calls Try.prog 22 #[.pointer (some ⟨P, 0, none⟩)] w fun e w' => e = .returned (.tuple #[.string ⟨#[97]⟩, .int .i64 0]) ∧ Rd w' P H 6 [7] ∧ w.grownBy w' (some P) :=
  (rtext_ok P H 1 _ _ hr (Rec.bs_lit (by decide)) (by decide) (by decide)).mono fun _ _ h => ⟨h.1, h.2⟩
theorem n258 : Rec.num 258 3 = [2, 1, 0] := by decide +kernel
theorem tab : Rec.text ⟨#[97, 98]⟩ = [2, 0, 0, 0, 97, 98] := by decide +kernel
theorem val4 : Rec.val [1, 0, 0, 0] = 1 := by decide +kernel

set_option maxHeartbeats 1000000 in
theorem fixed_any (w : World) : Calls Try.prog 6 #[] w fun e w' => e = .returned (.bool true) ∧ Below w.heap.size w w' := by
  go_enter Try.func6, Try.ntmps6
  go_wp2_with fail
  refine (num_yes 258 3 _ (by decide) (by decide) (by decide) (by decide)).mono ?_
  rintro e w1 ⟨v1, rfl, ho1, hb1⟩
  rw [n258] at ho1
  obtain ⟨g1, c1, rfl, _, _⟩ := ho1.form
  obtain ⟨hx1, _, _, hlt1, _⟩ := ho1.bytes
  have HX1 : Hid (BytesAt w1 (some ⟨g1, 0, none⟩) [2, 1, 0]) := hx1
  have HB1 : Hid (Below w.heap.size w w1) := hb1
  have hz1 : w.heap.size ≤ w1.heap.size := hb1.size
  clear ho1 hx1 hb1
  go_wp2_with fail
  refine (read_any _ 7 7 [2, 1, 0, 0, 0, 97, 7] _ rfl (bytesAt_new w1 [2, 1, 0, 0, 0, 97, 7] 5 (0, 0)) (by decide)).mono ?_
  rintro e w2 ⟨P, H, rfl, hP, hH, hr2, hb2, hH2, hP2⟩
  have hw : (w1.alloc (.cells (List.map (fun z => Value.int .u8 z) [2, 1, 0, 0, 0, 97, 7]).toArray 5 (0, 0))).heap.size = w1.heap.size + 1 := by simp
  rw [hw] at hP hH
  have hbb : Below w1.heap.size w1 w2 := ((Below.refl _ _).alloc (Nat.le_refl _) _).trans (hb2.mono (by simp))
  have HB2 : Hid (Below w.heap.size w w2) := below_trans HB1.out hbb hz1
  have HX2 : Hid (BytesAt w2 (some ⟨g1, 0, none⟩) [2, 1, 0]) := bytesAt_later hbb HX1.out
  have HR2 : Hid (Rd w2 P H 0 [2, 1, 0, 0, 0, 97, 7]) := hr2
  have hz2 : w.heap.size ≤ w2.heap.size := HB2.out.size
  have hgP : g1 ≠ P := by omega
  have hwP : w.heap.size ≤ P := by omega
  clear hbb hb2 hr2 HB1 HX1 hH2 hP2 hw
  go_wp2_with fail
  refine (rnum_fix P H _ HR2.out).mono ?_
  rintro e w3 ⟨rfl, hr3, hg3⟩
  have HR3 : Hid (Rd w3 P H 1 [1, 0, 0, 0, 97, 7]) := hr3
  have HB3 : Hid (Below w.heap.size w w3) := HB2.out.trans (below_grown hg3 hwP hz2)
  have HX3 : Hid (BytesAt w3 (some ⟨g1, 0, none⟩) [2, 1, 0]) := bytesAt_grown hg3 hgP HX2.out
  clear hr3 hg3 HR2 HB2 HX2 hz2
  have hz3 : w.heap.size ≤ w3.heap.size := HB3.out.size
  go_wp2_with fail
  refine (rtext_fix P H _ HR3.out).mono ?_
  rintro e w4 ⟨rfl, hr4, hg4⟩
  have HR4 : Hid (Rd w4 P H 6 [7]) := hr4
  have HB4 : Hid (Below w.heap.size w w4) := HB3.out.trans (below_grown hg4 hwP hz3)
  have HX4 : Hid (BytesAt w4 (some ⟨g1, 0, none⟩) [2, 1, 0]) := bytesAt_grown hg4 hgP HX3.out
  clear hr4 hg4 HR3 HB3 HX3 hz3
  have hz4 : w.heap.size ≤ w4.heap.size := HB4.out.size
  go_wp2_with fail
  refine (rnum_short P H 6 2 _ _ HR4.out (by decide) (by decide) (by decide)).mono ?_
  rintro e w5 ⟨rfl, rfl⟩
  go_wp2_with fail
  refine (take_ok P H 6 1 _ _ HR4.out (by decide) (by decide)).mono ?_
  rintro e w6 ⟨a6, rfl, ha6, hb6, hr6, hg6⟩
  obtain rfl := ha6 (by decide)
  have HR6 : Hid (Rd w6 P H 7 []) := hr6
  have HB6 : Hid (Below w.heap.size w w6) := HB4.out.trans (below_grown hg6 hwP hz4)
  have HX6 : Hid (BytesAt w6 (some ⟨g1, 0, none⟩) [2, 1, 0]) := bytesAt_grown hg6 hgP HX4.out
  have HY6 : Hid (BytesAt w6 (some ⟨H, 6, none⟩) [7]) := hb6
  clear hr6 hg6 hb6 HR4 HB4 HX4 hz4 ha6
  have hz6 : w.heap.size ≤ w6.heap.size := HB6.out.size
  go_wp2_with fail
  refine (same_yes _ _ 3 3 c1 3 [2, 1, 0] _ rfl rfl (bytesAt_later ((Below.refl _ _).alloc (Nat.le_refl _) _) HX6.out) (bytesAt_new w6 [2, 1, 0] 5 (0, 0))).mono ?_
  rintro e w7 ⟨rfl, hw7⟩
  have hb7 : Below w6.heap.size w6 w7 := by rw [hw7]; exact (Below.refl _ _).alloc (Nat.le_refl _) _
  have HR7 : Hid (Rd w7 P H 7 []) := HR6.out.grow hb7
  have HB7 : Hid (Below w.heap.size w w7) := below_trans HB6.out hb7 hz6
  have HY7 : Hid (BytesAt w7 (some ⟨H, 6, none⟩) [7]) := bytesAt_later hb7 HY6.out
  clear hb7 hw7 HR6 HB6 HY6 HX6 hz6
  have hz7 : w.heap.size ≤ w7.heap.size := HB7.out.size
  go_wp2_with fail
  refine (same_yes _ _ 1 1 1 1 [7] _ rfl rfl (bytesAt_later ((Below.refl _ _).alloc (Nat.le_refl _) _) HY7.out) (bytesAt_new w7 [7] 5 (0, 0))).mono ?_
  rintro e w8 ⟨rfl, hw8⟩
  have hb8 : Below w7.heap.size w7 w8 := by rw [hw8]; exact (Below.refl _ _).alloc (Nat.le_refl _) _
  have HR8 : Hid (Rd w8 P H 7 []) := HR7.out.grow hb8
  have HB8 : Hid (Below w.heap.size w w8) := below_trans HB7.out hb8 hz7
  clear hb8 hw8 HR7 HB7 HY7 hz7
  have hz8 : w.heap.size ≤ w8.heap.size := HB8.out.size
  go_wp2_with fail
  refine (left_any P H 7 [] _ HR8.out).mono ?_
  rintro e w9 ⟨rfl, rfl⟩
  go_wp2_with fail
  refine (text_any ⟨#[97, 98]⟩ _ (by decide)).mono ?_
  rintro e wt ⟨v, rfl, ho, hb⟩
  rw [tab] at ho
  obtain ⟨g, c, rfl, _, _⟩ := ho.form
  have hcv : (convert 26 9 (.slice (some ⟨g, 0, none⟩) 6 c)).run Try.prog wt = .ok (.string ⟨#[2, 0, 0, 0, 97, 98]⟩) wt := conv_string wt _ 6 c _ rfl ho.bytes.1
  have HBt : Hid (Below w.heap.size w wt) := below_trans HB8.out hb hz8
  clear ho hb
  go_wp2
  go_ret
  exact ⟨rfl, HBt.out⟩
end Go.Proofs.Ytfncocffnfebbaa
