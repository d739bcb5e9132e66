/- Items: what is laid of them, and the contracts of heronlaw02.Item's laid and taken for an item of whatever kind. -/
import Derived.Test.YtfncocffnfebbaaApart
import Derived.Test.YtfncocffnfebbaaGrow
namespace Go.Proofs.Ytfncocffnfebbaa
open Go.RowKit
attribute [local go_sem ↓] Go.wp_at_zero Go.wp_at_succ

/-- an item -/
structure It where
  k : Int
  n : Int
  x : Nat
  s : ByteArray
def It.val (i : It) : Value := .agg #[.int .i64 i.k, .int .i64 i.n, .int .u64 i.x, .string i.s]
def It.Ok (i : It) : Prop := i.x < 18446744073709551616 ∧ i.s.size ≤ 1048576
/-- what is laid of it -/
def It.enc (i : It) : List Int := if i.k = 0 then Rec.num (Rec.brought i.n i.x) (Rec.wid i.n) else if i.k = 1 then Rec.text i.s else Rec.str i.s
theorem It.enc_bs (i : It) : Rec.Bs i.enc := by
  unfold It.enc
  split
  · exact Rec.num_bs _ _
  · split
    · exact Rec.text_bs _
    · exact Rec.str_bs _
theorem It.enc_length (i : It) : i.enc.length ≤ 8 + i.s.size := by
  unfold It.enc
  have := Rec.wid_hi i.n
  split
  · rw [Rec.num_length]; omega
  · split
    · rw [Rec.text_length]; omega
    · rw [Rec.str_length]; omega
def cat (l : List It) : List Int := l.flatMap It.enc
theorem cat_bs (l : List It) : Rec.Bs (cat l) := fun z hz => by
  obtain ⟨i, _, h⟩ := List.mem_flatMap.1 hz
  exact i.enc_bs z h

theorem conv_bytes (w : World) (s : ByteArray) : ∃ c w', (convert 9 26 (.string s)).run Try.prog w = .ok (.slice (some ⟨w.heap.size, 0, none⟩) s.size c) w' ∧ BytesAt w' (some ⟨w.heap.size, 0, none⟩) (Rec.str s) ∧ Below w.heap.size w w' := by
  refine ⟨_, _, run_bytes_of_string w 9 26 5 s Try.underlying9 Try.underlying26 Try.underlying5, ?_, ((Below.refl _ _).drew).alloc (Nat.le_refl _) _⟩
  refine Or.inr ⟨_, 0, rfl, fun k hk => ?_⟩
  have h := World.cell?_alloc_mark w.drew (bytesRow s (grownCap w s.size 0 5)) 5 ((bytesRow s (grownCap w s.size 0 5)).size, (bytesRow s (grownCap w s.size 0 5)).size + 1) (0 + k)
  have hs : k < s.data.size := by rw [Rec.str_length] at hk; exact hk
  refine Eq.trans h ?_
  unfold bytesRow
  rw [Nat.zero_add, Array.getElem?_append_left (by simpa using hs)]
  simp [Rec.str]
  exact ⟨s.data[k], Array.getElem?_eq_getElem hs, by rw [Array.getElem?_eq_getElem hs]; rfl⟩

theorem laid_raw (k n : Int) (x : Nat) (s : ByteArray) (w : World) (h0 : k ≠ 0) (h1 : k ≠ 1) :
    Calls Try.prog 11 #[.agg #[.int .i64 k, .int .i64 n, .int .u64 x, .string s]] w fun e w' => ∃ a c, e = .returned (.tuple #[.slice a s.size c, .bool true]) ∧ BytesAt w' a (Rec.str s) ∧ Below w.heap.size w w' := by
  have hz : (w.alloc (.cells #[.int .i64 k, .int .i64 n, .int .u64 x, .string s] 24)).heap.size = w.heap.size + 1 := by simp
  obtain ⟨c, w', hr, hb, hbel⟩ := conv_bytes (w.alloc (.cells #[.int .i64 k, .int .i64 n, .int .u64 x, .string s] 24)) s
  rw [hz] at hb hr
  have HB : Hid (BytesAt w' (some ⟨w.heap.size + 1, 0, none⟩) (Rec.str s)) := hb
  have hb2 : Below w.heap.size w w' := ((Below.refl _ _).alloc (Nat.le_refl _) _).trans (hbel.mono (by simp))
  have HB2 : Hid (Below w.heap.size w w') := hb2
  clear hb hbel hb2
  go_enter Try.func11, Try.ntmps11
  go_wp2
  go_ret2
  exact ⟨_, c, rfl, HB.out, HB2.out⟩

theorem laid_any (i : It) (w : World) (hi : i.Ok) :
    Calls Try.prog 11 #[i.val] w fun e w' => ∃ a c, e = .returned (.tuple #[.slice a i.enc.length c, .bool true]) ∧ BytesAt w' a i.enc ∧ Below w.heap.size w w' := by
  obtain ⟨k, n, x, s⟩ := i
  obtain ⟨hx, hs⟩ := hi
  by_cases h0 : k = 0
  · subst h0
    refine (laid_num n x s w hx).mono ?_
    rintro e w' ⟨v, rfl, ho, hb⟩
    obtain ⟨g, c, rfl, _, _, hy, _⟩ := ho.form
    exact ⟨_, c, rfl, hy, hb⟩
  · by_cases h1 : k = 1
    · subst h1
      refine (laid_text n x s w hs).mono ?_
      rintro e w' ⟨v, rfl, ho, hb⟩
      obtain ⟨g, c, rfl, _, _, hy, _⟩ := ho.form
      exact ⟨_, c, rfl, hy, hb⟩
    · refine (laid_raw k n x s w h0 h1).mono ?_
      rintro e w' ⟨a, c, rfl, hy, hb⟩
      have e1 : (It.mk k n x s).enc = Rec.str s := by simp [It.enc, h0, h1]
      exact ⟨a, c, by rw [e1, Rec.str_length], by rw [e1]; exact hy, hb⟩

theorem Rd.lt {w : World} {P H off : Nat} {zs : List Int} (h : Rd w P H off zs) : P < w.heap.size := by
  obtain ⟨a, h1, _⟩ := h
  exact (Array.getElem?_eq_some_iff.1 h1).1
theorem IB.grown {w w' : World} {A P : Nat} {k n : Int} {x : Nat} {s : ByteArray} (h : IB w A k n x s) (hg : w.grownBy w' (some P)) (hne : A ≠ P) : IB w' A k n x s :=
  (hg.block A (Array.getElem?_eq_some_iff.1 h).1 (fun e => hne (by simpa using e))).trans h

/-- taken: a number -/
theorem taken_num (n : Int) (x : Nat) (s : ByteArray) (P H off B : Nat) (rest : List Int) (w : World) (hx : x < 18446744073709551616) (hB : B ≤ P) (hr : Rd w P H off (Rec.num (Rec.brought n x) (Rec.wid n) ++ rest)) (hl : (Rec.num (Rec.brought n x) (Rec.wid n) ++ rest).length ≤ 16777216) (hb : Rec.Bs rest) :
    Calls Try.prog 14 #[.agg #[.int .i64 0, .int .i64 n, .int .u64 x, .string s], .pointer (some ⟨P, 0, none⟩)] w fun e w' => e = .returned (.bool true) ∧ Rd w' P H (off + Rec.wid n) rest ∧ Below B w w' := by
  have hal : Below w.heap.size w (w.alloc (.cells #[.int .i64 0, .int .i64 n, .int .u64 x, .string s] 24)) := (Below.refl _ _).alloc (Nat.le_refl _) _
  have HP : Hid (P < w.heap.size) := hr.lt
  have HR : Hid (Rd (w.alloc (.cells #[.int .i64 0, .int .i64 n, .int .u64 x, .string s] 24)) P H off (Rec.num (Rec.brought n x) (Rec.wid n) ++ rest)) := hr.grow hal
  have HL : Hid ((Rec.num (Rec.brought n x) (Rec.wid n) ++ rest).length ≤ 16777216) := hl
  have HBS : Hid (Rec.Bs rest) := hb
  have HBB : Hid (B ≤ P) := hB
  clear hal hr hl hb hB
  go_enter Try.func14, Try.ntmps14
  go_wp2_with fail
  refine (width_any n _).mono ?_
  rintro e w0 ⟨rfl, hw0⟩
  have hlw := Rec.wid_lo n
  have hhw := Rec.wid_hi n
  subst hw0
  go_wp2_with fail
  refine (rnum_ok P H off (Rec.wid n) _ _ HR.out hlw hhw HL.out (by simp [Rec.num_length]) (Rec.bs_append (Rec.num_bs _ _) HBS.out)).mono ?_
  rintro e w1 ⟨rfl, hr1, hg1⟩
  rw [List.take_left' (Rec.num_length _ _), Rec.val_num, Nat.mod_eq_of_lt (brought_lt n x)]
  rw [List.drop_left' (Rec.num_length _ _)] at hr1
  have HI1 : Hid (IB w1 w.heap.size 0 n x s) := (ib_new w 0 n x s).grown hg1 (by have := HP.out; omega)
  have HB1 : Hid (Below B w w1) := by
    have h1 := HP.out
    have h2 := HBB.out
    exact ((Below.refl _ _).alloc (by omega) _).grown hg1 (by simp; omega) (fun k hk => by cases hk; exact h2)
  have HR1 : Hid (Rd w1 P H (off + Rec.wid n) rest) := hr1
  obtain ⟨c0, c1, c2, c3⟩ := HI1.out.cells
  obtain ⟨V, hV⟩ : ∃ V, V = Rec.brought n x := ⟨_, rfl⟩
  have HV : Hid (V = Rec.brought n x) := hV
  rw [← hV]
  clear hr1 hg1 HR HL HBS hV
  go_wp2_with fail
  refine (value_any 0 n x s _ hx).mono ?_
  rintro e w2 ⟨rfl, hb2⟩
  rw [← HV.out]
  have HR2 : Hid (Rd w2 P H (off + Rec.wid n) rest) := HR1.out.grow hb2
  have HB2 : Hid (Below B w w2) := HB1.out.trans (hb2.mono (by have := HR1.out.lt; have := HBB.out; omega))
  clear hb2 c0 c1 c2 c3
  go_wp2
  go_ret
  exact ⟨ret_bool (by simp), HR2.out, HB2.out⟩

theorem rtext_laid (P H off : Nat) (s : ByteArray) (rest : List Int) (w : World) (hs : s.size ≤ 1048576) (hr : Rd w P H off (Rec.text s ++ rest)) (hl : (Rec.text s ++ rest).length ≤ 16777216) (hb : Rec.Bs rest) :
    Calls Try.prog 22 #[.pointer (some ⟨P, 0, none⟩)] w fun e w' => e = .returned (.tuple #[.string s, .int .i64 0]) ∧ Rd w' P H (off + 4 + s.size) rest ∧ w.grownBy w' (some P) := by
  have e4 : (Rec.text s ++ rest).take 4 = Rec.num s.size 4 := by rw [Rec.text, List.append_assoc, List.take_left' (Rec.num_length _ _)]
  have d4 : (Rec.text s ++ rest).drop 4 = Rec.str s ++ rest := by rw [Rec.text, List.append_assoc, List.drop_left' (Rec.num_length _ _)]
  have v4 : Rec.val ((Rec.text s ++ rest).take 4) = s.size := by rw [e4, Rec.val_num, Nat.mod_eq_of_lt (by rw [Rec.pow4]; omega)]
  have hc := rtext_ok P H off _ _ hr (Rec.bs_append (Rec.text_bs s) hb) hl (by rw [v4, List.length_append, Rec.text_length]; omega)
  rw [v4, d4, List.take_left' (Rec.str_length s), strOf_str, List.drop_left' (by rw [Rec.text_length])] at hc
  exact hc
/-- taken: a text -/
theorem taken_text (n : Int) (x : Nat) (s : ByteArray) (P H off B : Nat) (rest : List Int) (w : World) (hs : s.size ≤ 1048576) (hB : B ≤ P) (hr : Rd w P H off (Rec.text s ++ rest)) (hl : (Rec.text s ++ rest).length ≤ 16777216) (hb : Rec.Bs rest) :
    Calls Try.prog 14 #[.agg #[.int .i64 1, .int .i64 n, .int .u64 x, .string s], .pointer (some ⟨P, 0, none⟩)] w fun e w' => e = .returned (.bool true) ∧ Rd w' P H (off + (4 + s.size)) rest ∧ Below B w w' := by
  have hal : Below w.heap.size w (w.alloc (.cells #[.int .i64 1, .int .i64 n, .int .u64 x, .string s] 24)) := (Below.refl _ _).alloc (Nat.le_refl _) _
  have HP : Hid (P < w.heap.size) := hr.lt
  have HR : Hid (Rd (w.alloc (.cells #[.int .i64 1, .int .i64 n, .int .u64 x, .string s] 24)) P H off (Rec.text s ++ rest)) := hr.grow hal
  have HL : Hid ((Rec.text s ++ rest).length ≤ 16777216) := hl
  have HBS : Hid (Rec.Bs rest) := hb
  have HBB : Hid (B ≤ P) := hB
  clear hal hr hl hb hB
  go_enter Try.func14, Try.ntmps14
  go_wp2_with fail
  refine (rtext_laid P H off s rest _ hs HR.out HL.out HBS.out).mono ?_
  rintro e w1 ⟨rfl, hr1, hg1⟩
  have HI1 : Hid (IB w1 w.heap.size 1 n x s) := (ib_new w 1 n x s).grown hg1 (by have := HP.out; omega)
  have HB1 : Hid (Below B w w1) := by
    have h1 := HP.out
    have h2 := HBB.out
    exact ((Below.refl _ _).alloc (by omega) _).grown hg1 (by simp; omega) (fun k hk => by cases hk; exact h2)
  have HR1 : Hid (Rd w1 P H (off + (4 + s.size)) rest) := by rw [← Nat.add_assoc]; exact hr1
  obtain ⟨c0, c1, c2, c3⟩ := HI1.out.cells
  clear hr1 hg1 HR HL HBS
  go_wp2
  go_ret
  exact ⟨ret_bool (by simp), HR1.out, HB1.out⟩
/-- taken: bytes -/
theorem taken_raw (k n : Int) (x : Nat) (s : ByteArray) (P H off B : Nat) (rest : List Int) (w : World) (h0 : k ≠ 0) (h1 : k ≠ 1) (_hs : s.size ≤ 1048576) (hB : B ≤ P) (hr : Rd w P H off (Rec.str s ++ rest)) (hl : (Rec.str s ++ rest).length ≤ 16777216) :
    Calls Try.prog 14 #[.agg #[.int .i64 k, .int .i64 n, .int .u64 x, .string s], .pointer (some ⟨P, 0, none⟩)] w fun e w' => e = .returned (.bool true) ∧ Rd w' P H (off + s.size) rest ∧ Below B w w' := by
  have hal : Below w.heap.size w (w.alloc (.cells #[.int .i64 k, .int .i64 n, .int .u64 x, .string s] 24)) := (Below.refl _ _).alloc (Nat.le_refl _) _
  have HP : Hid (P < w.heap.size) := hr.lt
  have HR : Hid (Rd (w.alloc (.cells #[.int .i64 k, .int .i64 n, .int .u64 x, .string s] 24)) P H off (Rec.str s ++ rest)) := hr.grow hal
  have HL : Hid ((Rec.str s ++ rest).length ≤ 16777216) := hl
  have HBB : Hid (B ≤ P) := hB
  clear hal hr hl hB
  go_enter Try.func14, Try.ntmps14
  go_wp2_with fail
  refine (take_ok P H off s.size _ _ HR.out HL.out (by simp [Rec.str_length])).mono ?_
  rintro e w1 ⟨a1, rfl, _, hb1, hr1, hg1⟩
  rw [List.take_left' (Rec.str_length s)] at hb1
  rw [List.drop_left' (Rec.str_length s)] at hr1
  have hcv := conv_string w1 a1 s.size s.size (Rec.str s) (Rec.str_length s).symm hb1
  rw [strOf_str] at hcv
  have HI1 : Hid (IB w1 w.heap.size k n x s) := (ib_new w k n x s).grown hg1 (by have := HP.out; omega)
  have HB1 : Hid (Below B w w1) := by
    have h1 := HP.out
    have h2 := HBB.out
    exact ((Below.refl _ _).alloc (by omega) _).grown hg1 (by simp; omega) (fun k hk => by cases hk; exact h2)
  have HR1 : Hid (Rd w1 P H (off + s.size) rest) := hr1
  obtain ⟨c0, c1, c2, c3⟩ := HI1.out.cells
  clear hr1 hg1 HR HL hb1
  go_wp2
  go_ret
  exact ⟨ret_bool (by simp), HR1.out, HB1.out⟩

theorem taken_yes (i : It) (P H off B : Nat) (rest : List Int) (w : World) (hi : i.Ok) (hB : B ≤ P) (hr : Rd w P H off (i.enc ++ rest)) (hl : (i.enc ++ rest).length ≤ 16777216) (hb : Rec.Bs rest) :
    Calls Try.prog 14 #[i.val, .pointer (some ⟨P, 0, none⟩)] w fun e w' => e = .returned (.bool true) ∧ Rd w' P H (off + i.enc.length) rest ∧ Below B w w' := by
  obtain ⟨k, n, x, s⟩ := i
  obtain ⟨hx, hs⟩ := hi
  by_cases h0 : k = 0
  · subst h0
    have e1 : (It.mk 0 n x s).enc = Rec.num (Rec.brought n x) (Rec.wid n) := rfl
    rw [e1] at hr hl ⊢
    rw [Rec.num_length]
    exact taken_num n x s P H off B rest w hx hB hr hl hb
  · by_cases h1 : k = 1
    · subst h1
      have e1 : (It.mk 1 n x s).enc = Rec.text s := rfl
      rw [e1] at hr hl ⊢
      rw [Rec.text_length]
      exact taken_text n x s P H off B rest w hs hB hr hl hb
    · have e1 : (It.mk k n x s).enc = Rec.str s := by simp [It.enc, h0, h1]
      rw [e1] at hr hl ⊢
      rw [Rec.str_length]
      exact taken_raw k n x s P H off B rest w h0 h1 hs hB hr hl

/-- not to be had of fewer bytes: nothing is taken -/
theorem taken_no (i : It) (P H off B m : Nat) (w : World) (hi : i.Ok) (hB : B ≤ P) (hm : m < i.enc.length) (hr : Rd w P H off (i.enc.take m)) (hl : m ≤ 16777216) :
    Calls Try.prog 14 #[i.val, .pointer (some ⟨P, 0, none⟩)] w fun e w' => e = .returned (.bool false) ∧ Rd w' P H off (i.enc.take m) ∧ Below B w w' := by
  have hz : (i.enc.take m).length = m := by simp; omega
  have hal : Below w.heap.size w (w.alloc (.cells #[.int .i64 i.k, .int .i64 i.n, .int .u64 i.x, .string i.s] 24)) := (Below.refl _ _).alloc (Nat.le_refl _) _
  have hr1 := hr.grow hal
  have hP := hr.lt
  have HR : Hid (Rd (w.alloc (.cells #[.int .i64 i.k, .int .i64 i.n, .int .u64 i.x, .string i.s] 24)) P H off (i.enc.take m)) := hr1
  have HB1 : Hid (Below B w (w.alloc (.cells #[.int .i64 i.k, .int .i64 i.n, .int .u64 i.x, .string i.s] 24))) := (Below.refl _ _).alloc (by omega) _
  obtain ⟨k, n, x, s⟩ := i
  obtain ⟨hx, hs⟩ := hi
  have hs : s.size ≤ 1048576 := hs
  have HZ : Hid (((It.mk k n x s).enc.take m).length = m) := hz
  by_cases h0 : k = 0
  · subst h0
    have hm2 : m < Rec.wid n := by
      have e1 : (It.mk 0 n x s).enc = Rec.num (Rec.brought n x) (Rec.wid n) := rfl
      rw [e1, Rec.num_length] at hm; exact hm
    have hlw := Rec.wid_lo n
    have hhw := Rec.wid_hi n
    clear hr hr1 hz hal hm hB
    unfold It.val
    go_enter Try.func14, Try.ntmps14
    go_wp2_with fail
    refine (width_any n _).mono ?_
    rintro e w0 ⟨rfl, hw0⟩
    subst hw0
    go_wp2_with fail
    refine (rnum_short P H off (Rec.wid n) _ _ HR.out hlw hhw (by rw [HZ.out]; exact hm2)).mono ?_
    rintro e w1 ⟨rfl, hw1⟩
    subst hw1
    go_wp2
    go_ret
    exact ⟨rfl, HR.out, HB1.out⟩
  · by_cases h1 : k = 1
    · subst h1
      have e1 : (It.mk 1 n x s).enc = Rec.text s := rfl
      have hm2 : m < 4 + s.size := by rw [e1, Rec.text_length] at hm; exact hm
      by_cases h4 : m < 4
      · clear hr hr1 hz hal hm hB
        unfold It.val
        go_enter Try.func14, Try.ntmps14
        go_wp2_with fail
        refine (rtext_short4 P H off _ _ HR.out (by rw [HZ.out]; exact h4)).mono ?_
        rintro e w1 ⟨rfl, hw1⟩
        subst hw1
        go_wp2
        go_ret
        exact ⟨rfl, HR.out, HB1.out⟩
      · have v4 : Rec.val (((It.mk 1 n x s).enc.take m).take 4) = s.size := by
          rw [e1, List.take_take, Nat.min_eq_left (by omega), Rec.text, List.take_left' (Rec.num_length _ _), Rec.val_num, Nat.mod_eq_of_lt (by rw [Rec.pow4]; omega)]
        have HV : Hid (Rec.val (((It.mk 1 n x s).enc.take m).take 4) = s.size) := v4
        have HBS : Hid (Rec.Bs ((It.mk 1 n x s).enc.take m)) := Rec.bs_take (It.enc_bs _) m
        clear hr hr1 hz hal hm hB v4 e1
        unfold It.val
        go_enter Try.func14, Try.ntmps14
        go_wp2_with fail
        refine (rtext_short P H off _ _ HR.out HBS.out (by rw [HZ.out]; exact hl) (by rw [HZ.out]; omega) (by rw [HZ.out, HV.out]; exact hm2)).mono ?_
        rintro e w1 ⟨rfl, hw1⟩
        subst hw1
        go_wp2
        go_ret
        exact ⟨rfl, HR.out, HB1.out⟩
    · have e1 : (It.mk k n x s).enc = Rec.str s := by simp [It.enc, h0, h1]
      have hm2 : m < s.size := by rw [e1, Rec.str_length] at hm; exact hm
      clear hr hr1 hz hal hm hB e1
      unfold It.val
      go_enter Try.func14, Try.ntmps14
      go_wp2_with fail
      refine (take_short P H off s.size _ _ HR.out (by rw [HZ.out]; omega)).mono ?_
      rintro e w1 ⟨rfl, hw1⟩
      subst hw1
      go_wp2
      go_ret
      exact ⟨rfl, HR.out, HB1.out⟩
end Go.Proofs.Ytfncocffnfebbaa
