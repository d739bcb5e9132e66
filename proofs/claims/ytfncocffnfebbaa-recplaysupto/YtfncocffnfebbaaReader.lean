/- The contracts of package rec's reader: Read, Left, cut, Num, Text, Take. -/
import Derived.Test.YtfncocffnfebbaaWalks
namespace Go.Proofs.Ytfncocffnfebbaa
open Go.RowKit

/-- A READER at block P; what is left of its copy lies in block H from off on. -/
def Rd (w : World) (P H off : Nat) (zs : List Int) : Prop :=
  ∃ a, w.heap[P]? = some (.cells #[.slice a zs.length zs.length] 68 (0, 0)) ∧ P ≠ H ∧ (zs ≠ [] → a = some ⟨H, off, none⟩) ∧ ∀ k, k < zs.length → w.cell? ⟨H, off + k, none⟩ = some (.int .u8 (zs.getD k 0))

theorem cell_of_block {w : World} {P : Nat} {v : Value} {t : TypeId} (h : w.heap[P]? = some (.cells #[v] t (0, 0))) : w.cell? ⟨P, 0, none⟩ = some v ∧ w.frozen? ⟨P, 0, none⟩ = false := by
  simp [World.cell?, World.frozen?, h]

theorem heap_setCell_one {w : World} {P : Nat} {u v : Value} {t : TypeId} (h : w.heap[P]? = some (.cells #[u] t (0, 0))) : (w.setCell ⟨P, 0, none⟩ v).heap[P]? = some (.cells #[v] t (0, 0)) := by
  simp only [World.setCell, Array.getElem?_modify, h]
  rfl
theorem grown_setCell (w : World) (P o nq : Nat) (v : Value) : w.grownBy ((w.drewN nq).setCell ⟨P, o, none⟩ v) (some P) :=
  ⟨rfl, rfl, rfl, by simp [World.setCell, World.drewN], fun k _ hk => Below.heap_setCell (w.drewN nq) ⟨P, o, none⟩ v k (fun e => hk (by rw [e]))⟩
theorem grown_cell {w w' : World} {P : Nat} (h : w.grownBy w' (some P)) {b o : Nat} {v : Value} (hb : b ≠ P) (hc : w.cell? ⟨b, o, none⟩ = some v) : w'.cell? ⟨b, o, none⟩ = some v :=
  h.cell hc (fun e => hb (by simpa using e))

theorem rd_cut (P H off n nq : Nat) (a a' : Option Addr) (zs : List Int) (w : World) (h1 : w.heap[P]? = some (.cells #[.slice a zs.length zs.length] 68 (0, 0))) (h2 : P ≠ H) (h3 : zs ≠ [] → a = some ⟨H, off, none⟩)
    (h4 : ∀ k, k < zs.length → w.cell? ⟨H, off + k, none⟩ = some (.int .u8 (zs.getD k 0))) (hn : n ≤ zs.length) (ha : n < zs.length → a' = some ⟨H, off + n, none⟩) :
    (n ≠ 0 → a = some ⟨H, off, none⟩) ∧ BytesAt ((w.drewN nq).setCell ⟨P, 0, none⟩ (.slice a' (zs.length - n) (zs.length - n))) a (zs.take n) ∧
    Rd ((w.drewN nq).setCell ⟨P, 0, none⟩ (.slice a' (zs.length - n) (zs.length - n))) P H (off + n) (zs.drop n) ∧ w.grownBy ((w.drewN nq).setCell ⟨P, 0, none⟩ (.slice a' (zs.length - n) (zs.length - n))) (some P) := by
  have hg := grown_setCell w P 0 nq (.slice a' (zs.length - n) (zs.length - n))
  have hne : ∀ m, m ≠ 0 → m ≤ zs.length → zs ≠ [] := fun m hm hl e => by rw [e] at hl; simp at hl; omega
  refine ⟨fun hz => h3 (hne n hz hn), ?_, ⟨a', ?_, h2, ?_, ?_⟩, hg⟩
  · by_cases hz : n = 0
    · subst hz; exact Or.inl (by simp)
    · refine Or.inr ⟨H, off, h3 (hne n hz hn), fun k hk => ?_⟩
      have hk1 : k < n := by simp at hk; omega
      have hk2 : k < zs.length := by omega
      have := grown_cell hg (Ne.symm h2) (h4 k hk2)
      rw [this]
      simp [hk1, hk2]
  · rw [List.length_drop]
    exact heap_setCell_one (w := w.drewN nq) h1
  · intro hd
    refine ha ?_
    have := List.length_pos_iff.2 hd
    rw [List.length_drop] at this
    omega
  · intro k hk
    rw [List.length_drop] at hk
    have := grown_cell hg (Ne.symm h2) (h4 (n + k) (by omega))
    rw [Nat.add_assoc, this]
    simp

set_option maxHeartbeats 400000 in
theorem cut_any (P H off n : Nat) (zs : List Int) (w : World) (hr : Rd w P H off zs) (_hl : zs.length ≤ 16777216) (hn : n ≤ zs.length) :
    Calls Try.prog 34 #[.pointer (some ⟨P, 0, none⟩), .int .i64 n] w fun e w' => ∃ a, e = .returned (.slice a n n) ∧ (n ≠ 0 → a = some ⟨H, off, none⟩) ∧ BytesAt w' a (zs.take n) ∧ Rd w' P H (off + n) (zs.drop n) ∧ w.grownBy w' (some P) := by
  obtain ⟨a, h1, h2, h3, h4⟩ := hr
  obtain ⟨hc, hf⟩ := cell_of_block h1
  obtain ⟨L, hL⟩ : ∃ L, L = zs.length := ⟨_, rfl⟩
  rw [← hL] at hc hn _hl
  have H1 : Hid (w.heap[P]? = some (.cells #[.slice a zs.length zs.length] 68 (0, 0))) := h1
  have H3 : Hid (zs ≠ [] → a = some ⟨H, off, none⟩) := h3
  have H4 : Hid (∀ k, k < zs.length → w.cell? ⟨H, off + k, none⟩ = some (.int .u8 (zs.getD k 0))) := h4
  have HL : Hid (L = zs.length) := hL
  clear h1 h3 h4 hL
  go_enter Try.func34, Try.ntmps34
  go_wp2
  go_quiet (fail)
  go_wp2
  · refine bodyPost_ret (v := .slice a n n) (by simp [results, Try.results34, go_sem]) rfl ⟨a, rfl, ?_⟩
    have h := rd_cut P H off n nq a a zs w H1.out h2 H3.out H4.out (by rw [← HL.out]; exact hn) (fun hlt => by rw [← HL.out] at hlt; omega)
    rw [← HL.out, ‹L = n›, Nat.sub_self] at h
    exact h
  · refine bodyPost_ret (v := .slice a n n) (by simp [results, Try.results34, go_sem]) rfl ⟨a, rfl, ?_⟩
    have h := rd_cut P H off n nq a (a.map (fun x => x.add n)) zs w H1.out h2 H3.out H4.out (by rw [← HL.out]; exact hn) (fun hlt => by
      have hz : zs ≠ [] := fun e => by rw [e] at hlt; simp at hlt
      rw [H3.out hz, Option.map_some, Go.WideShapes.add_plain])
    rw [← HL.out] at h
    exact h

theorem Rd.later {w w' : World} {P H off : Nat} {zs : List Int} (h : Rd w P H off zs) (h1 : w'.heap[P]? = w.heap[P]?) (h2 : w'.heap[H]? = w.heap[H]?) : Rd w' P H off zs := by
  obtain ⟨a, e1, e2, e3, e4⟩ := h
  exact ⟨a, by rw [h1]; exact e1, e2, e3, fun k hk => by rw [World.cell?_of_block (w := w) h2]; exact e4 k hk⟩
/-- the facts of a reader that a walk wants -/
theorem Rd.open {w : World} {P H off : Nat} {zs : List Int} (h : Rd w P H off zs) : ∃ a, w.cell? ⟨P, 0, none⟩ = some (.slice a zs.length zs.length) ∧ w.frozen? ⟨P, 0, none⟩ = false ∧ BytesAt w a zs := by
  obtain ⟨a, e1, e2, e3, e4⟩ := h
  obtain ⟨hc, hf⟩ := cell_of_block e1
  refine ⟨a, hc, hf, ?_⟩
  by_cases hz : zs = []
  · exact Or.inl hz
  · exact Or.inr ⟨H, off, e3 hz, e4⟩

theorem left_any (P H off : Nat) (zs : List Int) (w : World) (hr : Rd w P H off zs) : Calls Try.prog 13 #[.pointer (some ⟨P, 0, none⟩)] w fun e w' => e = .returned (.int .i64 (zs.length : Nat)) ∧ w' = w := by
  obtain ⟨a, hc, _, _⟩ := hr.open
  clear hr
  go_enter Try.func13, Try.ntmps13
  go_wp2
  go_ret
  exact ⟨rfl, rfl⟩

/-- Num: no width -/
theorem rnum_wide (P : Nat) (n : Int) (w : World) (hn : n < 1 ∨ 8 < n) : Calls Try.prog 20 #[.pointer (some ⟨P, 0, none⟩), .int .i64 n] w fun e w' => e = .returned (.tuple #[.int .u64 0, .int .i64 21]) ∧ w' = w := by
  have HN : Hid (n < 1 ∨ 8 < n) := hn
  clear hn
  go_enter Try.func20, Try.ntmps20
  go_wp2_with fail
  refine (isWidth_no _ _ HN.out).mono ?_
  rintro e w' ⟨rfl, rfl⟩
  go_wp2
  go_ret2
  exact ⟨rfl, rfl⟩
theorem rnum_short (P H off n : Nat) (zs : List Int) (w : World) (hr : Rd w P H off zs) (h1 : 1 ≤ n) (h8 : n ≤ 8) (hs : zs.length < n) : Calls Try.prog 20 #[.pointer (some ⟨P, 0, none⟩), .int .i64 n] w fun e w' => e = .returned (.tuple #[.int .u64 0, .int .i64 20]) ∧ w' = w := by
  obtain ⟨a, hc, _, _⟩ := hr.open
  obtain ⟨L, hL⟩ : ∃ L, L = zs.length := ⟨_, rfl⟩
  rw [← hL] at hc hs
  clear hr hL
  go_enter Try.func20, Try.ntmps20
  go_wp2_with fail
  refine (isWidth_yes _ _ (by omega) (by omega)).mono ?_
  rintro e w' ⟨rfl, rfl⟩
  go_wp2
  go_ret2
  exact ⟨rfl, rfl⟩
theorem rnum_ok (P H off n : Nat) (zs : List Int) (w : World) (hr : Rd w P H off zs) (h1 : 1 ≤ n) (h8 : n ≤ 8) (hl : zs.length ≤ 16777216) (hs : n ≤ zs.length) (hb : Rec.Bs zs) :
    Calls Try.prog 20 #[.pointer (some ⟨P, 0, none⟩), .int .i64 n] w fun e w' => e = .returned (.tuple #[.int .u64 (Rec.val (zs.take n) : Nat), .int .i64 0]) ∧ Rd w' P H (off + n) (zs.drop n) ∧ w.grownBy w' (some P) := by
  obtain ⟨a, hc, _, _⟩ := hr.open
  have HR : Hid (Rd w P H off zs) := hr
  have HB : Hid (Rec.Bs zs) := hb
  obtain ⟨L, hL⟩ : ∃ L, L = zs.length := ⟨_, rfl⟩
  rw [← hL] at hc hs hl
  have HL : Hid (L = zs.length) := hL
  clear hr hL hb
  go_enter Try.func20, Try.ntmps20
  go_wp2_with fail
  refine (isWidth_yes _ _ (by omega) (by omega)).mono ?_
  rintro e w' ⟨rfl, rfl⟩
  go_wp2_with fail
  refine (cut_any P H off n zs _ HR.out (by rw [← HL.out]; exact hl) (by rw [← HL.out]; exact hs)).mono ?_
  rintro e w1 ⟨a1, rfl, _, hb1, hr1, hg1⟩
  have HB1 : Hid (BytesAt w1 a1 (zs.take n)) := hb1
  have HR1 : Hid (Rd w1 P H (off + n) (zs.drop n)) := hr1
  have HG1 : Hid (w'.grownBy w1 (some P)) := hg1
  clear hb1 hr1 hg1 hc
  go_wp2_with fail
  refine (number_any a1 n n (zs.take n) _ (by rw [List.length_take, ← HL.out]; omega) h8 HB1.out (Rec.bs_take HB.out n)).mono ?_
  rintro e w2 ⟨rfl, rfl⟩
  go_wp2
  go_ret2
  exact ⟨rfl, HR1.out, HG1.out⟩

/-- Take -/
theorem take_inval (P : Nat) (n : Int) (w : World) (hn : n < 0) : Calls Try.prog 24 #[.pointer (some ⟨P, 0, none⟩), .int .i64 n] w fun e w' => e = .returned (.tuple #[.slice none 0 0, .int .i64 1]) ∧ w' = w := by
  go_enter Try.func24, Try.ntmps24
  go_wp2
  go_ret2
  exact ⟨rfl, rfl⟩
theorem take_short (P H off : Nat) (n : Int) (zs : List Int) (w : World) (hr : Rd w P H off zs) (hs : (zs.length : Int) < n) : Calls Try.prog 24 #[.pointer (some ⟨P, 0, none⟩), .int .i64 n] w fun e w' => e = .returned (.tuple #[.slice none 0 0, .int .i64 20]) ∧ w' = w := by
  obtain ⟨a, hc, _, _⟩ := hr.open
  obtain ⟨L, hL⟩ : ∃ L, L = zs.length := ⟨_, rfl⟩
  rw [← hL] at hc hs
  clear hr hL
  have h0 : 0 ≤ n := by omega
  go_enter Try.func24, Try.ntmps24
  go_wp2
  go_ret2
  exact ⟨rfl, rfl⟩
theorem take_ok (P H off n : Nat) (zs : List Int) (w : World) (hr : Rd w P H off zs) (hl : zs.length ≤ 16777216) (hs : n ≤ zs.length) :
    Calls Try.prog 24 #[.pointer (some ⟨P, 0, none⟩), .int .i64 n] w fun e w' => ∃ a, e = .returned (.tuple #[.slice a n n, .int .i64 0]) ∧ (n ≠ 0 → a = some ⟨H, off, none⟩) ∧ BytesAt w' a (zs.take n) ∧ Rd w' P H (off + n) (zs.drop n) ∧ w.grownBy w' (some P) := by
  obtain ⟨a, hc, _, _⟩ := hr.open
  have HR : Hid (Rd w P H off zs) := hr
  obtain ⟨L, hL⟩ : ∃ L, L = zs.length := ⟨_, rfl⟩
  rw [← hL] at hc hs hl
  have HL : Hid (L = zs.length) := hL
  clear hr hL
  go_enter Try.func24, Try.ntmps24
  go_wp2_with fail
  refine (cut_any P H off n zs _ HR.out (by rw [← HL.out]; exact hl) (by rw [← HL.out]; exact hs)).mono ?_
  rintro e w1 ⟨a1, rfl, ha1, hb1, hr1, hg1⟩
  have HA1 : Hid (n ≠ 0 → a1 = some ⟨H, off, none⟩) := ha1
  have HB1 : Hid (BytesAt w1 a1 (zs.take n)) := hb1
  have HR1 : Hid (Rd w1 P H (off + n) (zs.drop n)) := hr1
  have HG1 : Hid (w.grownBy w1 (some P)) := hg1
  clear ha1 hb1 hr1 hg1 hc
  go_wp2
  go_ret2
  exact ⟨a1, rfl, HA1.out, HB1.out, HR1.out, HG1.out⟩

/-- Text -/
theorem rtext_short4 (P H off : Nat) (zs : List Int) (w : World) (hr : Rd w P H off zs) (hs : zs.length < 4) : Calls Try.prog 22 #[.pointer (some ⟨P, 0, none⟩)] w fun e w' => e = .returned (.tuple #[.string ⟨#[]⟩, .int .i64 20]) ∧ w' = w := by
  obtain ⟨a, hc, _, _⟩ := hr.open
  obtain ⟨L, hL⟩ : ∃ L, L = zs.length := ⟨_, rfl⟩
  rw [← hL] at hc hs
  clear hr hL
  go_enter Try.func22, Try.ntmps22
  go_wp2
  go_ret2
  exact ⟨rfl, rfl⟩
theorem rtext_short (P H off : Nat) (zs : List Int) (w : World) (hr : Rd w P H off zs) (hb : Rec.Bs zs) (hl : zs.length ≤ 16777216) (h4 : 4 ≤ zs.length) (hs : zs.length < 4 + Rec.val (zs.take 4)) : Calls Try.prog 22 #[.pointer (some ⟨P, 0, none⟩)] w fun e w' => e = .returned (.tuple #[.string ⟨#[]⟩, .int .i64 20]) ∧ w' = w := by
  obtain ⟨a, hc, _, hba⟩ := hr.open
  have HA : Hid (BytesAt w a (zs.take 4)) := bytesAt_take 4 hba
  have HB : Hid (Rec.Bs (zs.take 4)) := Rec.bs_take hb 4
  have HV : Hid ((zs.take 4).length = 4) := by show _ = _; simp; omega
  obtain ⟨L, hL⟩ : ∃ L, L = zs.length := ⟨_, rfl⟩
  rw [← hL] at hc hs hl h4
  obtain ⟨V, hV⟩ : ∃ V, V = Rec.val (zs.take 4) := ⟨_, rfl⟩
  have HW : Hid (V = Rec.val (zs.take 4)) := hV
  rw [← hV] at hs
  clear hr hL hV hb hba
  go_enter Try.func22, Try.ntmps22
  go_wp2_with fail
  refine (number_any a 4 4 (zs.take 4) _ HV.out.symm (by decide) HA.out HB.out).mono ?_
  rintro e w2 ⟨rfl, rfl⟩
  rw [← HW.out]
  go_wp2
  go_ret2
  exact ⟨rfl, rfl⟩
theorem rtext_ok (P H off : Nat) (zs : List Int) (w : World) (hr : Rd w P H off zs) (hb : Rec.Bs zs) (hl : zs.length ≤ 16777216) (hs : 4 + Rec.val (zs.take 4) ≤ zs.length) :
    Calls Try.prog 22 #[.pointer (some ⟨P, 0, none⟩)] w fun e w' => e = .returned (.tuple #[.string (strOfNums ((zs.drop 4).take (Rec.val (zs.take 4)))), .int .i64 0]) ∧ Rd w' P H (off + 4 + Rec.val (zs.take 4)) (zs.drop (4 + Rec.val (zs.take 4))) ∧ w.grownBy w' (some P) := by
  obtain ⟨a, hc, _, hba⟩ := hr.open
  have HR : Hid (Rd w P H off zs) := hr
  have HA : Hid (BytesAt w a (zs.take 4)) := bytesAt_take 4 hba
  have HB : Hid (Rec.Bs (zs.take 4)) := Rec.bs_take hb 4
  have HV : Hid ((zs.take 4).length = 4) := by show _ = _; simp; omega
  obtain ⟨L, hL⟩ : ∃ L, L = zs.length := ⟨_, rfl⟩
  rw [← hL] at hc hs hl
  have HL : Hid (L = zs.length) := hL
  obtain ⟨V, hV⟩ : ∃ V, V = Rec.val (zs.take 4) := ⟨_, rfl⟩
  have HW : Hid (V = Rec.val (zs.take 4)) := hV
  rw [← hV] at hs ⊢
  clear hr hL hV hb hba
  go_enter Try.func22, Try.ntmps22
  go_wp2_with fail
  refine (number_any a 4 4 (zs.take 4) _ HV.out.symm (by decide) HA.out HB.out).mono ?_
  rintro e w2 ⟨rfl, rfl⟩
  rw [← HW.out]
  go_wp2_with fail
  refine (cut_any P H off 4 zs _ HR.out (by rw [← HL.out]; exact hl) (by rw [← HL.out]; omega)).mono ?_
  rintro e w1 ⟨a1, rfl, _, _, hr1, hg1⟩
  have HR1 : Hid (Rd w1 P H (off + 4) (zs.drop 4)) := hr1
  have HG1 : Hid (w2.grownBy w1 (some P)) := hg1
  clear hr1 hg1 hc
  go_wp2_with fail
  refine (cut_any P H (off + 4) V (zs.drop 4) _ HR1.out (by rw [List.length_drop, ← HL.out]; omega) (by rw [List.length_drop, ← HL.out]; omega)).mono ?_
  rintro e w3 ⟨a3, rfl, _, hb3, hr3, hg3⟩
  have hcv := conv_string w3 a3 V V ((zs.drop 4).take V) (by rw [List.length_take, List.length_drop, ← HL.out]; omega) hb3
  obtain ⟨S, hS⟩ : ∃ S, S = strOfNums ((zs.drop 4).take V) := ⟨_, rfl⟩
  rw [← hS] at hcv
  have HS : Hid (S = strOfNums ((zs.drop 4).take V)) := hS
  have HR3 : Hid (Rd w3 P H (off + 4 + V) (zs.drop (4 + V))) := by rw [List.drop_drop] at hr3; exact hr3
  have HG3 : Hid (w2.grownBy w3 (some P)) := ⟨hg3.os.trans HG1.out.os, hg3.tape.trans HG1.out.tape, hg3.output.trans HG1.out.output, Nat.le_trans HG1.out.size hg3.size, fun k hk hne => (hg3.block k (Nat.lt_of_lt_of_le hk HG1.out.size) hne).trans (HG1.out.block k hk hne)⟩
  clear hb3 hr3 hg3 hS
  go_wp2
  go_ret2
  exact ⟨by rw [HS.out]; rfl, HR3.out, HG3.out⟩

/-- Read -/
theorem rd_new (w : World) (B H n : Nat) (zs : List Int) (hn : n = zs.length) (ho : Owns w B (.slice (some ⟨H, 0, none⟩) n n) zs) : Rd (w.alloc (.cells #[.slice (some ⟨H, 0, none⟩) n n] 68)) w.heap.size H 0 zs ∧ H < w.heap.size ∧ B ≤ H := by
  subst hn
  obtain ⟨g, c, e, hB, hlt, hb, _⟩ := ho.form
  cases e
  refine ⟨⟨some ⟨H, 0, none⟩, heap_alloc_new w _, by omega, fun _ => rfl, fun k hk => ?_⟩, hlt, hB⟩
  rcases hb with h0 | ⟨b, off, e, hc⟩
  · rw [h0] at hk; simp at hk
  · cases e
    rw [World.cell?_of_block (w := w) (Below.heap_alloc w _ H hlt)]
    exact hc k hk
theorem read_any (a : Option Addr) (n cap : Nat) (zs : List Int) (w : World) (hn : n = zs.length) (hb : BytesAt w a zs) (hl : n ≤ 16777216) :
    Calls Try.prog 12 #[.slice a n cap] w fun e w' => ∃ P H, e = .returned (.pointer (some ⟨P, 0, none⟩)) ∧ w.heap.size ≤ P ∧ w.heap.size ≤ H ∧ Rd w' P H 0 zs ∧ Below w.heap.size w w' ∧ H < w'.heap.size ∧ P < w'.heap.size := by
  have HN : Hid (n = zs.length) := hn
  have HB : Hid (BytesAt w a zs) := hb
  clear hn hb
  go_enter Try.func12, Try.ntmps12
  go_wp2_with (first
    | (at_make; refine wpList_make_zeros rfl _ _ rfl n _ _ rfl rfl rfl rfl (by omega) ?_; intro w1 ho1 hb1; have HO1 : Hid (Owns w1 w.heap.size (.slice (some ⟨w.heap.size, 0, none⟩) n n) (List.replicate n 0)) := ho1; have HB1 : Hid (Below w.heap.size w w1) := hb1; clear ho1 hb1)
    | (refine wpList_copy_bytes rfl _ _ rfl w.heap.size _ (List.replicate n 0) rfl HO1.out a cap n zs HN.out rfl (bytesAt_later HB1.out HB.out) (by rw [List.length_replicate, HN.out]; exact Nat.le_refl _) ?_; intro w2 ho2 hb2; have HO2 : Hid (Owns w2 w.heap.size (.slice (some ⟨w.heap.size, 0, none⟩) n n) zs) := (by rw [List.length_replicate, HN.out, List.take_length] at ho2; rw [HN.out]; exact ho2); have HB2 : Hid (Below w.heap.size w w2) := HB1.out.trans hb2; clear ho2 hb2))
  obtain ⟨hrd, hH, hBH⟩ := rd_new w2 w.heap.size w.heap.size n zs HN.out HO2.out
  have hz := HB2.out.size
  exact bodyPost_ret (v := .pointer (some ⟨w2.heap.size, 0, none⟩)) (by simp [results, Try.results12, go_sem]) rfl ⟨w2.heap.size, w.heap.size, rfl, hz, hBH, hrd, HB2.out.alloc hz _, by simp; omega, by simp⟩
end Go.Proofs.Ytfncocffnfebbaa
