/- lines.New, heronref16.New, heronlaw16.num and known. -/
import Derived.Test.YtjmjhmohholmbaaG14
import Derived.Lib.SlBytesConst
namespace Go.Proofs.Ytjmjhmohholmbaa
open Go.RowKit Go.Maps Ln
attribute [local go_sem ↓] Go.wp_at_zero Go.wp_at_succ

def mk0 (y : Nat) : Mk := ⟨[], y, 0⟩
theorem new_no {y : Int} (w : World) (h : y < 0 ∨ 4096 < y) : Calls Try.prog 7 #[.int .i64 y] w fun e w' => e = .returned (.tuple #[.pointer none, .int .i64 1]) ∧ w' = w := by
  rcases h with h | h
  · go_enter Try.func7, Try.ntmps7
    go_wp2
    go_ret2
    exact ⟨rfl, rfl⟩
  · have h' : ¬ y < 0 := by omega
    go_enter Try.func7, Try.ntmps7
    go_wp2
    go_ret2
    exact ⟨rfl, rfl⟩
theorem new_yes {y : Nat} (w : World) (h : y ≤ 4096) : Calls Try.prog 7 #[.int .i64 (y : Nat)] w fun e w' => e = .returned (.tuple #[.pointer (some ⟨w.heap.size, 0, none⟩), .int .i64 0]) ∧ MkAt w' w.heap.size (.slice none 0 0) (mk0 y) ∧ Below w.heap.size w w' := by
  have HE : Hid (MkAt (w.alloc (.cells #[.slice none 0 0, .int .i64 0, .int .i64 (y : Nat), .int .i64 0] 39)) w.heap.size (.slice none 0 0) (mk0 y) ∧ Below w.heap.size w (w.alloc (.cells #[.slice none 0 0, .int .i64 0, .int .i64 (y : Nat), .int .i64 0] 39))) := by
    refine ⟨⟨heap_alloc_new w _, ?_⟩, (Below.refl _ _).alloc (Nat.le_refl _) _⟩
    have : (mk0 y).held = [] := by unfold Mk.held mk0; split <;> rfl
    rw [this]
    exact owns_nil _ 0 5
  have h1 : ¬ (y : Int) < 0 := by omega
  have h2 : ¬ (4096 : Int) < (y : Int) := by omega
  go_enter Try.func7, Try.ntmps7
  go_wp2
  go_ret2
  exact ⟨rfl, HE.out⟩
theorem rnew_no {y : Int} (w : World) (h : y < 0 ∨ 4096 < y) : Calls Try.prog 14 #[.int .i64 y] w fun e w' => e = .returned (.tuple #[.pointer none, .int .i64 1]) ∧ w' = w := by
  rcases h with h | h
  · go_enter Try.func14, Try.ntmps14
    go_wp2
    go_ret2
    exact ⟨rfl, rfl⟩
  · have h' : ¬ y < 0 := by omega
    go_enter Try.func14, Try.ntmps14
    go_wp2
    go_ret2
    exact ⟨rfl, rfl⟩
theorem rnew_yes {y : Nat} (w : World) (h : y ≤ 4096) : Calls Try.prog 14 #[.int .i64 (y : Nat)] w fun e w' => e = .returned (.tuple #[.pointer (some ⟨w.heap.size, 0, none⟩), .int .i64 0]) ∧ RkAt w' w.heap.size (.slice none 0 0) (mk0 y) ∧ Below w.heap.size w w' := by
  have HE : Hid (RkAt (w.alloc (.cells #[.int .i64 (y : Nat), .slice none 0 0, .int .i64 0] 56)) w.heap.size (.slice none 0 0) (mk0 y) ∧ Below w.heap.size w (w.alloc (.cells #[.int .i64 (y : Nat), .slice none 0 0, .int .i64 0] 56))) :=
    ⟨⟨heap_alloc_new w _, owns_nil _ 0 5⟩, (Below.refl _ _).alloc (Nat.le_refl _) _⟩
  have h1 : ¬ (y : Int) < 0 := by omega
  have h2 : ¬ (4096 : Int) < (y : Int) := by omega
  go_enter Try.func14, Try.ntmps14
  go_wp2
  go_ret2
  exact ⟨rfl, HE.out⟩
theorem num_fn (k : Int) (w : World) : Calls Try.prog 8 #[.int .i64 k] w fun e w' => e = .returned (.int .i64 k) ∧ w' = w := by
  go_enter Try.func8, Try.ntmps8
  go_wp2
  go_ret
  exact ⟨rfl, rfl⟩
/-- A MAKER IN NEW MEMORY -/
def Nm (w0 : World) (B : Nat) (m : Mk) (w : World) : Prop := ∃ V, MkAt w B V m ∧ w0.heap.size ≤ B ∧ (∀ b, V.ownBlock = some b → w0.heap.size ≤ b) ∧ Below w0.heap.size w0 w
section
variable {w0 w u : World} {B : Nat} {m m' : Mk} {V : Value}
theorem MkAt.same {V' : Value} (h : MkAt w B V m) (h' : MkAt w B V' m') : V = V' := by
  have x1 := h.b.cells.1
  rw [h'.b.cells.1] at x1
  exact (Option.some.inj x1).symm
theorem MkAt.later (h : MkAt w B V m) (hb : Below w.heap.size w u) : MkAt u B V m := ⟨h.b.same (hb.block B h.b.lt), h.o.keep fun b _ hl => hb.block b hl⟩
theorem Nm.step (h : Nm w0 B m w) (h2 : ∀ V, MkAt w B V m → MTo B V m' w u) : Nm w0 B m' u := by
  obtain ⟨V, a1, a2, a3, a4⟩ := h
  obtain ⟨V', b1, b2, b3⟩ := h2 V a1
  refine ⟨V', b1, a2, fun b hb => ?_, ?_⟩
  · rcases b2 b hb with e | e
    · exact a3 b e
    · exact Nat.le_trans a4.size e
  · exact ⟨b3.os.trans a4.os, b3.tape.trans a4.tape, b3.output.trans a4.output, Nat.le_trans a4.size b3.size, fun k hk => (b3.block k (Nat.lt_of_lt_of_le hk a4.size) (fun e => by
      rcases e with e | e
      · omega
      · have := a3 k e; omega)).trans (a4.block k hk)⟩
theorem Nm.later (h : Nm w0 B m w) (hb : Below w.heap.size w u) : Nm w0 B m u := by
  obtain ⟨V, a1, a2, a3, a4⟩ := h
  exact ⟨V, a1.later hb, a2, a3, below_step a4 hb⟩
theorem Nm.of_new (hb : Below w0.heap.size w0 w) (h1 : MkAt u w.heap.size (.slice none 0 0) m) (h2 : Below w.heap.size w u) : Nm w0 w.heap.size m u :=
  ⟨_, h1, hb.size, fun b hb => (by cases hb), below_step hb h2⟩
end
theorem nm_feed {w0 w : World} {B n k : Nat} {Y : Value} {m m' : Mk} {b t : List UInt8} {x : Bool} (h : Nm w0 B m w) (hY : LAt w Y (uv b)) (hm : m.most ≤ 4096) (hl : m.u.length + b.length ≤ 4611686018427387904) (hg : m.long ≤ 4611686018427387904) (ht : m.text b = t) (hk : took b = k) (hx : m.whole b = x) (hf : m.feed b = m') (hn : (k : Int) = n) :
    Calls Try.prog 16 #[.pointer (some ⟨B, 0, none⟩), Y] w fun e w' => e = .returned (.tuple #[.string ⟨t.toArray⟩, .int .i64 n, .bool x]) ∧ Nm w0 B m' w' := by
  subst ht hk hx hf
  obtain ⟨V1, h1, _⟩ := id h
  refine (feed_fn h1 hY hm hl hg).mono ?_
  rintro e u ⟨rfl, hu⟩
  exact ⟨by rw [hn], h.step fun V hv => by rw [hv.same h1]; exact hu⟩
theorem nm_held {w0 w : World} {B : Nat} {m : Mk} {n : Nat} (h : Nm w0 B m w) (hn : m.held.length = n) : Calls Try.prog 12 #[.pointer (some ⟨B, 0, none⟩)] w fun e w' => e = .returned (.int .i64 (n : Nat)) ∧ w' = w := by
  subst hn
  obtain ⟨V1, h1, _⟩ := h
  exact held_fn h1.b h1.o
theorem nm_begun {w0 w : World} {B : Nat} {m : Mk} {n : Nat} (h : Nm w0 B m w) (hn : m.u.length = n) : Calls Try.prog 11 #[.pointer (some ⟨B, 0, none⟩)] w fun e w' => e = .returned (.int .i64 (n : Nat)) ∧ w' = w := by
  subst hn
  obtain ⟨V1, h1, _⟩ := h
  exact begun_fn h1.b
theorem nm_long {w0 w : World} {B : Nat} {m : Mk} {n : Nat} (h : Nm w0 B m w) (hn : m.long = n) : Calls Try.prog 10 #[.pointer (some ⟨B, 0, none⟩)] w fun e w' => e = .returned (.int .i64 (n : Nat)) ∧ w' = w := by
  subst hn
  obtain ⟨V1, h1, _⟩ := h
  exact long_fn h1.b
theorem lat_const (u : World) (l : List UInt8) (fr : Nat × Nat) (hl : l.length ≤ 9223372036854775807) : LAt (u.alloc (.cells (uv l).toArray 5 fr)) (.slice (some ⟨u.heap.size, 0, none⟩) l.length l.length) (uv l) := by
  refine ⟨_, l.length, by rw [uv_len], by rw [uv_len]; exact Nat.le_refl _, hl, .inr ⟨u.heap.size, 0, rfl, fun k v hv => ?_⟩⟩
  rw [World.cell?_alloc_mark]
  simpa using hv
set_option maxRecDepth 8000 in
set_option maxHeartbeats 4000000 in
theorem known_fn (w : World) : Calls Try.prog 6 #[] w fun e w' => e = .returned (.bool true) ∧ Below w.heap.size w w' := by
  have hp1 : ∀ (p : Option Addr) (u : World), (binOp .eql 28 (.pointer p) (.pointer none)).run Try.prog u = .ok (.bool p.isNone) u := fun p u => run_eql_pointer_nil u _ p (by kernel_rfl)
  have kc : ∀ (u : World) (C : Array Value) (n c : Nat), (convert 22 22 (.slice (some ⟨u.heap.size, 0, none⟩) n c)).run Try.prog (u.alloc (.cells C 5)) = .ok (.slice (some ⟨u.heap.size, 0, none⟩) n c) (u.alloc (.cells C 5 (C.size, C.size + 1))) := fun u C n c => Lib.run_convert_bytes_const (P := Try.prog) u 22 5 C n c (by kernel_rfl) Try.underlying5
  have HN : Hid (Calls Try.prog 7 #[.int .i64 3] w _) := new_yes (y := 3) w (by decide)
  go_enter Try.func6, Try.ntmps6
  go_wp2_with fail
  refine HN.out.mono ?_
  rintro e w1 ⟨rfl, h1, k1⟩
  have HF1 : Hid (Nm w w.heap.size (mk0 3) w1) := Nm.of_new (Below.refl _ _) h1 k1
  obtain ⟨B, hB⟩ : ∃ B, w.heap.size = B := ⟨_, rfl⟩
  have HB : Hid (w.heap.size = B) := hB
  rw [hB] at HF1 ⊢
  clear HN h1 k1 hB
  have HM : Hid (Calls Try.prog 8 #[.int .i64 0] w1 _) := num_fn 0 w1
  go_wp2_with fail
  refine HM.out.mono ?_
  rintro e w2 ⟨rfl, rfl⟩
  clear HM
  obtain ⟨wa3, hwa⟩ : ∃ wa, w2.alloc (.cells #[.int .u8 97, .int .u8 98] 5 (2, 3)) = wa := ⟨_, rfl⟩
  have HWA : Hid (w2.alloc (.cells #[.int .u8 97, .int .u8 98] 5 (2, 3)) = wa3) := hwa
  have ka : Below w2.heap.size w2 wa3 := by rw [← hwa]; exact (Below.refl _ _).alloc (Nat.le_refl _) _
  have hla : LAt wa3 (.slice (some ⟨w2.heap.size, 0, none⟩) 2 2) (uv [97, 98]) := by rw [← hwa]; exact lat_const w2 [97, 98] (2, 3) (by decide)
  have HC : Hid (Calls Try.prog 16 #[.pointer (some ⟨B, 0, none⟩), .slice (some ⟨w2.heap.size, 0, none⟩) 2 2] wa3 fun e w' => e = .returned (.tuple #[.string ⟨#[]⟩, .int .i64 2, .bool false]) ∧ Nm w B ⟨[97, 98], 3, 0⟩ w') := nm_feed (t := []) (k := 2) (n := 2) (HF1.out.later ka) hla (by decide) (by decide) (by decide) (by decide) (by decide) (by decide) (by rfl) rfl
  clear hwa ka hla HF1
  go_wp2_with fail
  rw [HWA.out]
  clear HWA
  refine HC.out.mono ?_
  rintro e w3 ⟨rfl, h3⟩
  have HF3 : Hid (Nm w B ⟨[97, 98], 3, 0⟩ w3) := h3
  clear HC h3
  have HAh : Hid (Calls Try.prog 12 #[.pointer (some ⟨B, 0, none⟩)] w3 fun e w' => e = .returned (.int .i64 2) ∧ w' = w3) := nm_held HF3.out (n := 2) (by decide)
  have HAb : Hid (Calls Try.prog 11 #[.pointer (some ⟨B, 0, none⟩)] w3 fun e w' => e = .returned (.int .i64 2) ∧ w' = w3) := nm_begun HF3.out (n := 2) (by decide)
  go_wp2_with fail
  refine HAh.out.mono ?_
  rintro e wx ⟨rfl, hwx⟩
  rw [hwx]
  clear HAh hwx
  go_wp2_with fail
  refine HAb.out.mono ?_
  rintro e wx ⟨rfl, hwx⟩
  rw [hwx]
  clear HAb hwx
  obtain ⟨wa4, hwa⟩ : ∃ wa, w3.alloc (.cells #[.int .u8 99, .int .u8 10, .int .u8 100, .int .u8 101, .int .u8 10] 5 (5, 6)) = wa := ⟨_, rfl⟩
  have HWA : Hid (w3.alloc (.cells #[.int .u8 99, .int .u8 10, .int .u8 100, .int .u8 101, .int .u8 10] 5 (5, 6)) = wa4) := hwa
  have ka : Below w3.heap.size w3 wa4 := by rw [← hwa]; exact (Below.refl _ _).alloc (Nat.le_refl _) _
  have hla : LAt wa4 (.slice (some ⟨w3.heap.size, 0, none⟩) 5 5) (uv [99, 10, 100, 101, 10]) := by rw [← hwa]; exact lat_const w3 [99, 10, 100, 101, 10] (5, 6) (by decide)
  have HC : Hid (Calls Try.prog 16 #[.pointer (some ⟨B, 0, none⟩), .slice (some ⟨w3.heap.size, 0, none⟩) 5 5] wa4 fun e w' => e = .returned (.tuple #[.string ⟨#[97, 98, 99]⟩, .int .i64 2, .bool true]) ∧ Nm w B ⟨[], 3, 0⟩ w') := nm_feed (t := [97, 98, 99]) (k := 2) (n := 2) (HF3.out.later ka) hla (by decide) (by decide) (by decide) (by decide) (by decide) (by decide) (by rfl) rfl
  clear hwa ka hla HF3
  go_wp2_with fail
  rw [HWA.out]
  clear HWA
  refine HC.out.mono ?_
  rintro e w4 ⟨rfl, h3⟩
  have HF4 : Hid (Nm w B ⟨[], 3, 0⟩ w4) := h3
  clear HC h3
  have HAh : Hid (Calls Try.prog 12 #[.pointer (some ⟨B, 0, none⟩)] w4 fun e w' => e = .returned (.int .i64 0) ∧ w' = w4) := nm_held HF4.out (n := 0) (by decide)
  go_wp2_with fail
  refine HAh.out.mono ?_
  rintro e wx ⟨rfl, hwx⟩
  rw [hwx]
  clear HAh hwx
  obtain ⟨wa5, hwa⟩ : ∃ wa, w4.alloc (.cells #[.int .u8 97, .int .u8 98, .int .u8 99, .int .u8 100] 5 (4, 5)) = wa := ⟨_, rfl⟩
  have HWA : Hid (w4.alloc (.cells #[.int .u8 97, .int .u8 98, .int .u8 99, .int .u8 100] 5 (4, 5)) = wa5) := hwa
  have ka : Below w4.heap.size w4 wa5 := by rw [← hwa]; exact (Below.refl _ _).alloc (Nat.le_refl _) _
  have hla : LAt wa5 (.slice (some ⟨w4.heap.size, 0, none⟩) 4 4) (uv [97, 98, 99, 100]) := by rw [← hwa]; exact lat_const w4 [97, 98, 99, 100] (4, 5) (by decide)
  have HC : Hid (Calls Try.prog 16 #[.pointer (some ⟨B, 0, none⟩), .slice (some ⟨w4.heap.size, 0, none⟩) 4 4] wa5 fun e w' => e = .returned (.tuple #[.string ⟨#[]⟩, .int .i64 4, .bool false]) ∧ Nm w B ⟨[97, 98, 99, 100], 3, 0⟩ w') := nm_feed (t := []) (k := 4) (n := 4) (HF4.out.later ka) hla (by decide) (by decide) (by decide) (by decide) (by decide) (by decide) (by rfl) rfl
  clear hwa ka hla HF4
  go_wp2_with fail
  rw [HWA.out]
  clear HWA
  refine HC.out.mono ?_
  rintro e w5 ⟨rfl, h3⟩
  have HF5 : Hid (Nm w B ⟨[97, 98, 99, 100], 3, 0⟩ w5) := h3
  clear HC h3
  have HAh : Hid (Calls Try.prog 12 #[.pointer (some ⟨B, 0, none⟩)] w5 fun e w' => e = .returned (.int .i64 0) ∧ w' = w5) := nm_held HF5.out (n := 0) (by decide)
  have HAb : Hid (Calls Try.prog 11 #[.pointer (some ⟨B, 0, none⟩)] w5 fun e w' => e = .returned (.int .i64 4) ∧ w' = w5) := nm_begun HF5.out (n := 4) (by decide)
  go_wp2_with fail
  refine HAh.out.mono ?_
  rintro e wx ⟨rfl, hwx⟩
  rw [hwx]
  clear HAh hwx
  go_wp2_with fail
  refine HAb.out.mono ?_
  rintro e wx ⟨rfl, hwx⟩
  rw [hwx]
  clear HAb hwx
  obtain ⟨wa6, hwa⟩ : ∃ wa, w5.alloc (.cells #[.int .u8 101, .int .u8 10, .int .u8 102] 5 (3, 4)) = wa := ⟨_, rfl⟩
  have HWA : Hid (w5.alloc (.cells #[.int .u8 101, .int .u8 10, .int .u8 102] 5 (3, 4)) = wa6) := hwa
  have ka : Below w5.heap.size w5 wa6 := by rw [← hwa]; exact (Below.refl _ _).alloc (Nat.le_refl _) _
  have hla : LAt wa6 (.slice (some ⟨w5.heap.size, 0, none⟩) 3 3) (uv [101, 10, 102]) := by rw [← hwa]; exact lat_const w5 [101, 10, 102] (3, 4) (by decide)
  have HC : Hid (Calls Try.prog 16 #[.pointer (some ⟨B, 0, none⟩), .slice (some ⟨w5.heap.size, 0, none⟩) 3 3] wa6 fun e w' => e = .returned (.tuple #[.string ⟨#[]⟩, .int .i64 2, .bool false]) ∧ Nm w B ⟨[], 3, 1⟩ w') := nm_feed (t := []) (k := 2) (n := 2) (HF5.out.later ka) hla (by decide) (by decide) (by decide) (by decide) (by decide) (by decide) (by rfl) rfl
  clear hwa ka hla HF5
  go_wp2_with fail
  rw [HWA.out]
  clear HWA
  refine HC.out.mono ?_
  rintro e w6 ⟨rfl, h3⟩
  have HF6 : Hid (Nm w B ⟨[], 3, 1⟩ w6) := h3
  clear HC h3
  have HAl : Hid (Calls Try.prog 10 #[.pointer (some ⟨B, 0, none⟩)] w6 fun e w' => e = .returned (.int .i64 1) ∧ w' = w6) := nm_long HF6.out (n := 1) (by decide)
  go_wp2_with fail
  refine HAl.out.mono ?_
  rintro e wx ⟨rfl, hwx⟩
  rw [hwx]
  clear HAl hwx
  have HE : Hid (Below w.heap.size w w6) := by obtain ⟨_, _, _, _, h⟩ := HF6.out; exact h
  go_wp2
  go_ret
  exact ⟨rfl, HE.out⟩
end Go.Proofs.Ytjmjhmohholmbaa
