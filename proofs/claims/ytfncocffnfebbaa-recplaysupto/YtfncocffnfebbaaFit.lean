/- rec.lay, rec.Num and rec.Text where there is room: the answers' memory, told exactly: a new block, whole. -/
import Derived.Test.YtfncocffnfebbaaRefTake
import Derived.Room.AppendFits
namespace Go.Proofs.Ytfncocffnfebbaa
open Go.RowKit
attribute [local go_sem ↓] Go.wp_at_zero Go.wp_at_succ

set_option maxHeartbeats 400000 in
theorem lay_fit (w0 : World) (g c : Nat) (xs : List Int) (x n L : Nat) (w : World) (_hx : x < 18446744073709551616) (_hL : L = xs.length) (hn : n ≤ 8) (hc : L + n ≤ c) (hcm : c ≤ 2097152) (hg : w0.heap.size ≤ g) (hown : w.ownsRow w0.heap.size 5 1 (.slice (some ⟨g, 0, none⟩) L c) L (cellsOf xs)) (hbel : Below w0.heap.size w0 w) :
    Calls Try.prog 29 #[.slice (some ⟨g, 0, none⟩) L c, .int .u64 x, .int .i64 n] w fun e w' => e = .returned (.slice (some ⟨g, 0, none⟩) (L + n) c) ∧ w'.ownsRow w0.heap.size 5 1 (.slice (some ⟨g, 0, none⟩) (L + n) c) (L + n) (cellsOf (xs ++ Rec.num x n)) ∧ Below w0.heap.size w0 w' := by
  obtain ⟨i0, hi, hz0, hz1, hz2⟩ := info_parts info5
  have HO : Hid (w.ownsRow w0.heap.size 5 1 (.slice (some ⟨g, 0, none⟩) L c) L (cellsOf xs)) := hown
  have HB : Hid (Below w0.heap.size w0 w) := hbel
  have HG : Hid (w0.heap.size ≤ g) := hg
  clear hown hbel hg _hL _hx
  go_enter Try.func29, Try.ntmps29
  go_wp2
  go_loopw [0, 9] (fun b i u => ∃ k : Nat, k ≤ n ∧ i = .int .i64 k ∧ b = .slice (some ⟨g, 0, none⟩) (L + k) c ∧ Hid (u.ownsRow w0.heap.size 5 1 (.slice (some ⟨g, 0, none⟩) (L + k) c) (L + k) (cellsOf (xs ++ Rec.num x k))) ∧ Hid (Below w0.heap.size w0 u)) (fun _ i _ => n - (intOf i).toNat)
  case atStart => exact ⟨0, Nat.zero_le _, rfl, rfl, by rw [show Rec.num x 0 = [] from rfl, List.append_nil]; exact HO, HB⟩
  case round =>
    obtain ⟨k, hk, rfl, rfl, ho, hb⟩ := hrel
    by_cases hlt : k < n
    · have HZ : Hid (w0.heap.size ≤ wr.heap.size) := hb.out.size
      have HNS : Hid (cellsOf (xs ++ Rec.num x (k + 1)) = cellsOf (xs ++ Rec.num x k) ++ [Value.int .u8 ((x : Int) / 2 ^ (8 * k) % 256)]) := by
        show _ = _
        rw [Rec.num_snoc, ← List.append_assoc, cellsOf_append, byte_eq]
        rfl
      go_wp2_with (at_builtin; go_must (refine wpList_append_fits _ rfl (.tmp 12) (.tmp 18) 26 rfl w0.heap.size 5 i0 1 Try.underlying26 hi hz1 g (L + k) c _ rfl (ho.out.alloc _) ⟨wr.heap.size, 0, none⟩ 1 1 [Value.int .u8 ((x : Int) / 2 ^ (8 * k) % 256)] rfl rfl (World.news_of_block (cs := #[Value.int .u8 ((x : Int) / 2 ^ (8 * k) % 256)]) (t := 5) (fr := (0, 0)) (heap_alloc_new wr _)) (fun u hu => by simp at hu; subst hu; rfl) (by omega) ?_; intro w5 ho5 hg5; have HO5 : Hid (w5.ownsRow w0.heap.size 5 1 (.slice (some ⟨g, 0, none⟩) (L + k + 1) c) (L + k + 1) (cellsOf (xs ++ Rec.num x k) ++ [Value.int .u8 ((x : Int) / 2 ^ (8 * k) % 256)])) := ho5; have HB5 : Hid (Below w0.heap.size w0 w5) := (hb.out.alloc HZ.out _).grown hg5 (by have := HZ.out; simp; omega) (fun q hq => by cases hq; exact HG.out); clear ho5 hg5))
      go_roundw
      case rel => exact ⟨k + 1, by omega, by go_num, rfl, by rw [HNS.out]; exact HO5, HB5⟩
      case measure => simp [intOf]; omega
    · obtain rfl : k = n := by omega
      go_wp2
      go_ret
      exact ⟨rfl, ho.out, hb.out⟩

set_option maxHeartbeats 400000 in
theorem num_fit (x n : Nat) (w : World) (hx : x < 18446744073709551616) (h1 : 1 ≤ n) (h8 : n ≤ 8) (hv : x < 256 ^ n) :
    Calls Try.prog 7 #[.int .u64 x, .int .i64 n] w fun e w' => e = .returned (.tuple #[.slice (some ⟨w.heap.size, 0, none⟩) n n, .int .i64 0]) ∧ w'.ownsRow w.heap.size 5 1 (.slice (some ⟨w.heap.size, 0, none⟩) n n) n (cellsOf (Rec.num x n)) ∧ Below w.heap.size w w' := by
  have hs := shr_zero x n hv
  clear hv
  go_enter Try.func7, Try.ntmps7
  go_wp2_with fail
  refine (isWidth_yes _ _ (by omega) (by omega)).mono ?_
  rintro e w' ⟨rfl, rfl⟩
  go_wp2_with (at_make; refine wpList_make_room rfl _ _ rfl n _ rfl rfl rfl (by omega) ?_; intro w1 ho1 hb1; have HO1 : Hid (Owns w1 w'.heap.size (.slice (some ⟨w'.heap.size, 0, none⟩) 0 n) []) := ho1; have HB1 : Hid (Below w'.heap.size w' w1) := hb1; clear ho1 hb1)
  refine (lay_fit w' w'.heap.size n [] x n 0 _ hx rfl h8 (by omega) (by omega) (Nat.le_refl _) HO1.out.1 HB1.out).mono ?_
  rintro e w2 ⟨rfl, ho2, hb2⟩
  rw [Nat.zero_add, List.nil_append] at ho2
  rw [Nat.zero_add]
  have HO2 : Hid (w2.ownsRow w'.heap.size 5 1 (.slice (some ⟨w'.heap.size, 0, none⟩) n n) n (cellsOf (Rec.num x n))) := ho2
  have HB2 : Hid (Below w'.heap.size w' w2) := hb2
  clear ho2 hb2
  go_wp2
  go_ret2
  exact ⟨rfl, HO2.out, HB2.out⟩

set_option maxHeartbeats 400000 in
theorem text_fit (s : ByteArray) (w : World) (hs : s.size ≤ 1048576) :
    Calls Try.prog 10 #[.string s] w fun e w' => e = .returned (.slice (some ⟨w.heap.size, 0, none⟩) (4 + s.size) (4 + s.size)) ∧ w'.ownsRow w.heap.size 5 1 (.slice (some ⟨w.heap.size, 0, none⟩) (4 + s.size) (4 + s.size)) (4 + s.size) (cellsOf (Rec.text s)) ∧ Below w.heap.size w w' := by
  obtain ⟨i0, hi, hz0, hz1, hz2⟩ := info_parts info5
  go_enter Try.func10, Try.ntmps10
  go_wp2_with (at_make; refine wpList_make_room rfl _ _ rfl (4 + s.size) _ rfl rfl (by simp) (by omega) ?_; intro w1 ho1 hb1; have HO1 : Hid (Owns w1 w.heap.size (.slice (some ⟨w.heap.size, 0, none⟩) 0 (4 + s.size)) []) := ho1; have HB1 : Hid (Below w.heap.size w w1) := hb1; clear ho1 hb1)
  refine (lay_fit w w.heap.size (4 + s.size) [] s.size 4 0 _ (by omega) rfl (by decide) (by omega) (by omega) (Nat.le_refl _) HO1.out.1 HB1.out).mono ?_
  rintro e w2 ⟨rfl, ho2, hb2⟩
  rw [Nat.zero_add, List.nil_append] at ho2
  rw [Nat.zero_add]
  have HO2 : Hid (w2.ownsRow w.heap.size 5 1 (.slice (some ⟨w.heap.size, 0, none⟩) 4 (4 + s.size)) 4 (cellsOf (Rec.num s.size 4))) := ho2
  have HB2 : Hid (Below w.heap.size w w2) := hb2
  clear ho2 hb2
  go_wp2_with (at_builtin; go_must (refine Lib.wpList_append_fits_string _ rfl _ _ 26 9 rfl w.heap.size 5 i0 Try.underlying26 Try.underlying9 hi hz1 (some ⟨w.heap.size, 0, none⟩) 4 (4 + s.size) _ rfl HO2.out s rfl (by omega) (by omega) ?_; intro w3 ho3 hg3; have HO3 : Hid (w3.ownsRow w.heap.size 5 1 (.slice (some ⟨w.heap.size, 0, none⟩) (4 + s.size) (4 + s.size)) (4 + s.size) (cellsOf (Rec.text s))) := (by rw [Rec.text, cellsOf_append, ← strCells_eq]; exact ho3); have HB3 : Hid (Below w.heap.size w w3) := HB2.out.grown hg3 HB2.out.size (fun q hq => by cases hq; exact Nat.le_refl _); clear ho3 hg3))
  go_ret
  exact ⟨rfl, HO3.out, HB3.out⟩
end Go.Proofs.Ytfncocffnfebbaa
