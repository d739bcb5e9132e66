/- number, one, walked. -/
import Derived.Test.YtlcnmfgmgiijpaaG33
import Derived.Test.YtlcnmfgmgiijpaaG26
import Derived.Laws.BytesArg
namespace Go.Proofs.Ytlcnmfgmgiijpaa
open Go.RowKit
attribute [local go_sem ↓] Go.wp_at_zero Go.wp_at_succ

def one8 (n : Nat) : ByteArray := ⟨#[UInt8.ofNat n]⟩
def dec (n : Nat) : ByteArray := if n < 10 then one8 (48 + n) else if n < 100 then one8 (48 + n / 10) ++ one8 (48 + n % 10) else one8 (48 + n / 100) ++ one8 (48 + n / 10 % 10) ++ one8 (48 + n % 10)
def decTo (n : Nat) (acc : ByteArray) : ByteArray := if n < 10 then one8 (48 + n) ++ acc else if n < 100 then one8 (48 + n / 10) ++ (one8 (48 + n % 10) ++ acc) else one8 (48 + n / 100) ++ (one8 (48 + n / 10 % 10) ++ (one8 (48 + n % 10) ++ acc))
theorem conv_one (w : World) (k : Nat) : (convert 53 9 (.slice (some ⟨w.heap.size, 0, none⟩) 1 1)).run Try.prog (w.alloc (.cells #[.int .u8 (48 + (k : Int) % 10)] 5)) = .ok (.string (one8 (48 + k % 10))) (w.alloc (.cells #[.int .u8 (48 + (k : Int) % 10)] 5)) := by
  have h := run_convert_bytes_arg (P := Try.prog) (w.alloc (.cells #[.int .u8 (48 + (k : Int) % 10)] 5)) 53 5 Try.underlying53 Try.underlying5 w.heap.size 0 1 1 [48 + (k : Int) % 10] rfl (fun i hi => by
    have e : i = 0 := by omega
    subst e
    unfold World.cell?
    rw [heap_alloc_new w _]
    rfl) 9 Try.underlying9
  have e : strOfNums [48 + (k : Int) % 10] = one8 (48 + k % 10) := by
    unfold strOfNums one8
    simp only [List.map_cons, List.map_nil]
    rw [show (48 + (k : Int) % 10).toNat = 48 + k % 10 by omega]
  rw [h, e]
theorem decTo_step {k : Nat} (a : ByteArray) (h : ¬ k < 10) (h3 : k ≤ 255) : decTo (k / 10) (one8 (48 + k % 10) ++ a) = decTo k a := by
  unfold decTo
  by_cases h1 : k < 100
  · rw [if_pos (by omega), if_neg h, if_pos h1]
  · rw [if_neg (by omega), if_neg h, if_neg h1]
    rw [if_pos (by omega), show k / 10 / 10 = k / 100 by omega]
set_option maxRecDepth 4000 in
set_option maxHeartbeats 4000000 in
theorem number_any (n : Nat) (w : World) (hn : n ≤ 255) : Calls Try.prog 17 #[.int .i64 (n : Nat)] w fun e w' => e = .returned (.string (decTo n ⟨#[]⟩)) ∧ Below w.heap.size w w' := by
  obtain ⟨D, hD⟩ : ∃ D, D = decTo n ⟨#[]⟩ := ⟨_, rfl⟩
  rw [← hD]
  have HD : Hid (decTo n ⟨#[]⟩ = D) := hD.symm
  clear hD
  go_enter Try.func17, Try.ntmps17
  go_wp2_with fail
  go_loopw [0, 3] (fun v s u => ∃ (k : Nat) (a : ByteArray), v = .int .i64 (k : Nat) ∧ s = .string a ∧ a.size + k ≤ 255 ∧ Hid (decTo k a = D) ∧ Hid (Below w.heap.size w u)) (fun v _ _ => (intOf v).toNat)
  case atStart => exact ⟨n, ⟨#[]⟩, rfl, rfl, (by have : (⟨#[]⟩ : ByteArray).size = 0 := rfl; omega), HD, Below.refl _ _⟩
  case round =>
    clear HD
    obtain ⟨k, a, rfl, rfl, hk, HK, HB⟩ := hrel
    have HCV := conv_one wr k
    have k1 : Below wr.heap.size wr (wr.alloc (.cells #[.int .u8 (48 + (k : Int) % 10)] 5)) := (Below.refl _ _).alloc (Nat.le_refl _) _
    have HB2 : Hid (Below w.heap.size w (wr.alloc (.cells #[.int .u8 (48 + (k : Int) % 10)] 5))) := below_step HB.out k1
    clear k1
    have hsz : ¬ 9223372036854775807 < (one8 (48 + k % 10)).size + a.size := by have : (one8 (48 + k % 10)).size = 1 := rfl; omega
    by_cases h10 : k < 10
    · have HX : Hid (one8 (48 + k % 10) ++ a = D) := (by rw [← HK.out, Nat.mod_eq_of_lt h10]; unfold decTo; rw [if_pos h10] : one8 (48 + k % 10) ++ a = D)
      have g0 : ((k : Int) / 10 == 0) = true := by simp; omega
      go_wp2
      go_ret
      exact ⟨by rw [HX.out]; rfl, HB2.out⟩
    · have HX : Hid (decTo (k / 10) (one8 (48 + k % 10) ++ a) = D) := (by rw [decTo_step a h10 (by omega)]; exact HK.out : decTo (k / 10) (one8 (48 + k % 10) ++ a) = D)
      have g0 : ((k : Int) / 10 == 0) = false := by simp; omega
      go_wp2
      go_roundw
      case rel => exact ⟨k / 10, one8 (48 + k % 10) ++ a, by go_num, rfl, by rw [ByteArray.size_append, show (one8 (48 + k % 10)).size = 1 from rfl]; omega, HX, HB2⟩
      case measure => simp [intOf]; omega
/-- one: the tree that is wanted, or too big just if that is -/
theorem one_any {X Y : Nat → Prop} {w0 : World} {t : Tr} {x y : Nd} {N : Nat} (hy : NodeAt Y w0 t y) (hg : Good N t) (hN : N ≤ 1000000) (h1 : 1 ≤ N) (e : Int) (hx : (placesOf (up t) ≤ 2048 ∧ e = 0 ∧ NodeAt X w0 t x) ∨ (2048 < placesOf (up t) ∧ e = 48)) (w : World) (hw : Below w0.heap.size w0 w) : Calls Try.prog 18 #[x.val, .int .i64 e, y.val] w fun r w' => r = .returned (.bool true) ∧ Below w.heap.size w w' := by
  obtain ⟨w1, hw1⟩ : ∃ w1, w1 = w.alloc (.cells #[.int .i64 x.k, .int .u64 (Oct.word x.s 0 : Nat), .int .u64 (Oct.word x.s 1 : Nat), .int .u64 (Oct.word x.s 2 : Nat), .int .u64 (Oct.word x.s 3 : Nat), .slice x.a x.n x.c, .int .i64 x.mn, .int .i64 x.mx] 28) := ⟨_, rfl⟩
  obtain ⟨w2, hw2⟩ : ∃ w2, w2 = w1.alloc (.cells #[.int .i64 y.k, .int .u64 (Oct.word y.s 0 : Nat), .int .u64 (Oct.word y.s 1 : Nat), .int .u64 (Oct.word y.s 2 : Nat), .int .u64 (Oct.word y.s 3 : Nat), .slice y.a y.n y.c, .int .i64 y.mn, .int .i64 y.mx] 28) := ⟨_, rfl⟩
  have z1 : w1.heap.size = w.heap.size + 1 := by rw [hw1]; simp
  have k1 : Below w.heap.size w w1 := by rw [hw1]; exact (Below.refl _ _).alloc (Nat.le_refl _) _
  have k2 : Below w1.heap.size w1 w2 := by rw [hw2]; exact (Below.refl _ _).alloc (Nat.le_refl _) _
  have HNX : Hid (NB w2 w.heap.size x) := by have hb : NB w1 w.heap.size x := (by rw [hw1]; exact nb_new w x); exact hb.later k2
  have HNY : Hid (NB w2 (w.heap.size + 1) y) := by have hb : NB w2 w1.heap.size y := (by rw [hw2]; exact nb_new w1 y); rw [z1] at hb; exact hb
  have HB : Hid (Below w.heap.size w w2) := below_step k1 k2
  have HB0 : Hid (Below w0.heap.size w0 w2) := below_step hw HB.out
  have HW2 : Hid (w1.alloc (.cells #[.int .i64 y.k, .int .u64 (Oct.word y.s 0 : Nat), .int .u64 (Oct.word y.s 1 : Nat), .int .u64 (Oct.word y.s 2 : Nat), .int .u64 (Oct.word y.s 3 : Nat), .slice y.a y.n y.c, .int .i64 y.mn, .int .i64 y.mx] 28) = w2) := hw2.symm
  have HW1 : Hid (w.alloc (.cells #[.int .i64 x.k, .int .u64 (Oct.word x.s 0 : Nat), .int .u64 (Oct.word x.s 1 : Nat), .int .u64 (Oct.word x.s 2 : Nat), .int .u64 (Oct.word x.s 3 : Nat), .slice x.a x.n x.c, .int .i64 x.mn, .int .i64 x.mx] 28) = w1) := hw1.symm
  have HPLA : Hid (∀ u, Below w0.heap.size w0 u → Calls Try.prog 14 #[y.val] u fun e w' => e = .returned (.int .i64 (placesOf (up t) : Nat)) ∧ Below u.heap.size u w') := fun u hu => Places_any u ((hy.later hu).inAt hN h1 hg)
  have HSAME : Hid (NodeAt X w0 t x → ∀ u, Below w0.heap.size w0 u → Calls Try.prog 12 #[x.val, y.val] u fun e w' => e = .returned (.bool true) ∧ Below u.heap.size u w') := fun hx u hu => (same_any (hx.inAt hN h1 hg) _ _ (hy.inAt hN h1 hg) u hu).mono (fun _ _ h => ⟨by rw [h.1, sameT_refl], h.2⟩)
  have HX : Hid ((placesOf (up t) ≤ 2048 ∧ e = 0 ∧ NodeAt X w0 t x) ∨ (2048 < placesOf (up t) ∧ e = 48)) := hx
  have hpl := placesOf_le (up t)
  obtain ⟨P, hP⟩ : ∃ P, P = placesOf (up t) := ⟨_, rfl⟩
  rw [← hP] at HPLA HX hpl
  obtain ⟨A, hA⟩ : ∃ A, w.heap.size = A := ⟨_, rfl⟩
  obtain ⟨B, hBB⟩ : ∃ B, A + 1 = B := ⟨_, rfl⟩
  rw [hA] at HNX HNY
  rw [hBB] at HNY
  have HAA : Hid (w.heap.size = A) := hA
  have HAB : Hid (A + 1 = B) := hBB
  clear hw1 hw2 z1 k1 k2 hx hP hA hBB hw hy hg
  unfold Nd.val
  unfold Nd.val at HPLA HSAME
  go_enter Try.func18, Try.ntmps18
  go_upto_region 1 with fail
  rw [HW1.out, HW2.out, HAA.out, HAB.out]
  clear HW1 HW2 HAA HAB
  obtain ⟨c0, c1, c2, c3, c4, c5, c6, c7⟩ := HNY.out.cells
  go_wp2_with fail
  refine (HPLA.out _ HB0.out).mono ?_
  rintro r w3 ⟨rfl, k3⟩
  have HB3 : Hid (Below w.heap.size w w3) := below_step HB.out k3
  have HB03 : Hid (Below w0.heap.size w0 w3) := below_step HB0.out k3
  have HNX3 : Hid (NB w3 A x) := HNX.out.later k3
  have HNY3 : Hid (NB w3 B y) := HNY.out.later k3
  clear k3 c0 c1 c2 c3 c4 c5 c6 c7 HNX HNY HPLA
  rcases HX.out with ⟨hple, he, hxx⟩ | ⟨hpgt, he⟩
  · have m1 : ¬ (2048 : Int) < (P : Int) := by omega
    subst he
    have HS := HSAME.out hxx
    have HSS : Hid (∀ u, Below w0.heap.size w0 u → _) := HS
    clear HX HS HSAME hxx
    go_wp2_with fail
    refine (num_any 0 _).mono ?_
    rintro r w' ⟨rfl, hw'⟩
    have hw' := hw'.symm
    subst hw'
    obtain ⟨c0, c1, c2, c3, c4, c5, c6, c7⟩ := HNY3.out.cells
    obtain ⟨b0, b1, b2, b3, b4, b5, b6, b7⟩ := HNX3.out.cells
    go_wp2_with fail
    refine (HSS.out _ HB03.out).mono ?_
    rintro r w4 ⟨rfl, k4⟩
    have HB4 : Hid (Below w.heap.size w w4) := below_step HB3.out k4
    clear k4 c0 c1 c2 c3 c4 c5 c6 c7 b0 b1 b2 b3 b4 b5 b6 b7
    go_wp2
    go_ret
    exact ⟨rfl, HB4.out⟩
  · have m1 : (2048 : Int) < (P : Int) := by omega
    subst he
    clear HX HSAME
    go_wp2_with fail
    refine (num_any 48 _).mono ?_
    rintro r w' ⟨rfl, hw'⟩
    have hw' := hw'.symm
    subst hw'
    go_wp2
    go_ret
    exact ⟨rfl, HB3.out⟩
end Go.Proofs.Ytlcnmfgmgiijpaa
