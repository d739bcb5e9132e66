/- The contracts of package rec's functions that lay numbers and texts, and of width and value: by walking their bodies. -/
import Derived.Test.YtfncocffnfebbaaOwn
import Derived.Laws.BitsAllLaws
import Derived.Deep.QuietTactic
import Derived.BigQuiet
namespace Go.Proofs.Ytfncocffnfebbaa
open Go.RowKit

theorem isWidth_yes (n : Int) (w : World) (h1 : 1 ≤ n) (h2 : n ≤ 8) : Calls Try.prog 28 #[.int .i64 n] w fun e w' => e = .returned (.bool true) ∧ w' = w := by
  go_enter Try.func28, Try.ntmps28
  go_wp2
  go_ret
  exact ⟨rfl, rfl⟩
theorem isWidth_no (n : Int) (w : World) (h : n < 1 ∨ 8 < n) : Calls Try.prog 28 #[.int .i64 n] w fun e w' => e = .returned (.bool false) ∧ w' = w := by
  by_cases h1 : 1 ≤ n
  · have h2 : 8 < n := by omega
    clear h
    go_enter Try.func28, Try.ntmps28
    go_wp2
    go_ret
    exact ⟨ret_bool (by simpa using h2), rfl⟩
  · have h2 : n < 1 := by omega
    clear h
    go_enter Try.func28, Try.ntmps28
    go_wp2
    go_ret
    exact ⟨rfl, rfl⟩
theorem width_any (n : Int) (w : World) : Calls Try.prog 9 #[.int .i64 n] w fun e w' => e = .returned (.int .i64 (Rec.wid n : Nat)) ∧ w' = w := by
  have HW : Hid _ := Rec.tmod8 n
  have hb : -8 < n.tmod 8 ∧ n.tmod 8 < 8 := by rw [Int.tmod_eq_emod]; split <;> omega
  obtain ⟨hb1, hb2⟩ := hb
  by_cases hk : n.tmod 8 < 0
  · go_enter Try.func9, Try.ntmps9
    go_wp2
    go_ret
    exact ⟨ret_int (HW.out.1 hk), rfl⟩
  · go_enter Try.func9, Try.ntmps9
    go_wp2
    go_ret
    exact ⟨ret_int (HW.out.2 hk), rfl⟩

theorem byte_eq (x k : Nat) : ((x : Int) / 2 ^ (8 * k) % 256) = ((x / 256 ^ k % 256 : Nat) : Int) := by
  rw [Rec.pow_two]
  simp
set_option maxHeartbeats 400000 in
theorem lay_any (w0 : World) (v : Value) (xs : List Int) (x n : Nat) (w : World) (_hx : x < 18446744073709551616) (hn : n ≤ 8) (hxs : xs.length ≤ 1048576) (hown : Owns w w0.heap.size v xs) (hbel : Below w0.heap.size w0 w) :
    Calls Try.prog 29 #[v, .int .u64 x, .int .i64 n] w fun e w' => ∃ v', e = .returned v' ∧ Owns w' w0.heap.size v' (xs ++ Rec.num x n) ∧ Below w0.heap.size w0 w' := by
  have HO : Hid (Owns w w0.heap.size v xs) := hown
  have HB : Hid (Below w0.heap.size w0 w) := hbel
  clear hown hbel
  go_enter Try.func29, Try.ntmps29
  go_wp2
  go_loopw [0, 9] (fun b i u => ∃ k : Nat, k ≤ n ∧ i = .int .i64 k ∧ Hid (Owns u w0.heap.size b (xs ++ Rec.num x k)) ∧ Hid (Below w0.heap.size w0 u)) (fun _ i _ => n - (intOf i).toNat)
  case atStart => exact ⟨0, Nat.zero_le _, rfl, by have := HO.out; show Owns _ _ _ _; rw [show Rec.num x 0 = [] from rfl, List.append_nil]; exact this, HB⟩
  case round =>
    obtain ⟨k, hk, rfl, ho, hb⟩ := hrel
    by_cases hlt : k < n
    · obtain ⟨g, c, rfl, hg1, _⟩ := ho.out.form
      have HG : Hid (w0.heap.size ≤ g) := hg1
      clear hg1
      have HZ : Hid (w0.heap.size ≤ wr.heap.size) := hb.out.size
      go_wp2_with (at_builtin; go_must (refine wpList_append_bytes rfl (.tmp 12) (.tmp 18) rfl w0.heap.size _ _ rfl (ho.out.later ((Below.refl _ _).alloc (Nat.le_refl _) _)) _ 1 1 [(x : Int) / 2 ^ (8 * k) % 256] rfl rfl (bytesAt_new wr [(x : Int) / 2 ^ (8 * k) % 256] 5 (0, 0)) (by simp [Rec.num_length]; omega) (by have := HZ.out; simp; omega) ?_; intro v5 w5 ho5 hg5; have HO5 : Hid (Owns w5 w0.heap.size v5 (xs ++ Rec.num x k ++ [(x : Int) / 2 ^ (8 * k) % 256])) := ho5; have HB5 : Hid (Below w0.heap.size w0 w5) := (hb.out.alloc HZ.out _).grown hg5 (by have := HZ.out; simp; omega) (fun q hq => by cases hq; exact HG.out); clear ho5 hg5))
      go_roundw
      case rel => exact ⟨k + 1, by omega, by go_num, by have h := HO5.out; rw [byte_eq] at h; show Owns _ _ _ _; rw [Rec.num_snoc, ← List.append_assoc]; exact h, HB5⟩
      case measure => simp [intOf]; omega
    · obtain rfl : k = n := by omega
      go_wp2
      exact bodyPost_ret (v := u0) (by simp [results, Try.results29, go_sem]) rfl ⟨_, rfl, ho.out, hb.out⟩

theorem or_step (V k : Nat) (z : Int) (hk : k < 8) (hV : V < 256 ^ k) (h0 : 0 ≤ z) (h1 : z < 256) : bits .or .u64 (V : Int) (IntKind.u64.wrap (z * 2 ^ (8 * k))) = ((V + z.toNat * 256 ^ k : Nat) : Int) := by
  obtain ⟨x, rfl⟩ := Int.eq_ofNat_of_zero_le h0
  have hx : x < 256 := by omega
  have e : (x : Int) * 2 ^ (8 * k) = ((x * 256 ^ k : Nat) : Int) := by rw [Rec.pow_two]; simp
  have h2 : x * 256 ^ k < 18446744073709551616 := by
    have a1 : (x + 1) * 256 ^ k ≤ 256 * 256 ^ k := Nat.mul_le_mul_right _ (by omega)
    have a2 : 256 * 256 ^ k ≤ 256 ^ 8 := by rw [Nat.mul_comm, ← Nat.pow_succ]; exact Rec.pow_le hk
    rw [Rec.pow8] at a2
    have a3 : 0 < 256 ^ k := Nat.pow_pos (by decide)
    rw [Nat.add_mul] at a1
    omega
  have h3 : V < 18446744073709551616 := by
    have := Rec.pow_le (Nat.le_of_lt hk)
    rw [Rec.pow8] at this
    omega
  have hw : IntKind.u64.wrap ((x * 256 ^ k : Nat) : Int) = ((x * 256 ^ k : Nat) : Int) := by
    rw [IntKind.wrap_u64]
    omega
  rw [e, hw, u64_or_nat _ _ h3 h2, Rec.or_sum hV]
  simp
set_option maxHeartbeats 400000 in
theorem number_core (b off cap n : Nat) (zs : List Int) (w : World) (hn : n = zs.length) (h8 : n ≤ 8) (hc : ∀ k, k < zs.length → w.cell? ⟨b, off + k, none⟩ = some (.int .u8 (zs.getD k 0))) (hb : Rec.Bs zs) :
    Calls Try.prog 33 #[.slice (some ⟨b, off, none⟩) n cap] w fun e w' => e = .returned (.int .u64 (Rec.val zs : Nat)) ∧ w' = w := by
  have HC : Hid (∀ k, k < zs.length → w.cell? ⟨b, off + k, none⟩ = some (.int .u8 (zs.getD k 0))) := hc
  have HB : Hid (Rec.Bs zs) := hb
  have HN : Hid (n = zs.length) := hn
  clear hc hb hn
  go_enter Try.func33, Try.ntmps33
  go_wp2
  go_loop [3, 8] (fun v i => ∃ k : Nat, k ≤ n ∧ i = .int .i64 k ∧ v = .int .u64 (Rec.val (zs.take k) : Nat)) (fun _ i => n - (intOf i).toNat)
  case atStart => exact ⟨0, Nat.zero_le _, rfl, rfl⟩
  case round =>
    obtain ⟨k, hk, rfl, rfl⟩ := hrel
    by_cases hlt : k < n
    · have hz : k < zs.length := by rw [← HN.out]; exact hlt
      have hck := HC.out k hz
      obtain ⟨hb0, hb1⟩ := Rec.bs_at HB.out hz
      have HV : Hid (Rec.val (zs.take (k + 1)) = Rec.val (zs.take k) + (zs.getD k 0).toNat * 256 ^ k) := Rec.val_take_succ zs k hz
      have HL : Hid (Rec.val (zs.take k) < 256 ^ k) := Rec.val_take_lt HB.out k (Nat.le_of_lt hz)
      obtain ⟨z, hzd⟩ : ∃ z, z = zs.getD k 0 := ⟨_, rfl⟩
      rw [← hzd] at hck hb0 hb1 HV
      obtain ⟨V, hV⟩ : ∃ V, V = Rec.val (zs.take k) := ⟨_, rfl⟩
      rw [← hV] at HV HL ⊢
      clear hzd hV hz
      go_wp2
      go_round
      case rel => exact ⟨k + 1, by omega, by go_num, by rw [or_step V k z (by omega) HL.out hb0 hb1, HV.out]⟩
      case measure => simp [intOf]; omega
    · go_wp2
      go_ret
      exact ⟨ret_int (by rw [List.take_of_length_le (by rw [← HN.out]; omega)]), rfl⟩
theorem number_any (a : Option Addr) (cap n : Nat) (zs : List Int) (w : World) (hn : n = zs.length) (h8 : n ≤ 8) (hc : BytesAt w a zs) (hb : Rec.Bs zs) :
    Calls Try.prog 33 #[.slice a n cap] w fun e w' => e = .returned (.int .u64 (Rec.val zs : Nat)) ∧ w' = w := by
  rcases hc with rfl | ⟨b, off, rfl, hc⟩
  · have hn' : n = 0 := hn
    subst hn'
    clear hn hb
    go_enter Try.func33, Try.ntmps33
    go_wp2
    go_loop [3, 8] (fun v i => i = .int .i64 0 ∧ v = .int .u64 0) (fun _ _ => 0)
    case atStart => exact ⟨rfl, rfl⟩
    case round =>
      obtain ⟨rfl, rfl⟩ := hrel
      go_wp2
      go_ret
      exact ⟨ret_int (by simp [Rec.val]), rfl⟩
  · exact number_core b off cap n zs w hn h8 hc hb

theorem shr_zero (x n : Nat) (h : x < 256 ^ n) : (x : Int) / 2 ^ (8 * n) = 0 := by
  have e : (x : Int) / 2 ^ (8 * n) = ((x / 256 ^ n : Nat) : Int) := by rw [Rec.pow_two]; simp
  rw [e, Nat.div_eq_of_lt h]; rfl
theorem shr_pos (x n : Nat) (h : 256 ^ n ≤ x) : (x : Int) / 2 ^ (8 * n) ≠ 0 := by
  have e : (x : Int) / 2 ^ (8 * n) = ((x / 256 ^ n : Nat) : Int) := by rw [Rec.pow_two]; simp
  have := Nat.div_pos h (Nat.pow_pos (by decide))
  rw [e]; omega

set_option maxHeartbeats 400000 in
theorem num_yes (x n : Nat) (w : World) (hx : x < 18446744073709551616) (h1 : 1 ≤ n) (h8 : n ≤ 8) (hv : x < 256 ^ n) :
    Calls Try.prog 7 #[.int .u64 x, .int .i64 n] w fun e w' => ∃ v, e = .returned (.tuple #[v, .int .i64 0]) ∧ Owns w' w.heap.size v (Rec.num x n) ∧ Below w.heap.size w w' := by
  have hs := shr_zero x n hv
  clear hv
  go_enter Try.func7, Try.ntmps7
  go_wp2_with fail
  refine (isWidth_yes _ _ (by omega) (by omega)).mono ?_
  rintro e w' ⟨rfl, rfl⟩
  go_wp2_with (at_make; refine wpList_make_room rfl _ _ rfl n _ rfl rfl rfl (by omega) ?_; intro w1 ho1 hb1; have HO1 : Hid (Owns w1 w'.heap.size (.slice (some ⟨w'.heap.size, 0, none⟩) 0 n) []) := ho1; have HB1 : Hid (Below w'.heap.size w' w1) := hb1; clear ho1 hb1)
  refine (lay_any w' _ [] x n _ hx h8 (by simp) HO1.out HB1.out).mono ?_
  rintro e w2 ⟨v, rfl, ho2, hb2⟩
  have HO2 : Hid (Owns w2 w'.heap.size v (Rec.num x n)) := by show Owns _ _ _ _; simpa using ho2
  have HB2 : Hid (Below w'.heap.size w' w2) := hb2
  clear ho2 hb2
  go_wp2
  exact bodyPost_ret (v := .tuple #[v, .int .i64 0]) (by simp [results, Try.results7, go_sem]) rfl ⟨v, rfl, HO2.out, HB2.out⟩
theorem num_no (x : Nat) (n : Int) (w : World) (h : n < 1 ∨ 8 < n ∨ ∃ m : Nat, n = m ∧ 256 ^ m ≤ x) :
    Calls Try.prog 7 #[.int .u64 x, .int .i64 n] w fun e w' => e = .returned (.tuple #[.slice none 0 0, .int .i64 21]) ∧ w' = w := by
  by_cases hw : 1 ≤ n ∧ n ≤ 8
  · obtain ⟨m, rfl, hm⟩ : ∃ m : Nat, n = m ∧ 256 ^ m ≤ x := by
      rcases h with h | h | h
      · omega
      · omega
      · exact h
    clear h
    obtain ⟨h1, h8⟩ := hw
    have hs := shr_pos x m hm
    clear hm
    go_enter Try.func7, Try.ntmps7
    go_wp2_with fail
    refine (isWidth_yes _ _ (by omega) (by omega)).mono ?_
    rintro e w' ⟨rfl, rfl⟩
    go_wp2
    go_ret2
    exact ⟨rfl, rfl⟩
  · have hn : n < 1 ∨ 8 < n := by omega
    clear h hw
    have HN : Hid (n < 1 ∨ 8 < n) := hn
    clear hn
    go_enter Try.func7, Try.ntmps7
    go_wp2_with fail
    refine (isWidth_no _ _ HN.out).mono ?_
    rintro e w' ⟨rfl, rfl⟩
    go_wp2
    go_ret2
    exact ⟨rfl, rfl⟩

/-- Item: Kind, N, V, S -/
def item (k n : Int) (x : Nat) (s : ByteArray) : Value := .agg #[.int .i64 k, .int .i64 n, .int .u64 x, .string s]
/-- a number brought to the width of n -/
def Rec.brought (n : Int) (x : Nat) : Nat := x % 256 ^ Rec.wid n

theorem wrap_pow (W : Nat) (hW : W < 8) : IntKind.u64.wrap ((2 : Int) ^ (8 * W)) = ((256 ^ W : Nat) : Int) := by
  have e : (2 : Int) ^ (8 * W) = ((256 ^ W : Nat) : Int) := by rw [Rec.pow_two]; simp
  rw [e, IntKind.wrap_u64]
  have : 256 ^ (W + 1) ≤ 256 ^ 8 := Rec.pow_le hW
  rw [Rec.pow8, Nat.pow_succ] at this
  have h3 : 0 < 256 ^ W := Nat.pow_pos (by decide)
  omega
set_option maxHeartbeats 400000 in
theorem value_any (k n : Int) (x : Nat) (s : ByteArray) (w : World) (hx : x < 18446744073709551616) :
    Calls Try.prog 8 #[.agg #[.int .i64 k, .int .i64 n, .int .u64 x, .string s]] w fun e w' => e = .returned (.int .u64 (Rec.brought n x : Nat)) ∧ Below w.heap.size w w' := by
  have h1 := Rec.wid_lo n
  have h8 := Rec.wid_hi n
  by_cases he : Rec.wid n = 8
  · have HE : Hid (x = Rec.brought n x) := by
      show x = _
      unfold Rec.brought; rw [he, Rec.pow8, Nat.mod_eq_of_lt hx]
    go_enter Try.func8, Try.ntmps8
    go_wp2_with fail
    refine (width_any _ _).mono ?_
    rintro e w' ⟨rfl, hw'⟩
    subst hw'
    rw [he]
    go_wp2
    go_ret
    exact ⟨ret_int (by rw [← HE.out]), (Below.refl _ _).alloc (Nat.le_refl _) _⟩
  · obtain ⟨W, hW⟩ : ∃ W, W = Rec.wid n := ⟨_, rfl⟩
    have HE : Hid (Rec.brought n x = x % 256 ^ W) := by rw [hW]; rfl
    have HW : Hid (W = Rec.wid n) := hW
    rw [← hW] at h1 h8 he
    clear hW
    have hlt : W < 8 := by omega
    clear he h8
    go_enter Try.func8, Try.ntmps8
    go_wp2_with fail
    refine (width_any _ _).mono ?_
    rintro e w' ⟨rfl, hw'⟩
    subst hw'
    rw [← HW.out]
    have hwp := wrap_pow W hlt
    have h3 : 0 < 256 ^ W := Nat.pow_pos (by decide)
    obtain ⟨M, hM⟩ : ∃ M, M = 256 ^ W := ⟨_, rfl⟩
    rw [← hM] at hwp h3 HE
    clear hM
    go_wp2
    go_quiet (fail)
    go_wp2
    go_ret
    refine ⟨ret_int ?_, below_drewN ((Below.refl _ _).alloc (Nat.le_refl _) _) _⟩
    rw [HE.out]
    simp
end Go.Proofs.Ytfncocffnfebbaa
