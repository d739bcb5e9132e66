/- The contracts of the document's answer (heronref02): power, width, value, Num, Text. -/
import Derived.Test.YtfncocffnfebbaaTaken
namespace Go.Proofs.Ytfncocffnfebbaa
open Go.RowKit
attribute [local go_sem ↓] Go.wp_at_zero Go.wp_at_succ

theorem rwidth_yes (n : Int) (w : World) (h1 : 1 ≤ n) (h2 : n ≤ 8) : Calls Try.prog 30 #[.int .i64 n] w fun e w' => e = .returned (.bool true) ∧ w' = w := by
  go_enter Try.func30, Try.ntmps30
  go_wp2
  go_ret
  exact ⟨rfl, rfl⟩
theorem rwidth_no (n : Int) (w : World) (h : n < 1 ∨ 8 < n) : Calls Try.prog 30 #[.int .i64 n] w fun e w' => e = .returned (.bool false) ∧ w' = w := by
  by_cases h1 : 1 ≤ n
  · have h2 : 8 < n := by omega
    clear h
    go_enter Try.func30, Try.ntmps30
    go_wp2
    go_ret
    exact ⟨ret_bool (by simpa using h2), rfl⟩
  · have h2 : n < 1 := by omega
    clear h
    go_enter Try.func30, Try.ntmps30
    go_wp2
    go_ret
    exact ⟨rfl, rfl⟩

theorem power_any (k : Nat) (w : World) (hk : k ≤ 7) : Calls Try.prog 31 #[.int .i64 k] w fun e w' => e = .returned (.int .u64 (256 ^ k : Nat)) ∧ w' = w := by
  go_enter Try.func31, Try.ntmps31
  go_wp2
  go_loop [3, 4] (fun v i => ∃ j : Nat, j ≤ k ∧ i = .int .i64 j ∧ v = .int .u64 (256 ^ j : Nat)) (fun _ i => k - (intOf i).toNat)
  case atStart => exact ⟨0, Nat.zero_le _, rfl, rfl⟩
  case round =>
    obtain ⟨j, hj, rfl, rfl⟩ := hrel
    by_cases hlt : j < k
    · have hp : 256 ^ (j + 1) ≤ 256 ^ 7 := Rec.pow_le (by omega)
      have hb : 256 ^ (j + 1) ≤ 72057594037927936 := hp
      rw [Nat.pow_succ] at hb
      have HS : Hid (256 ^ (j + 1) = 256 ^ j * 256) := Nat.pow_succ _ _
      obtain ⟨M, hM⟩ : ∃ M, M = 256 ^ j := ⟨_, rfl⟩
      rw [← hM] at hb HS ⊢
      clear hM hp
      go_wp2
      go_round
      case rel => exact ⟨j + 1, by omega, by go_num, by rw [HS.out]; go_num⟩
      case measure => simp [intOf]; omega
    · obtain rfl : j = k := by omega
      go_wp2
      go_ret
      exact ⟨rfl, rfl⟩

theorem wrap64 {x : Nat} (h : x < 18446744073709551616) : IntKind.u64.wrap (x : Int) = x := by rw [IntKind.wrap_u64]; omega
set_option maxHeartbeats 400000 in
theorem rvalue_core (b off cap n : Nat) (zs : List Int) (w : World) (hn : n = zs.length) (h8 : n ≤ 8) (hc : ∀ k, k < zs.length → w.cell? ⟨b, off + k, none⟩ = some (.int .u8 (zs.getD k 0))) (hb : Rec.Bs zs) :
    Calls Try.prog 32 #[.slice (some ⟨b, off, none⟩) n cap] w fun e w' => e = .returned (.int .u64 (Rec.val zs : Nat)) ∧ Below w.heap.size w w' := by
  have HC : Hid (∀ k, k < zs.length → w.cell? ⟨b, off + k, none⟩ = some (.int .u8 (zs.getD k 0))) := hc
  have HB : Hid (Rec.Bs zs) := hb
  have HN : Hid (n = zs.length) := hn
  clear hc hb hn
  go_enter Try.func32, Try.ntmps32
  go_wp2
  go_loopw [3, 4] (fun v i wr => ∃ k : Nat, k ≤ n ∧ i = .int .i64 k ∧ v = .int .u64 (Rec.val (zs.take k) : Nat) ∧ Hid (Below w.heap.size w wr)) (fun _ i _ => n - (intOf i).toNat)
  case atStart => exact ⟨0, Nat.zero_le _, rfl, rfl, Below.refl _ _⟩
  case round =>
    obtain ⟨k, hk, rfl, rfl, hbl⟩ := hrel
    by_cases hlt : k < n
    · have hz : k < zs.length := by rw [← HN.out]; exact hlt
      have hck : wr.cell? ⟨b, off + k, none⟩ = some (.int .u8 (zs.getD k 0)) := by
        have h := HC.out k hz
        rw [hbl.out.cell (p := ⟨b, off + k, none⟩) (World.block_lt_of_cell? w _ h)]
        exact h
      obtain ⟨hb0, hb1⟩ := Rec.bs_at HB.out hz
      have HV : Hid (Rec.val (zs.take (k + 1)) = Rec.val (zs.take k) + (zs.getD k 0).toNat * 256 ^ k) := Rec.val_take_succ zs k hz
      have hL : Rec.val (zs.take (k + 1)) < 256 ^ (k + 1) := Rec.val_take_lt HB.out (k + 1) hz
      have hp8 : 256 ^ (k + 1) ≤ 18446744073709551616 := by have := Rec.pow_le (show k + 1 ≤ 8 by omega); rw [Rec.pow8] at this; exact this
      rw [HV.out] at hL
      obtain ⟨z, hzd⟩ : ∃ z, z = zs.getD k 0 := ⟨_, rfl⟩
      rw [← hzd] at hck hb0 hb1 HV hL
      obtain ⟨V, hV⟩ : ∃ V, V = Rec.val (zs.take k) := ⟨_, rfl⟩
      rw [← hV] at HV hL ⊢
      obtain ⟨x, rfl⟩ := Int.eq_ofNat_of_zero_le hb0
      have hsum : V + x * 256 ^ k < 18446744073709551616 := by have h := hL; simp only [Int.toNat_natCast] at h; omega
      have HPW := power_any k
      obtain ⟨M, hM⟩ : ∃ M, M = 256 ^ k := ⟨_, rfl⟩
      rw [← hM] at HV hsum HPW
      have hwx := wrap64 (show x < 18446744073709551616 by omega)
      obtain ⟨Y, hY⟩ : ∃ Y, Y = x * M := ⟨_, rfl⟩
      have hYi : (x : Int) * (M : Int) = (Y : Int) := by rw [hY]; simp
      rw [← hY] at hsum
      have hwY := wrap64 (show Y < 18446744073709551616 by omega)
      have HPC : Hid (∀ u, Calls Try.prog 31 #[.int .i64 k] u fun e w' => e = .returned (.int .u64 (M : Nat)) ∧ w' = u) := fun u => HPW u (by omega)
      have HV2 : Hid (Rec.val (zs.take (k + 1)) = V + Y) := by show _ = _; rw [HV.out, hY]; simp
      clear hzd hV hz HPW hM hL hp8 hY HV
      go_wp2
      go_quiet ((go_at_call 31; exact Calls.quiet_of_same (HPC.out _)))
      go_wp2
      go_roundw
      case rel => exact ⟨k + 1, by omega, by go_num, by rw [HV2.out]; go_num, below_drewN hbl.out _⟩
      case measure => simp [intOf]; omega
    · go_wp2
      go_ret
      exact ⟨ret_int (by rw [List.take_of_length_le (by rw [← HN.out]; omega)]), hbl.out⟩
theorem rvalue_any (a : Option Addr) (cap n : Nat) (zs : List Int) (w : World) (hn : n = zs.length) (h8 : n ≤ 8) (hc : BytesAt w a zs) (hb : Rec.Bs zs) :
    Calls Try.prog 32 #[.slice a n cap] w fun e w' => e = .returned (.int .u64 (Rec.val zs : Nat)) ∧ Below w.heap.size w w' := by
  rcases hc with rfl | ⟨b, off, rfl, hc⟩
  · have hn' : n = 0 := hn
    subst hn'
    clear hn hb
    go_enter Try.func32, Try.ntmps32
    go_wp2
    go_loop [3, 4] (fun v i => i = .int .i64 0 ∧ v = .int .u64 0) (fun _ _ => 0)
    case atStart => exact ⟨rfl, rfl⟩
    case round =>
      obtain ⟨rfl, rfl⟩ := hrel
      go_wp2
      go_ret
      exact ⟨ret_int (by simp [Rec.val]), Below.refl _ _⟩
  · exact rvalue_core b off cap n zs w hn h8 hc hb

set_option maxHeartbeats 400000 in
theorem rNum_no (x : Nat) (n : Int) (w : World) (h : n < 1 ∨ 8 < n ∨ ∃ m : Nat, n = m ∧ m < 8 ∧ 256 ^ m ≤ x) :
    Calls Try.prog 16 #[.int .u64 x, .int .i64 n] w fun e w' => e = .returned (.tuple #[.slice none 0 0, .int .i64 21]) ∧ w' = w := by
  by_cases hw : 1 ≤ n ∧ n ≤ 8
  · obtain ⟨m, rfl, h8, hm⟩ : ∃ m : Nat, n = m ∧ m < 8 ∧ 256 ^ m ≤ x := by
      rcases h with h | h | h
      · omega
      · omega
      · exact h
    clear h
    obtain ⟨h1, _⟩ := hw
    have HPW := power_any m
    obtain ⟨M, hM⟩ : ∃ M, M = 256 ^ m := ⟨_, rfl⟩
    rw [← hM] at hm HPW
    have HPC : Hid (∀ u, Calls Try.prog 31 #[.int .i64 m] u fun e w' => e = .returned (.int .u64 (M : Nat)) ∧ w' = u) := fun u => HPW u (by omega)
    clear HPW hM
    go_enter Try.func16, Try.ntmps16
    go_wp2_with fail
    refine (rwidth_yes _ _ (by omega) (by omega)).mono ?_
    rintro e w' ⟨rfl, rfl⟩
    go_wp2_with fail
    refine Calls.mono (HPC.out _) ?_
    rintro e w2 ⟨rfl, rfl⟩
    go_wp2
    go_ret2
    exact ⟨rfl, rfl⟩
  · have hn : n < 1 ∨ 8 < n := by omega
    clear h hw
    have HN : Hid (n < 1 ∨ 8 < n) := hn
    clear hn
    go_enter Try.func16, Try.ntmps16
    go_wp2_with fail
    refine (rwidth_no _ _ HN.out).mono ?_
    rintro e w' ⟨rfl, rfl⟩
    go_wp2
    go_ret2
    exact ⟨rfl, rfl⟩

theorem byte_div (x M : Nat) (hx : x < 18446744073709551616) : (IntKind.u64.wrap ((x : Int) / (M : Int))).tmod 256 % 256 = ((x / M % 256 : Nat) : Int) := by
  have e : (x : Int) / (M : Int) = ((x / M : Nat) : Int) := by simp
  have hle : x / M ≤ x := Nat.div_le_self x M
  rw [e, wrap64 (by omega), Int.tmod_eq_emod]
  split <;> omega
set_option maxHeartbeats 1000000 in
theorem rNum_yes (x n : Nat) (w : World) (hx : x < 18446744073709551616) (h1 : 1 ≤ n) (h8 : n ≤ 8) (hv : x < 256 ^ n) :
    Calls Try.prog 16 #[.int .u64 x, .int .i64 n] w fun e w' => ∃ v, e = .returned (.tuple #[v, .int .i64 0]) ∧ OwnsN w' w.heap.size v (Rec.num x n) ∧ Below w.heap.size w w' := by
  by_cases he : n < 8
  · have HPW := power_any n
    obtain ⟨M, hM⟩ : ∃ M, M = 256 ^ n := ⟨_, rfl⟩
    rw [← hM] at hv HPW
    have HPC : Hid (∀ u, Calls Try.prog 31 #[.int .i64 n] u fun e w' => e = .returned (.int .u64 (M : Nat)) ∧ w' = u) := fun u => HPW u (by omega)
    clear HPW hM
    have hd : decide (M ≤ x) = false := by simp; omega
    have hdi : decide ((M : Int) ≤ (x : Int)) = false := by simp; omega
    go_enter Try.func16, Try.ntmps16
    go_wp2_with fail
    refine (rwidth_yes _ _ (by omega) (by omega)).mono ?_
    rintro e w' ⟨rfl, rfl⟩
    go_wp2_with fail
    refine Calls.mono (HPC.out _) ?_
    rintro e w2 ⟨rfl, rfl⟩
    go_wp2_with fail
    go_loopw [6, 7] (fun b i wr => ∃ k : Nat, k ≤ n ∧ i = .int .i64 k ∧ Hid (OwnsN wr w2.heap.size b (Rec.num x k)) ∧ Hid (Below w2.heap.size w2 wr)) (fun _ i _ => n - (intOf i).toNat)
    case atStart => exact ⟨0, Nat.zero_le _, rfl, ownsN_nil _ _, Below.refl _ _⟩
    case round =>
      obtain ⟨k, hk, rfl, ho, hb⟩ := hrel
      by_cases hlt : k < n
      · obtain ⟨ab, cb, rfl, hbb, hcb, _, _, _⟩ := ho.out.form
        rw [Rec.num_length] at ho hcb ⊢
        have HPW := power_any k
        have hM0 : 0 < 256 ^ k := Nat.pow_pos (by decide)
        have hM7 : 256 ^ k ≤ 256 ^ 7 := Rec.pow_le (by omega)
        have hM8 : 256 ^ k ≤ 72057594037927936 := hM7
        have HSN : Hid (Rec.num x (k + 1) = Rec.num x k ++ [((x / 256 ^ k % 256 : Nat) : Int)]) := Rec.num_snoc x k
        obtain ⟨M, hM⟩ : ∃ M, M = 256 ^ k := ⟨_, rfl⟩
        rw [← hM] at hM0 hM8 HPW HSN
        have HPC : Hid (∀ u, Calls Try.prog 31 #[.int .i64 k] u fun e w' => e = .returned (.int .u64 (M : Nat)) ∧ w' = u) := fun u => HPW u (by omega)
        have HZ : Hid (w2.heap.size ≤ wr.heap.size) := hb.out.size
        clear HPW hM hM7 hbb
        go_wp2_with fail
        refine Calls.mono (HPC.out _) ?_
        rintro e w5 ⟨rfl, rfl⟩
        go_wp2_with (at_builtin; go_must (refine wpList_append_bytesN rfl (.tmp 26) (.tmp 33) rfl w2 _ _ rfl (ho.out.later ((Below.refl _ _).alloc (Nat.le_refl _) _)) (hb.out.alloc HZ.out _) _ 1 1 [(IntKind.u64.wrap ((x : Int) / (M : Int))).tmod 256 % 256] rfl rfl (bytesAt_new w5 [(IntKind.u64.wrap ((x : Int) / (M : Int))).tmod 256 % 256] 5 (0, 0)) (by simp [Rec.num_length]; omega) ?_; intro v6 w6 ho6 hb6; have HO6 : Hid (OwnsN w6 w2.heap.size v6 (Rec.num x k ++ [(IntKind.u64.wrap ((x : Int) / (M : Int))).tmod 256 % 256])) := ho6; have HB6 : Hid (Below w2.heap.size w2 w6) := hb6; clear ho6 hb6))
        go_roundw
        case rel => exact ⟨k + 1, by omega, by go_num, by have h := HO6.out; rw [byte_div _ _ hx] at h; rw [HSN.out]; exact h, HB6⟩
        case measure => simp [intOf]; omega
      · obtain rfl : k = n := by omega
        go_wp2
        exact bodyPost_ret (v := .tuple #[u6, .int .i64 0]) (by simp [results, Try.results16, go_sem]) rfl ⟨u6, rfl, ho.out, hb.out⟩
  · have h88 : n = 8 := by omega
    subst h88
    clear hv he
    go_enter Try.func16, Try.ntmps16
    go_wp2_with fail
    refine (rwidth_yes _ _ (by omega) (by omega)).mono ?_
    rintro e w' ⟨rfl, rfl⟩
    go_wp2_with fail
    go_loopw [6, 7] (fun b i wr => ∃ k : Nat, k ≤ 8 ∧ i = .int .i64 k ∧ Hid (OwnsN wr w'.heap.size b (Rec.num x k)) ∧ Hid (Below w'.heap.size w' wr)) (fun _ i _ => 8 - (intOf i).toNat)
    case atStart => exact ⟨0, Nat.zero_le _, rfl, ownsN_nil _ _, Below.refl _ _⟩
    case round =>
      obtain ⟨k, hk, rfl, ho, hb⟩ := hrel
      by_cases hlt : k < 8
      · obtain ⟨ab, cb, rfl, hbb, hcb, _, _, _⟩ := ho.out.form
        rw [Rec.num_length] at ho hcb ⊢
        have HPW := power_any k
        have hM0 : 0 < 256 ^ k := Nat.pow_pos (by decide)
        have hM7 : 256 ^ k ≤ 256 ^ 7 := Rec.pow_le (by omega)
        have hM8 : 256 ^ k ≤ 72057594037927936 := hM7
        have HSN : Hid (Rec.num x (k + 1) = Rec.num x k ++ [((x / 256 ^ k % 256 : Nat) : Int)]) := Rec.num_snoc x k
        obtain ⟨M, hM⟩ : ∃ M, M = 256 ^ k := ⟨_, rfl⟩
        rw [← hM] at hM0 hM8 HPW HSN
        have HPC : Hid (∀ u, Calls Try.prog 31 #[.int .i64 k] u fun e w' => e = .returned (.int .u64 (M : Nat)) ∧ w' = u) := fun u => HPW u (by omega)
        have HZ : Hid (w'.heap.size ≤ wr.heap.size) := hb.out.size
        clear HPW hM hM7 hbb
        go_wp2_with fail
        refine Calls.mono (HPC.out _) ?_
        rintro e w5 ⟨rfl, rfl⟩
        go_wp2_with (at_builtin; go_must (refine wpList_append_bytesN rfl (.tmp 26) (.tmp 33) rfl w' _ _ rfl (ho.out.later ((Below.refl _ _).alloc (Nat.le_refl _) _)) (hb.out.alloc HZ.out _) _ 1 1 [(IntKind.u64.wrap ((x : Int) / (M : Int))).tmod 256 % 256] rfl rfl (bytesAt_new w5 [(IntKind.u64.wrap ((x : Int) / (M : Int))).tmod 256 % 256] 5 (0, 0)) (by simp [Rec.num_length]; omega) ?_; intro v6 w6 ho6 hb6; have HO6 : Hid (OwnsN w6 w'.heap.size v6 (Rec.num x k ++ [(IntKind.u64.wrap ((x : Int) / (M : Int))).tmod 256 % 256])) := ho6; have HB6 : Hid (Below w'.heap.size w' w6) := hb6; clear ho6 hb6))
        go_roundw
        case rel => exact ⟨k + 1, by omega, by go_num, by have h := HO6.out; rw [byte_div _ _ hx] at h; rw [HSN.out]; exact h, HB6⟩
        case measure => simp [intOf]; omega
      · have hk8 : k = 8 := by omega
        subst hk8
        go_wp2
        exact bodyPost_ret (v := .tuple #[u6, .int .i64 0]) (by simp [results, Try.results16, go_sem]) rfl ⟨u6, rfl, ho.out, hb.out⟩

theorem owns_block {w : World} {B g n c : Nat} {zs : List Int} (h : Owns w B (.slice (some ⟨g, 0, none⟩) n c) zs) : ∃ cur, w.heap[g]? = some (.cells cur 5 (0, 0)) := by
  rcases h.1.2 with ⟨e, _⟩ | ⟨g', c', cur, e, _, hg, _⟩
  · cases e
  · cases e; exact ⟨cur, hg⟩
theorem OwnsN.bytes {w : World} {B : Nat} {v : Value} {zs : List Int} (h : OwnsN w B v zs) : ∃ a c, v = .slice a zs.length c ∧ BytesAt w a zs := by
  obtain ⟨a, c, e, hb, _⟩ := h.form
  exact ⟨a, c, e, hb⟩
set_option maxHeartbeats 400000 in
theorem rText_any (s : ByteArray) (w : World) (hs : s.size ≤ 1048576) :
    Calls Try.prog 18 #[.string s] w fun e w' => ∃ a c, e = .returned (.slice a (4 + s.size) c) ∧ BytesAt w' a (Rec.text s) ∧ Below w.heap.size w w' ∧ ∃ g cur, a = some ⟨g, 0, none⟩ ∧ w'.heap[g]? = some (.cells cur 5 (0, 0)) := by
  have hp : s.size < 256 ^ 4 := by rw [Rec.pow4]; omega
  have HP : Hid (s.size < 256 ^ 4) := hp
  clear hp
  go_enter Try.func18, Try.ntmps18
  go_wp2_with fail
  refine (rNum_yes s.size 4 _ (by omega) (by decide) (by decide) HP.out).mono ?_
  rintro e w1 ⟨v, rfl, ho, hb⟩
  have hne : Rec.num s.size 4 ≠ [] := fun e => by have := congrArg List.length e; rw [Rec.num_length] at this; simp at this
  have ho1 := ho.owns hne
  obtain ⟨g, c, rfl, hg, _⟩ := ho1.form
  have HO1 : Hid (Owns w1 w.heap.size (.slice (some ⟨g, 0, none⟩) (Rec.num s.size 4).length c) (Rec.num s.size 4)) := ho1
  have HB1 : Hid (Below w.heap.size w w1) := hb
  have HG : Hid (w.heap.size ≤ g) := hg
  clear ho ho1 hb hg hne
  go_wp2_with (at_builtin; go_must (refine wpList_append_text rfl _ _ rfl w.heap.size _ _ rfl HO1.out s rfl (by rw [Rec.num_length]; omega) HB1.out.size ?_; intro v3 w3 ho3 hg3; have HO3 : Hid (Owns w3 w.heap.size v3 (Rec.text s)) := ho3; have HB3 : Hid (Below w.heap.size w w3) := HB1.out.grown hg3 HB1.out.size (fun q hq => by cases hq; exact HG.out); clear ho3 hg3))
  obtain ⟨g3, c3, e3, _, _, hb3, _⟩ := HO3.out.form
  subst e3
  have hbk := owns_block HO3.out
  rw [Rec.text_length]
  exact bodyPost_ret (v := .slice (some ⟨g3, 0, none⟩) (4 + s.size) c3) (by simp [results, Try.results18, go_sem]) rfl ⟨_, c3, rfl, hb3, HB3.out, g3, hbk.choose, rfl, hbk.choose_spec⟩
end Go.Proofs.Ytfncocffnfebbaa
