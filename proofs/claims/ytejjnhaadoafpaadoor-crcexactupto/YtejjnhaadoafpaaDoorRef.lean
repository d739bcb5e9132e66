/- The contracts of heronref01's More, Of and All: bit by bit they give the same sums. -/
import Derived.Test.YtejjnhaadoafpaaDoorGrow
import Derived.Deep.DeepMust
namespace Go.Proofs.YtejjnhaadoafpaaDoor
open Go.RowKit

theorem it_succ (n w : Nat) : Crc.it (n + 1) w = Crc.st (Crc.it n w) := by rw [Crc.it_add n 1 w]; rfl
theorem st_odd {w : Nat} (h : w % 2 = 1) : Crc.st w = w / 2 ^^^ 3988292384 := by unfold Crc.st; rw [if_pos h]
theorem st_even {w : Nat} (h : ¬ w % 2 = 1) : Crc.st w = w / 2 := by unfold Crc.st; rw [if_neg h, Nat.xor_zero]

theorem st_odd_i {y : Nat} (hy : y < 4294967296) (h : ((y : Int) % 2 == 1) = true) : bits .xor .u32 ((y : Int) / 2) 3988292384 = ((Crc.st y : Nat) : Int) := by
  have h1 : y % 2 = 1 := by simp at h; omega
  have h2 := u32_xor_nat (y / 2) 3988292384 (by omega) (by decide)
  rw [st_odd h1, ← h2, show ((y : Int) / 2) = ((y / 2 : Nat) : Int) from by omega]
  rfl
theorem st_even_i {y : Nat} (h : ((y : Int) % 2 == 1) = false) : ((y : Int) / 2) = ((Crc.st y : Nat) : Int) := by
  have h1 : ¬ y % 2 = 1 := by simp at h; omega
  rw [st_even h1]; omega
theorem val_int {k : IntKind} {a b : Int} (h : a = b) : Value.int k a = Value.int k b := by rw [h]

set_option maxHeartbeats 1000000 in
theorem refMore_core (s : Nat) (b off cap n : Nat) (zs : List Int) (w : World) (hs : s < 4294967296) (hn : zs.length = n) (hl : n ≤ maxLen)
    (hc : ∀ k, k < zs.length → w.cell? ⟨b, off + k, none⟩ = some (.int .u8 (zs.getD k 0))) (hb : Crc.Bs zs) :
    Calls Tryd.prog 13 #[.int .u32 s, .slice (some ⟨b, off, none⟩) n cap] w fun e w' => e = .returned (.int .u32 (Crc.more s zs : Nat)) ∧ w' = w := by
  unfold maxLen at hl
  have hturn := u32_xor_nat s 4294967295 hs (by decide)
  have hs' : s ^^^ 4294967295 < 4294967296 := Crc.xor_lt hs (by decide)
  obtain ⟨s1, hs1⟩ : ∃ s1, s1 = s ^^^ 4294967295 := ⟨_, rfl⟩
  have HM : Hid (Crc.more s zs = Crc.run s1 zs ^^^ 4294967295) := by rw [hs1]; rfl
  rw [← hs1] at hs' hturn
  have hturn' : bits .xor .u32 (s : Int) 4294967295 = (s1 : Int) := hturn
  clear hs1 hturn
  have HN : Hid (zs.length = n) := hn
  have HC : Hid (∀ k, k < zs.length → w.cell? ⟨b, off + k, none⟩ = some (.int .u8 (zs.getD k 0))) := hc
  have HB : Hid (Crc.Bs zs) := hb
  clear hc hb hn
  go_enter Tryd.func13, Tryd.ntmps13
  go_wp2
  go_loop [5, 6] (fun v i => ∃ k : Nat, k ≤ n ∧ i = .int .i64 k ∧ v = .int .u32 (Crc.run s1 (zs.take k) : Nat)) (fun _ i => n - (intOf i).toNat)
  case atStart => exact ⟨0, Nat.zero_le _, rfl, rfl⟩
  case round =>
    obtain ⟨k, hk, rfl, rfl⟩ := hrel
    have hr := Crc.run_lt hs' (bs_take HB.out k)
    by_cases hlt : k < n
    · have hlt' : k < zs.length := by rw [HN.out]; exact hlt
      have hcell := HC.out k hlt'
      have hbd := bs_at HB.out hlt'
      have hR : Crc.run s1 (zs.take (k + 1)) = Crc.it 8 (Crc.run s1 (zs.take k) ^^^ (zs.getD k 0).toNat) := by rw [take_snoc zs k hlt', Crc.run_snoc, Crc.up_eq]
      obtain ⟨c, hcc⟩ : ∃ c : Nat, zs.getD k 0 = (c : Int) := ⟨(zs.getD k 0).toNat, by omega⟩
      obtain ⟨r, hrr⟩ : ∃ r, r = Crc.run s1 (zs.take k) := ⟨_, rfl⟩
      rw [hcc, ← hrr, Int.toNat_natCast] at hR
      rw [hcc] at hcell hbd
      rw [← hrr] at hr ⊢
      have hx := u32_xor_nat r c hr (by omega)
      have hx' := Crc.xor_lt hr (show c < 4294967296 by omega)
      obtain ⟨x, hxx⟩ : ∃ x, x = r ^^^ c := ⟨_, rfl⟩
      rw [← hxx] at hx hx' hR
      have HR : Hid (Crc.run s1 (zs.take (k + 1)) = Crc.it 8 x) := hR
      clear hrr hcc hlt' hR hxx
      go_wp2
      go_loop [5, 7] (fun v i => ∃ j : Nat, j ≤ 8 ∧ i = .int .i64 j ∧ v = .int .u32 (Crc.it j x : Nat)) (fun _ i => 8 - (intOf i).toNat)
      case atStart => exact ⟨0, by omega, rfl, rfl⟩
      case round =>
        obtain ⟨j, hj, rfl, rfl⟩ := hrel
        have hy := Crc.it_lt j hx'
        have HJ : Hid (Crc.it (j + 1) x = Crc.st (Crc.it j x)) := it_succ j x
        obtain ⟨y, hyy⟩ : ∃ y, y = Crc.it j x := ⟨_, rfl⟩
        rw [← hyy] at hy HJ ⊢
        have HY : Hid (y = Crc.it j x) := hyy
        clear hyy
        by_cases hj8 : j < 8
        · go_wp2
          · go_round
            case rel => exact ⟨j + 1, by omega, by go_num, val_int (by rw [HJ.out]; exact st_odd_i hy ‹_›)⟩
            case measure => simp [intOf]; omega
          · go_round
            case rel => exact ⟨j + 1, by omega, by go_num, val_int (by rw [HJ.out]; exact st_even_i ‹_›)⟩
            case measure => simp [intOf]; omega
        · have hj8' : j = 8 := by omega
          subst hj8'
          go_wp2
          go_round
          case rel => exact ⟨k + 1, by omega, by go_num, by rw [HR.out, ← HY.out]⟩
          case measure => simp [intOf]; omega
    · have ht : zs.take k = zs := List.take_of_length_le (by rw [HN.out]; omega)
      rw [ht] at hr ⊢
      have hturn2 : bits .xor .u32 ((Crc.run s1 zs : Nat) : Int) 4294967295 = ((Crc.run s1 zs ^^^ 4294967295 : Nat) : Int) := u32_xor_nat (Crc.run s1 zs) 4294967295 hr (by decide)
      clear ht
      go_wp2
      go_ret
      exact ⟨ret_int (by rw [HM.out]), rfl⟩

theorem refMore_none (s : Nat) (a : Option Addr) (cap : Nat) (w : World) (hs : s < 4294967296) :
    Calls Tryd.prog 13 #[.int .u32 s, .slice a 0 cap] w fun e w' => e = .returned (.int .u32 s) ∧ w' = w := by
  have hturn : bits .xor .u32 (s : Int) 4294967295 = ((s ^^^ 4294967295 : Nat) : Int) := u32_xor_nat s 4294967295 hs (by decide)
  have hs' : s ^^^ 4294967295 < 4294967296 := Crc.xor_lt hs (by decide)
  have hM : (s ^^^ 4294967295) ^^^ 4294967295 = s := by simp [Nat.xor_assoc]
  obtain ⟨s1, hs1⟩ : ∃ s1, s1 = s ^^^ 4294967295 := ⟨_, rfl⟩
  rw [← hs1] at hs' hturn hM
  have HM : Hid (s1 ^^^ 4294967295 = s) := hM
  clear hs1 hM
  have hturn2 : bits .xor .u32 (s1 : Int) 4294967295 = ((s1 ^^^ 4294967295 : Nat) : Int) := u32_xor_nat s1 4294967295 hs' (by decide)
  go_enter Tryd.func13, Tryd.ntmps13
  go_wp2
  go_loop [5, 6] (fun n i => i = .int .i64 0 ∧ n = .int .u32 s1) (fun _ _ => 0)
  case atStart => exact ⟨rfl, rfl⟩
  case round =>
    obtain ⟨rfl, rfl⟩ := hrel
    go_wp2
    go_ret
    exact ⟨ret_int (by rw [HM.out]), rfl⟩

theorem refMore_n (s : Nat) (a : Option Addr) (cap n : Nat) (zs : List Int) (w : World) (hs : s < 4294967296) (hn : n = zs.length) (hok : Piece.Ok w ⟨a, cap, zs⟩) :
    Calls Tryd.prog 13 #[.int .u32 s, .slice a n cap] w fun e w' => e = .returned (.int .u32 (Crc.more s zs : Nat)) ∧ w' = w := by
  obtain ⟨hl, hc, hb⟩ := hok
  simp only at hl hc hb
  rcases hc with rfl | ⟨b, off, rfl, hc⟩
  · subst hn
    rw [Crc.more_nil]
    exact refMore_none s a cap w hs
  · exact refMore_core s b off cap n zs w hs hn.symm (by rw [hn]; exact hl) hc hb

theorem refOf_n (a : Option Addr) (cap n : Nat) (zs : List Int) (w : World) (hn : n = zs.length) (hok : Piece.Ok w ⟨a, cap, zs⟩) :
    Calls Tryd.prog 12 #[.slice a n cap] w fun e w' => e = .returned (.int .u32 (Crc.more 0 zs : Nat)) ∧ w' = w := by
  have H : Calls Tryd.prog 13 #[.int .u32 0, .slice a n cap] w fun e w' => e = .returned (.int .u32 (Crc.more 0 zs : Nat)) ∧ w' = w := refMore_n 0 a cap n zs w (by decide) hn hok
  have HH : Hid _ := H
  clear H hn hok
  go_enter Tryd.func12, Tryd.ntmps12
  go_wp2_with fail
  refine Calls.mono HH.out ?_
  rintro e w' ⟨rfl, rfl⟩
  go_wp2
  go_ret
  exact ⟨rfl, rfl⟩
end Go.Proofs.YtejjnhaadoafpaaDoor
