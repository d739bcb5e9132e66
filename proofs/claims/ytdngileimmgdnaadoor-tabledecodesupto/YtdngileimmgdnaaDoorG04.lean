/- crc.Of (out of stage 1). -/
import Derived.Test.YtdngileimmgdnaaDoorG00
import Derived.Test.YtdngileimmgdnaaDoorG03
namespace Go.Proofs.YtdngileimmgdnaaDoor
open Go.RowKit

/-- the table lies in block 0 -/
def Tab (w : World) : Prop := ∀ i : Nat, i < 16 → w.cell? ⟨0, i, none⟩ = some (.int .u32 (Crc.tabL.getD i 0 : Nat))
theorem tabL_lt : ∀ i, i < 16 → Crc.tabL.getD i 0 < 4294967296 := by decide
set_option maxHeartbeats 400000 in
theorem four_core (x t : Nat) (w : World) (_hx : x < 4294967296) (hi0 : 0 ≤ bits .and .u32 (x : Int) 15) (hi1 : bits .and .u32 (x : Int) 15 < 16) (hT : w.cell? ⟨0, (bits .and .u32 (x : Int) 15).toNat, none⟩ = some (.int .u32 (t : Int))) :
    Calls Tryd.prog 54 #[.int .u32 x] w fun e w' => e = .returned (.int .u32 (bits .xor .u32 ((x : Int) / 16) (t : Int))) ∧ w' = w := by
  go_enter Tryd.func54, Tryd.ntmps54
  go_wp2
  go_ret
  exact ⟨rfl, rfl⟩
theorem four_any (x : Nat) (w : World) (hx : x < 4294967296) (hT : Tab w) :
    Calls Tryd.prog 54 #[.int .u32 x] w fun e w' => e = .returned (.int .u32 (Crc.four x : Nat)) ∧ w' = w := by
  have e : bits .and .u32 (x : Int) 15 = ((x % 16 : Nat) : Int) := by
    have := u32_and_nat x 15 hx (by decide)
    rw [nat_mask4] at this
    exact this
  have h := hT (x % 16) (Nat.mod_lt _ (by decide))
  have hl := tabL_lt (x % 16) (Nat.mod_lt _ (by decide))
  refine (four_core x (Crc.tabL.getD (x % 16) 0) w hx (by rw [e]; omega) (by rw [e]; omega) (by rw [e]; exact h)).mono ?_
  rintro e w' ⟨rfl, rfl⟩
  refine ⟨?_, rfl⟩
  have h2 := u32_xor_nat (x / 16) (Crc.tabL.getD (x % 16) 0) (by omega) hl
  rw [show ((x : Int) / 16) = ((x / 16 : Nat) : Int) from by omega, h2]
  rfl
theorem max_u32 : IntKind.u32.max = 4294967295 := by decide
theorem turn_u32 {s : Nat} (hs : s < 4294967296) : bits .xor .u32 IntKind.u32.max (s : Int) = ((s ^^^ 4294967295 : Nat) : Int) := by
  have := u32_xor_nat 4294967295 s (by decide) hs
  rw [Nat.xor_comm] at this
  rw [max_u32]
  exact this
theorem take_snoc (zs : List Int) (k : Nat) (h : k < zs.length) : zs.take (k + 1) = zs.take k ++ [zs.getD k 0] := by
  rw [List.take_succ_eq_append_getElem h]; simp [List.getD, h]
theorem bs_take {zs : List Int} (h : Crc.Bs zs) (k : Nat) : Crc.Bs (zs.take k) := fun z hz => h z (List.mem_of_mem_take hz)
theorem bs_at {zs : List Int} (h : Crc.Bs zs) {k : Nat} (hk : k < zs.length) : 0 ≤ zs.getD k 0 ∧ zs.getD k 0 < 256 := by
  have e : zs.getD k 0 = zs[k] := by simp [List.getD, hk]
  rw [e]; exact h _ (List.getElem_mem hk)
set_option maxHeartbeats 400000 in
theorem more_core (s : Nat) (b off cap : Nat) (zs : List Int) (w : World) (hs : s < 4294967296) (hT : Tab w) (hn : zs.length ≤ maxLen)
    (hc : ∀ k, k < zs.length → w.cell? ⟨b, off + k, none⟩ = some (.int .u8 (zs.getD k 0))) (hb : Crc.Bs zs) :
    Calls Tryd.prog 48 #[.int .u32 s, .slice (some ⟨b, off, none⟩) zs.length cap] w fun e w' => e = .returned (.int .u32 (Crc.more s zs : Nat)) ∧ w' = w := by
  unfold maxLen at hn
  have hturn := turn_u32 hs
  have hs' : s ^^^ 4294967295 < 4294967296 := Crc.xor_lt hs (by decide)
  obtain ⟨s1, hs1⟩ : ∃ s1, s1 = s ^^^ 4294967295 := ⟨_, rfl⟩
  have HM : Hid (Crc.more s zs = Crc.run s1 zs ^^^ 4294967295) := by rw [hs1]; rfl
  rw [← hs1] at hs' hturn
  clear hs1
  have HT : Hid (Tab w) := hT
  have HC : Hid (∀ k, k < zs.length → w.cell? ⟨b, off + k, none⟩ = some (.int .u8 (zs.getD k 0))) := hc
  have HB : Hid (Crc.Bs zs) := hb
  clear hT hc hb
  go_enter Tryd.func48, Tryd.ntmps48
  go_wp2
  go_loop [5, 12] (fun n i => ∃ k : Nat, k ≤ zs.length ∧ i = .int .i64 k ∧ n = .int .u32 (Crc.run s1 (zs.take k) : Nat)) (fun _ i => zs.length - (intOf i).toNat)
  case atStart => exact ⟨0, Nat.zero_le _, rfl, rfl⟩
  case round =>
    obtain ⟨k, hk, rfl, rfl⟩ := hrel
    have hr := Crc.run_lt hs' (bs_take HB.out k)
    by_cases hlt : k < zs.length
    · have hcell := HC.out k hlt
      have hbd := bs_at HB.out hlt
      have hR : Crc.run s1 (zs.take (k + 1)) = Crc.up (Crc.run s1 (zs.take k)) (zs.getD k 0).toNat := by rw [take_snoc zs k hlt, Crc.run_snoc]
      have HR : Hid (Crc.run s1 (zs.take (k + 1)) = Crc.up (Crc.run s1 (zs.take k)) (zs.getD k 0).toNat) := hR
      clear hR
      obtain ⟨c, hcc⟩ : ∃ c : Nat, zs.getD k 0 = (c : Int) := ⟨(zs.getD k 0).toNat, by omega⟩
      obtain ⟨r, hrr⟩ : ∃ r, r = Crc.run s1 (zs.take k) := ⟨_, rfl⟩
      rw [hcc] at hcell hbd HR
      rw [← hrr] at hr HR
      have hx := u32_xor_nat r c hr (by omega)
      have hx' := Crc.xor_lt hr (show c < 4294967296 by omega)
      rw [← hrr]
      clear hrr hcc
      go_wp2_with fail
      refine (four_any _ _ hx' HT.out).mono ?_
      rintro e w' ⟨rfl, rfl⟩
      go_wp2_with fail
      refine (four_any _ _ (Crc.four_lt hx') HT.out).mono ?_
      rintro e w' ⟨rfl, rfl⟩
      go_wp2
      go_round
      case rel => exact ⟨k + 1, by omega, by go_num, by rw [HR.out]; rfl⟩
      case measure => simp [intOf]; omega
    · have hke : k = zs.length := by omega
      have ht : zs.take k = zs := by rw [hke]; exact List.take_length
      rw [ht] at hr
      have hturn2 := turn_u32 hr
      rw [ht]
      clear ht
      go_wp2
      go_ret
      exact ⟨ret_int (by rw [HM.out]), rfl⟩
set_option maxHeartbeats 400000 in
theorem more_none (s : Nat) (a : Option Addr) (cap : Nat) (w : World) (hs : s < 4294967296) :
    Calls Tryd.prog 48 #[.int .u32 s, .slice a 0 cap] w fun e w' => e = .returned (.int .u32 s) ∧ w' = w := by
  have hturn := turn_u32 hs
  have hs' : s ^^^ 4294967295 < 4294967296 := Crc.xor_lt hs (by decide)
  have hM : (s ^^^ 4294967295) ^^^ 4294967295 = s := by simp [Nat.xor_assoc]
  obtain ⟨s1, hs1⟩ : ∃ s1, s1 = s ^^^ 4294967295 := ⟨_, rfl⟩
  rw [← hs1] at hs' hturn hM
  have HM : Hid (s1 ^^^ 4294967295 = s) := hM
  clear hs1 hM
  have hturn2 := turn_u32 hs'
  go_enter Tryd.func48, Tryd.ntmps48
  go_wp2
  go_loop [5, 12] (fun n i => i = .int .i64 0 ∧ n = .int .u32 s1) (fun _ _ => 0)
  case atStart => exact ⟨rfl, rfl⟩
  case round =>
    obtain ⟨rfl, rfl⟩ := hrel
    go_wp2
    go_ret
    exact ⟨ret_int (by rw [HM.out]), rfl⟩
theorem more_any (s : Nat) (a : Option Addr) (cap : Nat) (zs : List Int) (w : World) (hs : s < 4294967296) (hT : Tab w) (hn : zs.length ≤ maxLen)
    (hc : BytesAt w a zs) (hb : Crc.Bs zs) :
    Calls Tryd.prog 48 #[.int .u32 s, .slice a zs.length cap] w fun e w' => e = .returned (.int .u32 (Crc.more s zs : Nat)) ∧ w' = w := by
  rcases hc with rfl | ⟨b, off, rfl, hc⟩
  · refine (more_none s a cap w hs).mono ?_
    rintro e w' ⟨rfl, rfl⟩
    exact ⟨by rw [Crc.more_nil], rfl⟩
  · exact more_core s b off cap zs w hs hT hn hc hb
theorem of_any (a : Option Addr) (cap : Nat) (zs : List Int) (w : World) (hT : Tab w) (hn : zs.length ≤ maxLen)
    (hc : BytesAt w a zs) (hb : Crc.Bs zs) :
    Calls Tryd.prog 35 #[.slice a zs.length cap] w fun e w' => e = .returned (.int .u32 (Crc.more 0 zs : Nat)) ∧ w' = w := by
  have H : Calls Tryd.prog 48 #[.int .u32 0, .slice a zs.length cap] w fun e w' => e = .returned (.int .u32 (Crc.more 0 zs : Nat)) ∧ w' = w := more_any 0 a cap zs w (by decide) hT hn hc hb
  have HH : Hid _ := H
  clear H hT hn hc hb
  go_enter Tryd.func35, Tryd.ntmps35
  go_wp2_with fail
  refine Calls.mono HH.out ?_
  rintro e w' ⟨rfl, rfl⟩
  go_wp2
  go_ret
  exact ⟨rfl, rfl⟩
theorem tab_below {B : Nat} {w w' : World} (h : Below B w w') (hB : 0 < B) (hT : Tab w) : Tab w' := fun i hi => by
  rw [h.cell (p := ⟨0, i, none⟩) hB]; exact hT i hi
theorem tab_alloc {w : World} (o : Obj) (h0 : 0 < w.heap.size) (hT : Tab w) : Tab (w.alloc o) :=
  tab_below ((Below.refl w.heap.size w).alloc (Nat.le_refl _) o) h0 hT
/-- a byte of a row of the call's own -/
theorem Owns.at {w : World} {B g n c : Nat} {ys : List Int} (h : Owns w B (.slice (some ⟨g, 0, none⟩) n c) ys) (hb : Crc.Bs ys) {j : Nat} (hj : j < ys.length) :
    ∃ y : Nat, y < 256 ∧ ys.getD j 0 = (y : Int) ∧ w.cell? ⟨g, j, none⟩ = some (.int .u8 (y : Int)) ∧ w.frozen? ⟨g, j, none⟩ = false := by
  obtain ⟨g', c', e, _, _, hbt, _⟩ := h.form
  cases e
  have hbd := bs_at hb hj
  refine ⟨(ys.getD j 0).toNat, by omega, by omega, ?_, h.1.frozenAt j⟩
  rcases hbt with rfl | ⟨b, off, e, hc⟩
  · simp at hj
  · cases e
    have := hc j hj
    rw [Nat.zero_add] at this
    rw [this]
    congr 2
    omega
/-- a byte stored into it -/
theorem Owns.put {w : World} {B g n c : Nat} {ys : List Int} (h : Owns w B (.slice (some ⟨g, 0, none⟩) n c) ys) (j : Nat) (x : Int) :
    Owns (w.setCell ⟨g, j, none⟩ (.int .u8 x)).drew B (.slice (some ⟨g, 0, none⟩) n c) (ys.set j x) := by
  obtain ⟨g', c', e, hB, _, _, _⟩ := h.form
  cases e
  refine ⟨?_, by simp⟩
  have h1 := h.1.stored j (.int .u8 x)
  have e2 : cellsOf (ys.set j x) = (cellsOf ys).set j (.int .u8 x) := by simp [cellsOf, List.map_set]
  rw [e2, List.length_set]
  exact h1.1
theorem xor_u8 {y j : Nat} (hy : y < 256) (hj : j < 8) : bits .xor .u8 (y : Int) (2 ^ j % 256) = ((y ^^^ 2 ^ j : Nat) : Int) := by
  have h1 : 2 ^ j < 256 := Nat.pow_lt_pow_right (by decide) (show j < 8 from hj)
  have h2 : ((2 : Int) ^ j % 256) = ((2 ^ j : Nat) : Int) := by
    have h3 : ((2 : Int) ^ j) = ((2 ^ j : Nat) : Int) := by simp
    rw [h3]
    exact Int.emod_eq_of_lt (Int.natCast_nonneg _) (Int.ofNat_lt.2 h1)
  rw [h2, u8_xor_nat y (2 ^ j) hy h1]
/-- WHAT ONE TURNED BIT DOES. -/
theorem flip_rel (zb ys : List Int) (n a k M y : Nat) (hl : ys.length = n) (hin : a + k < 8 * n) (hM : M < 2 ^ k) (hy : ys.getD ((a + k) / 8) 0 = (y : Int)) (hys : Crc.Bs ys)
    (hR : Crc.run 4294967295 ys = Crc.run 4294967295 zb ^^^ Crc.it (8 * n - a) M) :
    M ^^^ 2 ^ k < 2 ^ (k + 1) ∧ M ^^^ 2 ^ k ≠ 0 ∧ Crc.Bs (ys.set ((a + k) / 8) ((y ^^^ 2 ^ ((a + k) % 8) : Nat) : Int)) ∧ (ys.set ((a + k) / 8) ((y ^^^ 2 ^ ((a + k) % 8) : Nat) : Int)).length = n ∧
      Crc.run 4294967295 (ys.set ((a + k) / 8) ((y ^^^ 2 ^ ((a + k) % 8) : Nat) : Int)) = Crc.run 4294967295 zb ^^^ Crc.it (8 * n - a) (M ^^^ 2 ^ k) := by
  have hb := bs_at hys (show (a + k) / 8 < ys.length by omega)
  rw [hy] at hb
  have hp : 2 ^ ((a + k) % 8) < 2 ^ 8 := Nat.pow_lt_pow_right (by decide) (Nat.mod_lt _ (by decide))
  have hx : y ^^^ 2 ^ ((a + k) % 8) < 2 ^ 8 := Nat.xor_lt_two_pow (by omega) hp
  refine ⟨Nat.xor_lt_two_pow (by rw [Nat.pow_succ]; omega) (by rw [Nat.pow_succ]; have := Nat.two_pow_pos k; omega), fun e => ?_, ?_, by simpa using hl, ?_⟩
  · have := Crc.xor_eq_zero e; omega
  · intro z hz
    rcases List.mem_or_eq_of_mem_set hz with h | h
    · exact hys z h
    · rw [h]; omega
  · have h1 := Crc.run_flip 4294967295 (a + k) ys (by omega)
    rw [hy, Int.toNat_natCast] at h1
    rw [h1, hR, Crc.it_xor, Crc.it_pow k _ (by omega), Nat.xor_assoc, hl]
    congr 3
    omega
end Go.Proofs.YtdngileimmgdnaaDoor
