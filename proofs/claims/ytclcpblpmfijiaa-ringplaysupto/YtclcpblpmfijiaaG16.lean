/- holds: what stands, written over, lengthened; own. -/
import Derived.Test.YtclcpblpmfijiaaG14
import Derived.Test.YtclcpblpmfijiaaG15
namespace Go.Proofs.Ytclcpblpmfijiaa
open Go.RowKit Go.Maps Rg
attribute [local go_sem ↓] Go.wp_at_zero Go.wp_at_succ

def Drw (w u : World) : Prop := ∃ q, u = w.drewN q
def SameW (u w : World) : Prop := u = w
theorem SameW.cell {u w : World} (h : SameW u w) {a : Addr} {v : Value} (hc : w.cell? a = some v) : u.cell? a = some v := by
  have e : u = w := h
  rw [e]
  exact hc
theorem Drw.heap {w u : World} (h : Drw w u) : u.heap = w.heap := by obtain ⟨q, rfl⟩ := h; rfl
theorem Drw.drew {w u : World} (h : Drw w u) : Drw w u.drew := by
  obtain ⟨q, rfl⟩ := h
  exact ⟨q + 1, by simp [World.drewN, World.drew, Nat.add_assoc]⟩
theorem Drw.cell {w u : World} (h : Drw w u) {a : Addr} {v : Value} (hc : w.cell? a = some v) : u.cell? a = some v := by
  simp only [World.cell?] at hc ⊢
  rw [h.heap]
  exact hc
set_option maxRecDepth 8000 in
theorem same_q {w : World} {Va Vb : Value} {l : List Int} (ha : LAt w Va (ints l)) (hb : LAt w Vb (ints l)) (hl : l.length ≤ 1000000000) : Calls Try.prog 30 #[Va, Vb] w fun e w' => e = .returned (.bool true) ∧ Drw w w' := by
  obtain ⟨aa, ca, rfl⟩ := lat_len ha
  obtain ⟨ab, cb, rfl⟩ := lat_len hb
  rw [ints_len] at ha hb ⊢
  obtain ⟨n, hn⟩ : ∃ n, l.length = n := ⟨_, rfl⟩
  rw [hn] at ha hb hl ⊢
  have HA : Hid (LAt w (.slice aa n ca) (ints l)) := ha
  have HB : Hid (LAt w (.slice ab n cb) (ints l)) := hb
  have H0 : Hid (Drw w w) := (⟨0, rfl⟩ : Drw w w)
  clear ha hb hn
  go_enter Try.func30, Try.ntmps30
  go_wp2_with fail
  go_loopw [13] (fun i u => ∃ j : Nat, i = .int .i64 (j : Nat) ∧ j ≤ n ∧ Hid (Drw w u)) (fun i _ => n - (Go.RowKit.intOf i).toNat)
  case atStart => exact ⟨0, rfl, Nat.zero_le _, H0⟩
  case round =>
    obtain ⟨j, rfl, hj, HL⟩ := hrel
    clear H0
    by_cases hlt : j < n
    · have l1 : (j : Int) < (n : Int) := by omega
      obtain ⟨b1, o1, v1, rfl, hv1, c1⟩ := lat_nth HA.out hlt
      obtain ⟨b2, o2, v2, rfl, hv2, c2⟩ := lat_nth HB.out hlt
      rw [hv1] at hv2
      cases hv2
      obtain ⟨x, _, rfl⟩ := List.mem_map.1 (List.mem_of_getElem? hv1)
      have c1' := HL.out.cell c1
      have c2' := HL.out.cell c2
      clear c1 c2 hv1
      go_upto_region 6 with fail
      go_region
      go_wp2_with fail
      go_roundw
      case rel => exact ⟨j + 1, by go_num, by omega, HL.out.drew⟩
      case measure => simp [Go.RowKit.intOf]; omega
    · have l1 : ¬ (j : Int) < (n : Int) := by omega
      go_wp2_with fail
      go_ret
      exact ⟨rfl, HL.out⟩
/-- every list bears its own marks -/
def Own (L : List (List Int)) : Prop := ∀ (i : Nat) xs, L[i]? = some xs → ∀ x ∈ xs, x = -1000 - (i : Int)
set_option maxRecDepth 8000 in
theorem own_any {w : World} {VL : Value} {vs : List Value} {L : List (List Int)} (hv : LAt w VL vs) (hn : vs.length = L.length) (hs : L.length ≤ 4000000) (hl : ∀ (i : Nat) xs, L[i]? = some xs → xs.length ≤ 1000 ∧ ∃ V, vs[i]? = some V ∧ LAt w V (ints xs)) (ho : Own L) :
    Calls Try.prog 31 #[VL] w fun e w' => e = .returned (.bool true) ∧ w' = w := by
  obtain ⟨aL, cL, rfl⟩ := lat_len hv
  obtain ⟨n, hn'⟩ : ∃ n, L.length = n := ⟨_, rfl⟩
  rw [hn'] at hn hs
  rw [hn] at hv ⊢
  have HV : Hid (LAt w (.slice aL n cL) vs) := hv
  have HL : Hid (∀ (i : Nat) xs, L[i]? = some xs → xs.length ≤ 1000 ∧ ∃ V, vs[i]? = some V ∧ LAt w V (ints xs)) := hl
  have HO : Hid (Own L) := ho
  have HN : Hid (L.length = n) := hn'
  have H0 : Hid (SameW w w) := (rfl : w = w)
  clear hv hl ho hn hn'
  go_enter Try.func31, Try.ntmps31
  go_wp2_with fail
  go_loopw [8] (fun v u => ∃ i : Nat, v = .int .i64 (i : Nat) ∧ i ≤ n ∧ Hid (SameW u w)) (fun v _ => n - (Go.RowKit.intOf v).toNat)
  case atStart => exact ⟨0, rfl, Nat.zero_le _, H0⟩
  case round =>
    obtain ⟨i, rfl, hi, HW⟩ := hrel
    clear H0
    by_cases hlt : i < n
    · have l1 : (i : Int) < (n : Int) := by omega
      obtain ⟨bL, oL, V, rfl, hV, cV⟩ := lat_nth HV.out hlt
      have hlen : i < L.length := by rw [HN.out]; exact hlt
      obtain ⟨xs, hxs⟩ : ∃ xs, L[i]? = some xs := ⟨_, List.getElem?_eq_getElem hlen⟩
      obtain ⟨hx1, V', hV', hla⟩ := HL.out i xs hxs
      rw [hV] at hV'
      cases hV'
      obtain ⟨aV, kV, rfl⟩ := lat_len hla
      rw [ints_len] at hla cV
      obtain ⟨m, hm⟩ : ∃ m, xs.length = m := ⟨_, rfl⟩
      rw [hm] at hla cV hx1
      have HLA : Hid (LAt w (.slice aV m kV) (ints xs)) := hla
      have HXO : Hid (∀ x ∈ xs, x = -1000 - (i : Int)) := HO.out i xs hxs
      have cV2 := HW.out.cell cV
      clear hla hV hlen hxs hm cV
      go_wp2_with fail
      go_loopw [16] (fun v u => ∃ k : Nat, v = .int .i64 (k : Nat) ∧ k ≤ m ∧ Hid (SameW u w)) (fun v _ => m - (Go.RowKit.intOf v).toNat)
      case atStart => exact ⟨0, rfl, Nat.zero_le _, HW⟩
      case round =>
        obtain ⟨k, rfl, hk, HW2⟩ := hrel
        by_cases hkl : k < m
        · have l2 : (k : Int) < (m : Int) := by omega
          obtain ⟨bV, oV, x, rfl, hx, cx⟩ := lat_nth HLA.out hkl
          obtain ⟨z, hz, rfl⟩ := List.mem_map.1 (List.mem_of_getElem? hx)
          have hzv := HXO.out z hz
          subst hzv
          have cx2 := HW2.out.cell cx
          clear cx hx hz
          go_wp2_with fail
          go_roundw
          case rel => exact ⟨k + 1, by go_num, by omega, HW2⟩
          case measure => simp [Go.RowKit.intOf]; omega
        · have l2 : ¬ (k : Int) < (m : Int) := by omega
          go_wp2_with fail
          go_roundw
          case rel => exact ⟨i + 1, by go_num, by omega, HW2⟩
          case measure => simp [Go.RowKit.intOf]; omega
    · have l1 : ¬ (i : Int) < (n : Int) := by omega
      go_wp2_with fail
      go_ret
      exact ⟨rfl, HW.out⟩
end Go.Proofs.Ytclcpblpmfijiaa
