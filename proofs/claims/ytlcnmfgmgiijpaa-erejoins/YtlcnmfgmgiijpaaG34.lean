/- bars, walked. -/
import Derived.Test.YtlcnmfgmgiijpaaG31
namespace Go.Proofs.Ytlcnmfgmgiijpaa
open Go.RowKit
attribute [local go_sem ↓] Go.wp_at_zero Go.wp_at_succ

def barsOf (p : ByteArray) : Cn := skim p p.size ⟨0, 0, 0, 0⟩
theorem skim_step {p : ByteArray} {x : Cn} (h : x.i < p.size) : skim p p.size x = skim p p.size (stp p x) := by
  have h2 := stp_gt p x
  obtain ⟨g, hg⟩ : ∃ g, p.size = g + 1 := ⟨p.size - 1, by omega⟩
  rw [hg, skim, if_pos (by omega), ← hg]
  exact skim_more p _ _ _ (by omega) (by omega)
theorem skim_stop {p : ByteArray} {x : Cn} (h : ¬ x.i < p.size) (f : Nat) : skim p f x = x := by
  cases f with
  | zero => rfl
  | succ f => rw [skim, if_neg h]
set_option maxRecDepth 4000 in
set_option maxHeartbeats 8000000 in
theorem bars_any (p : ByteArray) (w : World) (hp : p.size ≤ 1000000000000000000) : Calls Try.prog 16 #[.string p] w fun e w' => e = .returned (.tuple #[.int .i64 (barsOf p).n, .int .i64 (barsOf p).m]) ∧ w' = w := by
  obtain ⟨R, hR⟩ : ∃ R, R = barsOf p := ⟨_, rfl⟩
  rw [← hR]
  have HF : Hid (skim p p.size ⟨0, 0, 0, 0⟩ = R) := hR.symm
  clear hR
  go_enter Try.func16, Try.ntmps16
  go_wp2_with fail
  go_loopw [4, 5, 6, 7] (fun vn vd vm vi u => ∃ (i : Nat) (d m n : Int), vi = .int .i64 (i : Nat) ∧ vd = .int .i64 d ∧ vm = .int .i64 m ∧ vn = .int .i64 n ∧ i ≤ p.size + 3 ∧ -(i : Int) ≤ d ∧ d ≤ i ∧ 0 ≤ m ∧ m ≤ i ∧ 0 ≤ n ∧ n ≤ i ∧ Hid (skim p p.size ⟨i, d, m, n⟩ = R) ∧ u = w) (fun _ _ _ vi _ => p.size + 3 - (intOf vi).toNat)
  case atStart => exact ⟨0, 0, 0, 0, rfl, rfl, rfl, rfl, by omega, by omega, by omega, by omega, by omega, by omega, by omega, HF, rfl⟩
  case round =>
    clear HF
    obtain ⟨i, d, m, n, rfl, rfl, rfl, rfl, hi, hd1, hd2, hm1, hm2, hn1, hn2, HR, hw⟩ := hrel
    subst hw
    by_cases hlt : i < p.size
    · have hlt' : (i : Int) < (p.size : Int) := by omega
      have HS := skim_step (p := p) (x := ⟨i, d, m, n⟩) hlt
      rw [HR.out] at HS
      unfold stp at HS
      simp only [byt_eq hlt] at HS
      by_cases h92 : p[i].toNat = 92
      · skip
        have q92 : ((p[i].toNat : Int) == 92) = true := by simp; omega
        have q91 : ((p[i].toNat : Int) == 91) = false := by simp; omega
        have q40 : ((p[i].toNat : Int) == 40) = false := by simp; omega
        have q41 : ((p[i].toNat : Int) == 41) = false := by simp; omega
        have q124 : ((p[i].toNat : Int) == 124) = false := by simp; omega
        have HS2 : Hid (skim p p.size ⟨i + 2, d, m, n⟩ = R) := (by rw [HS, if_pos h92] : skim p p.size ⟨i + 2, d, m, n⟩ = R)
        clear HS HR h92
        go_wp2
        go_roundw
        case rel => exact ⟨i + 2, d, m, n, by go_num, by go_num, by go_num, by go_num, by omega, by omega, by omega, by omega, by omega, by omega, by omega, HS2, (by first | rfl | trivial)⟩
        case measure => simp [intOf]; omega
      · skip
        by_cases h91 : p[i].toNat = 91
        · skip
          have q92 : ((p[i].toNat : Int) == 92) = false := by simp; omega
          have q91 : ((p[i].toNat : Int) == 91) = true := by simp; omega
          have q40 : ((p[i].toNat : Int) == 40) = false := by simp; omega
          have q41 : ((p[i].toNat : Int) == 41) = false := by simp; omega
          have q124 : ((p[i].toNat : Int) == 124) = false := by simp; omega
          have HS2 : Hid (skim p p.size ⟨behindOf p i + 1, d, m, n⟩ = R) := (by rw [HS, if_neg (by omega), if_pos h91] : skim p p.size ⟨behindOf p i + 1, d, m, n⟩ = R)
          have hB1 := behindOf_gt p i
          have hB2 := behindOf_le p i hlt
          have HBE : Hid (∀ u, Calls Try.prog 26 #[.string p, .int .i64 (i : Nat)] u fun e w' => e = .returned (.int .i64 (behindOf p i : Nat)) ∧ w' = u) := fun u => behind_any p i u hlt hp
          obtain ⟨B, hB⟩ : ∃ B, B = behindOf p i := ⟨_, rfl⟩
          rw [← hB] at HS2 hB1 hB2 HBE
          clear HS HR h91 hB
          go_wp2_with fail
          refine (HBE.out _).mono ?_
          rintro e w9 ⟨rfl, hw9⟩
          have hw9 := hw9.symm
          subst hw9
          go_wp2
          go_roundw
          case rel => exact ⟨B + 1, d, m, n, by go_num, by go_num, by go_num, by go_num, by omega, by omega, by omega, by omega, by omega, by omega, by omega, HS2, (by first | rfl | trivial)⟩
          case measure => simp [intOf]; omega
        · skip
          by_cases h40 : p[i].toNat = 40
          · skip
            have q92 : ((p[i].toNat : Int) == 92) = false := by simp; omega
            have q91 : ((p[i].toNat : Int) == 91) = false := by simp; omega
            have q40 : ((p[i].toNat : Int) == 40) = true := by simp; omega
            have q41 : ((p[i].toNat : Int) == 41) = false := by simp; omega
            have q124 : ((p[i].toNat : Int) == 124) = false := by simp; omega
            by_cases hmx : m ≤ d + 1
            · have HS2 : Hid (skim p p.size ⟨i + 1, d + 1, d + 1, n⟩ = R) := (by rw [HS, if_neg (by omega), if_neg (by omega), if_pos h40, Int.max_eq_right hmx] : skim p p.size ⟨i + 1, d + 1, d + 1, n⟩ = R)
              clear HS HR h40
              go_wp2
              go_roundw
              case rel => exact ⟨i + 1, d + 1, d + 1, n, by go_num, by go_num, by go_num, by go_num, by omega, by omega, by omega, by omega, by omega, by omega, by omega, HS2, (by first | rfl | trivial)⟩
              case measure => simp [intOf]; omega
            · have HS2 : Hid (skim p p.size ⟨i + 1, d + 1, m, n⟩ = R) := (by rw [HS, if_neg (by omega), if_neg (by omega), if_pos h40, Int.max_eq_left (by omega)] : skim p p.size ⟨i + 1, d + 1, m, n⟩ = R)
              have hmx' : d + 1 ≤ m := by omega
              clear HS HR h40
              go_wp2
              go_roundw
              case rel => exact ⟨i + 1, d + 1, m, n, by go_num, by go_num, by go_num, by go_num, by omega, by omega, by omega, by omega, by omega, by omega, by omega, HS2, (by first | rfl | trivial)⟩
              case measure => simp [intOf]; omega
          · skip
            by_cases h41 : p[i].toNat = 41
            · skip
              have q92 : ((p[i].toNat : Int) == 92) = false := by simp; omega
              have q91 : ((p[i].toNat : Int) == 91) = false := by simp; omega
              have q40 : ((p[i].toNat : Int) == 40) = false := by simp; omega
              have q41 : ((p[i].toNat : Int) == 41) = true := by simp; omega
              have q124 : ((p[i].toNat : Int) == 124) = false := by simp; omega
              have HS2 : Hid (skim p p.size ⟨i + 1, d - 1, m, n⟩ = R) := (by rw [HS, if_neg (by omega), if_neg (by omega), if_neg (by omega), if_pos h41] : skim p p.size ⟨i + 1, d - 1, m, n⟩ = R)
              clear HS HR h41
              go_wp2
              go_roundw
              case rel => exact ⟨i + 1, d - 1, m, n, by go_num, by go_num, by go_num, by go_num, by omega, by omega, by omega, by omega, by omega, by omega, by omega, HS2, (by first | rfl | trivial)⟩
              case measure => simp [intOf]; omega
            · skip
              by_cases h124 : p[i].toNat = 124
              · skip
                have q92 : ((p[i].toNat : Int) == 92) = false := by simp; omega
                have q91 : ((p[i].toNat : Int) == 91) = false := by simp; omega
                have q40 : ((p[i].toNat : Int) == 40) = false := by simp; omega
                have q41 : ((p[i].toNat : Int) == 41) = false := by simp; omega
                have q124 : ((p[i].toNat : Int) == 124) = true := by simp; omega
                by_cases h0 : d = 0
                · have HS2 : Hid (skim p p.size ⟨i + 1, d, m, n + 1⟩ = R) := (by rw [HS, if_neg (by omega), if_neg (by omega), if_neg (by omega), if_neg (by omega), if_pos h124, if_pos h0] : skim p p.size ⟨i + 1, d, m, n + 1⟩ = R)
                  have g0 : (d == 0) = true := by simp [h0]
                  clear HS HR h124 h0
                  go_wp2
                  go_roundw
                  case rel => exact ⟨i + 1, d, m, n + 1, by go_num, by go_num, by go_num, by go_num, by omega, by omega, by omega, by omega, by omega, by omega, by omega, HS2, (by first | rfl | trivial)⟩
                  case measure => simp [intOf]; omega
                · have HS2 : Hid (skim p p.size ⟨i + 1, d, m, n⟩ = R) := (by rw [HS, if_neg (by omega), if_neg (by omega), if_neg (by omega), if_neg (by omega), if_pos h124, if_neg h0] : skim p p.size ⟨i + 1, d, m, n⟩ = R)
                  have g0 : (d == 0) = false := by simp [h0]
                  clear HS HR h124 h0
                  go_wp2
                  go_roundw
                  case rel => exact ⟨i + 1, d, m, n, by go_num, by go_num, by go_num, by go_num, by omega, by omega, by omega, by omega, by omega, by omega, by omega, HS2, (by first | rfl | trivial)⟩
                  case measure => simp [intOf]; omega
              · skip
                have q92 : ((p[i].toNat : Int) == 92) = false := by simp; omega
                have q91 : ((p[i].toNat : Int) == 91) = false := by simp; omega
                have q40 : ((p[i].toNat : Int) == 40) = false := by simp; omega
                have q41 : ((p[i].toNat : Int) == 41) = false := by simp; omega
                have q124 : ((p[i].toNat : Int) == 124) = false := by simp; omega
                have HS2 : Hid (skim p p.size ⟨i + 1, d, m, n⟩ = R) := (by rw [HS, if_neg h92, if_neg h91, if_neg h40, if_neg h41, if_neg h124] : skim p p.size ⟨i + 1, d, m, n⟩ = R)
                clear HS HR h92 h91 h40 h41 h124
                go_wp2
                go_roundw
                case rel => exact ⟨i + 1, d, m, n, by go_num, by go_num, by go_num, by go_num, by omega, by omega, by omega, by omega, by omega, by omega, by omega, HS2, (by first | rfl | trivial)⟩
                case measure => simp [intOf]; omega
    · have hlt' : ¬ (i : Int) < (p.size : Int) := by omega
      have HX : Hid (R = ⟨i, d, m, n⟩) := (by rw [← HR.out, skim_stop hlt] : R = ⟨i, d, m, n⟩)
      clear HR
      go_wp2
      go_ret2
      exact ⟨by rw [HX.out]; rfl, (by first | rfl | trivial)⟩
end Go.Proofs.Ytlcnmfgmgiijpaa
