/- behind, walked. -/
import Derived.Test.YtlcnmfgmgiijpaaG30
import Derived.Deep.DeepCutAuto
namespace Go.Proofs.Ytlcnmfgmgiijpaa
open Go.RowKit
attribute [local go_sem ↓] Go.wp_at_zero Go.wp_at_succ

theorem clsTo_step {p : ByteArray} {m : Nat} (h : clsHere p m = true) : clsTo p p.size m = clsTo p p.size (m + 1) := by
  have h' := h
  unfold clsHere at h'
  simp at h'
  obtain ⟨g, hg⟩ : ∃ g, p.size = g + 1 := ⟨p.size - 1, by omega⟩
  rw [hg, clsTo, if_pos h, ← hg]
  exact clsTo_more p _ _ _ (by omega) (by omega)
theorem clsTo_stop {p : ByteArray} {m : Nat} (h : clsHere p m = false) (f : Nat) : clsTo p f m = m := by
  cases f with
  | zero => rfl
  | succ f => rw [clsTo, h]; rfl
theorem beh_step {p : ByteArray} {b : Bool} {m : Nat} (h : behHere p b m = true) : beh p p.size b m = beh p p.size false (behNext p m) := by
  have h' := h
  unfold behHere at h'
  simp at h'
  have h2 := behNext_gt p m
  obtain ⟨g, hg⟩ : ∃ g, p.size = g + 1 := ⟨p.size - 1, by omega⟩
  rw [hg, beh, if_pos h, ← hg]
  exact beh_more p _ _ _ _ (by omega) (by omega)
theorem beh_stop {p : ByteArray} {b : Bool} {m : Nat} (h : behHere p b m = false) (f : Nat) : beh p f b m = m := by
  cases f with
  | zero => rfl
  | succ f => rw [beh, h]; rfl
set_option maxRecDepth 4000 in
set_option maxHeartbeats 8000000 in
theorem behind_any (p : ByteArray) (i : Nat) (w : World) (hi : i < p.size) (hp : p.size ≤ 1000000000000000000) : Calls Try.prog 26 #[.string p, .int .i64 (i : Nat)] w fun e w' => e = .returned (.int .i64 (behindOf p i : Nat)) ∧ w' = w := by
  obtain ⟨R, hR⟩ : ∃ R, R = behindOf p i := ⟨_, rfl⟩
  rw [← hR]
  have HSE : Hid (behFrom p i = if sees p (i + 1) 94 then i + 2 else i + 1) := rfl
  have HF : Hid (beh p p.size true (behFrom p i) = R) := hR.symm
  have hF1 := behFrom_gt p i
  have hF2 := behFrom_le p i hi
  obtain ⟨F, hF⟩ : ∃ F, F = behFrom p i := ⟨_, rfl⟩
  rw [← hF] at HF HSE hF1 hF2
  clear hR hF
  go_enter Try.func26, Try.ntmps26
  go_upto_region 2 with fail
  go_cut [17] (fun b wx => b = .bool (sees p (i + 1) 94) ∧ wx = w)
  case first =>
    by_cases h1 : i + 1 < p.size
    · have h1' : (i : Int) + 1 < (p.size : Int) := by omega
      by_cases h94 : p[i + 1].toNat = 94
      · have g94 : ((p[i + 1].toNat : Int) == 94) = true := by simp; omega
        have hs : sees p (i + 1) 94 = true := by unfold sees; simp [h1, byt_eq h1, h94]
        clear h94
        go_wp2_with fail
        go_meet
        case rel => exact ⟨by rw [hs], rfl⟩
      · have g94 : ((p[i + 1].toNat : Int) == 94) = false := by simp; omega
        have hs : sees p (i + 1) 94 = false := by unfold sees; simp [byt_eq h1, h94]
        clear h94
        go_wp2_with fail
        go_meet
        case rel => exact ⟨by rw [hs], rfl⟩
    · have h1' : ¬ (i : Int) + 1 < (p.size : Int) := by omega
      have hs : sees p (i + 1) 94 = false := by unfold sees; simp [h1]
      go_wp2_with fail
      go_meet
      case rel => exact ⟨by rw [hs], rfl⟩
  case rest =>
  obtain ⟨rfl, rfl⟩ := hcut
  go_upto_if 17 with fail
  go_cut [1] (fun v wx => v = .int .i64 (F : Nat) ∧ wx = wc)
  case first =>
    cases hs : sees p (i + 1) 94 with
    | true =>
      have hFF : F = i + 2 := by rw [HSE.out, hs]; rfl
      go_wp2_with fail
      go_meet
      case rel => exact ⟨by rw [hFF]; go_num, rfl⟩
    | false =>
      have hFF : F = i + 1 := by rw [HSE.out, hs]; rfl
      go_wp2_with fail
      go_meet
      case rel => exact ⟨by rw [hFF]; go_num, rfl⟩
  case rest =>
  obtain ⟨rfl, rfl⟩ := hcut
  clear HSE
  go_wp2_with fail
  go_loopw [1, 5] (fun v b u => ∃ (m : Nat) (f : Bool), v = .int .i64 (m : Nat) ∧ b = .bool f ∧ 1 ≤ m ∧ m ≤ p.size + 2 ∧ Hid (beh p p.size f m = R) ∧ u = wc) (fun v _ _ => p.size + 2 - (intOf v).toNat)
  case atStart => exact ⟨F, true, by go_num, rfl, by omega, by omega, HF, rfl⟩
  case round =>
    clear HF
    obtain ⟨m, f, rfl, rfl, hm1, hm2, HR, hw⟩ := hrel
    subst hw
    go_upto_region 5 with fail
    go_cut [32] (fun b wx => b = .bool (behHere p f m) ∧ wx = wr)
    case first =>
      by_cases hlt : m < p.size
      · have hlt' : (m : Int) < (p.size : Int) := by omega
        have hb := byt_eq hlt
        cases f with
        | true =>
          have HV : Hid (behHere p true m = true) := (show behHere p true m = true by unfold behHere; simp [hlt])
          clear hb
          go_wp2_with fail
          go_meet
          case rel => exact ⟨by rw [HV.out], rfl⟩
        | false =>
          by_cases h93 : p[m].toNat = 93
          · have HV : Hid (behHere p false m = false) := (show behHere p false m = false by unfold behHere; simp [hb, h93])
            have g93 : ((p[m].toNat : Int) == 93) = true := by simp; omega
            have z93 : ((p[m].toNat : Int) != 93) = false := by simp; omega
            clear h93 hb
            go_wp2_with fail
            go_meet
            case rel => exact ⟨by rw [HV.out], rfl⟩
          · have HV : Hid (behHere p false m = true) := (show behHere p false m = true by unfold behHere; simp [hlt, hb, h93])
            have g93 : ((p[m].toNat : Int) == 93) = false := by simp; omega
            have z93 : ((p[m].toNat : Int) != 93) = true := by simp; omega
            clear h93 hb
            go_wp2_with fail
            go_meet
            case rel => exact ⟨by rw [HV.out], rfl⟩
      · have hlt' : ¬ (m : Int) < (p.size : Int) := by omega
        have HV : Hid (behHere p f m = false) := (show behHere p f m = false by unfold behHere; simp [hlt])
        go_wp2_with fail
        go_meet
        case rel => exact ⟨by rw [HV.out], rfl⟩
    case rest =>
    obtain ⟨rfl, hw2⟩ := hcut
    subst hw2
    cases hbh : behHere p f m with
    | false =>
      have HX : Hid ((m : Nat) = R) := by show _ = _; rw [← HR.out]; exact (beh_stop hbh _).symm
      clear hbh
      go_wp2
      go_ret
      exact ⟨ret_int (by rw [HX.out]), rfl⟩
    | true =>
      have HE : Hid (behHere p f m = true) := hbh
      have hlt : m < p.size := by unfold behHere at hbh; simp at hbh; exact hbh.1
      have hlt' : (m : Int) < (p.size : Int) := by omega
      have hb := byt_eq hlt
      clear hbh
      by_cases h91 : p[m].toNat = 91
      · have g91 : ((p[m].toNat : Int) == 91) = true := by simp; omega
        by_cases hl1 : m + 1 < p.size
        · have hl1' : (m : Int) + 1 < (p.size : Int) := by omega
          have hbb := byt_eq hl1
          by_cases h58 : p[m + 1].toNat = 58
          · have g58 : ((p[m + 1].toNat : Int) == 58) = true := by simp; omega
            have HN : Hid (beh p p.size false (clsTo p p.size (m + 1) + 2) = R) := by show _ = _; rw [← HR.out, beh_step HE.out]; unfold behNext; rw [show isCls p m = true by unfold isCls; simp [hb, hbb, h91, h58, hl1]]; rfl
            clear h91 h58 HE hb hbb
            have hC := clsTo_ge p p.size (m + 1)
            have hC2 := clsTo_le p p.size (m + 1) (by omega)
            obtain ⟨C, hCC⟩ : ∃ C, C = clsTo p p.size (m + 1) := ⟨_, rfl⟩
            have HC : Hid (clsTo p p.size (m + 1) = C) := hCC.symm
            rw [← hCC] at hC hC2 HN
            clear hCC
            go_wp2_with fail
            go_loopw [1] (fun v u => ∃ q : Nat, v = .int .i64 ((q : Int) + 1) ∧ m ≤ q ∧ q + 1 ≤ p.size ∧ Hid (clsTo p p.size (q + 1) = C) ∧ u = wc) (fun v _ => p.size + 2 - (intOf v).toNat)
            case atStart => exact ⟨m, by go_num, by omega, by omega, HC, (by first | rfl | trivial)⟩
            case round =>
              clear HC
              obtain ⟨q, rfl, hq1, hq2, HC, hw⟩ := hrel
              subst hw
              by_cases hl2 : q + 2 < p.size
              · have hl2' : (q : Int) + 1 + 1 < (p.size : Int) := by omega
                have hq : q < p.size := by omega
                have hqq : q + 1 < p.size := by omega
                have b0 := byt_eq hq
                have b1 := byt_eq hqq
                have b2 := byt_eq hl2
                by_cases x58 : p[q + 1].toNat = 58
                · have y58 : ((p[q + 1].toNat : Int) == 58) = true := by simp; omega
                  by_cases x93 : p[q + 2].toNat = 93
                  · have y93 : ((p[q + 2].toNat : Int) == 93) = true := by simp; omega
                    by_cases x91 : p[q].toNat = 91
                    · have y91 : ((p[q].toNat : Int) == 91) = true := by simp; omega
                      have z91 : ((p[q].toNat : Int) != 91) = false := by simp; omega
                      have HX : Hid (clsTo p p.size (q + 1 + 1) = C) := (show clsTo p p.size (q + 1 + 1) = C by rw [← HC.out]; exact (clsTo_step (by unfold clsHere; simp [b0, b1, b2, x91, hl2])).symm)
                      clear HC
                      go_wp2
                      go_roundw
                      case rel => exact ⟨q + 1, by go_num, by omega, by omega, HX, (by first | rfl | trivial)⟩
                      case measure => simp [intOf]; omega
                    · have y91 : ((p[q].toNat : Int) == 91) = false := by simp; omega
                      have z91 : ((p[q].toNat : Int) != 91) = true := by simp; omega
                      have HX : Hid (q + 1 = C) := (show q + 1 = C by rw [← HC.out]; exact (clsTo_stop (by unfold clsHere; simp [b0, b1, b2, x58, x93, x91]) _).symm)
                      clear HC
                      go_wp2
                      go_roundw
                      case rel => exact ⟨C + 2, false, by rw [← HX.out]; go_num, rfl, by omega, by omega, HN, (by first | rfl | trivial)⟩
                      case measure => simp [intOf]; omega
                  · have y93 : ((p[q + 2].toNat : Int) == 93) = false := by simp; omega
                    have HX : Hid (clsTo p p.size (q + 1 + 1) = C) := (show clsTo p p.size (q + 1 + 1) = C by rw [← HC.out]; exact (clsTo_step (by unfold clsHere; simp [b2, x93, hl2])).symm)
                    clear HC
                    go_wp2
                    go_roundw
                    case rel => exact ⟨q + 1, by go_num, by omega, by omega, HX, (by first | rfl | trivial)⟩
                    case measure => simp [intOf]; omega
                · have y58 : ((p[q + 1].toNat : Int) == 58) = false := by simp; omega
                  have HX : Hid (clsTo p p.size (q + 1 + 1) = C) := (show clsTo p p.size (q + 1 + 1) = C by rw [← HC.out]; exact (clsTo_step (by unfold clsHere; simp [b1, x58, hl2])).symm)
                  clear HC
                  go_wp2
                  go_roundw
                  case rel => exact ⟨q + 1, by go_num, by omega, by omega, HX, (by first | rfl | trivial)⟩
                  case measure => simp [intOf]; omega
              · have hl2' : ¬ (q : Int) + 1 + 1 < (p.size : Int) := by omega
                have HX : Hid (q + 1 = C) := (show q + 1 = C by rw [← HC.out]; exact (clsTo_stop (by unfold clsHere; simp [hl2]) _).symm)
                clear HC
                go_wp2
                go_roundw
                case rel => exact ⟨C + 2, false, by rw [← HX.out]; go_num, rfl, by omega, by omega, HN, (by first | rfl | trivial)⟩
                case measure => simp [intOf]; omega
          · have g58 : ((p[m + 1].toNat : Int) == 58) = false := by simp; omega
            have hcls : isCls p m = false := by unfold isCls; simp [hb]; intros; rw [hbb]; exact h58
            by_cases h2 : m + 2 < p.size
            · have h2' : (m : Int) + 2 < (p.size : Int) := by omega
              have h1 : m + 1 < p.size := by omega
              have hb1 := byt_eq h1
              have hb2 := byt_eq h2
              by_cases h45 : p[m + 1].toNat = 45
              · have g45 : ((p[m + 1].toNat : Int) == 45) = true := by simp; omega
                by_cases h9 : p[m + 2].toNat = 93
                · have g9 : ((p[m + 2].toNat : Int) == 93) = true := by simp; omega
                  have HN : Hid (beh p p.size false (m + 1) = R) := by show _ = _; rw [← HR.out, beh_step HE.out]; unfold behNext; rw [hcls, show isSpan p m = false by unfold isSpan; simp [hb2, h9]]; rfl
                  clear h45 h9 HE hcls hb hb1 hb2
                  go_wp2
                  go_roundw
                  case rel => exact ⟨m + 1, false, by go_num, rfl, by omega, by omega, HN, (by first | rfl | trivial)⟩
                  case measure => simp [intOf]; omega
                · have g9 : ((p[m + 2].toNat : Int) == 93) = false := by simp; omega
                  have HN : Hid (beh p p.size false (m + 3) = R) := by show _ = _; rw [← HR.out, beh_step HE.out]; unfold behNext; rw [hcls, show isSpan p m = true by unfold isSpan; simp [hb1, hb2, h9, h45, h2]]; rfl
                  clear h45 h9 HE hcls hb hb1 hb2
                  go_wp2
                  go_roundw
                  case rel => exact ⟨m + 3, false, by go_num, rfl, by omega, by omega, HN, (by first | rfl | trivial)⟩
                  case measure => simp [intOf]; omega
              · have g45 : ((p[m + 1].toNat : Int) == 45) = false := by simp; omega
                have HN : Hid (beh p p.size false (m + 1) = R) := by show _ = _; rw [← HR.out, beh_step HE.out]; unfold behNext; rw [hcls, show isSpan p m = false by unfold isSpan; simp [hb1, h45]]; rfl
                clear h45 HE hcls hb hb1 hb2
                go_wp2
                go_roundw
                case rel => exact ⟨m + 1, false, by go_num, rfl, by omega, by omega, HN, (by first | rfl | trivial)⟩
                case measure => simp [intOf]; omega
            · have h2' : ¬ (m : Int) + 2 < (p.size : Int) := by omega
              have HN : Hid (beh p p.size false (m + 1) = R) := by show _ = _; rw [← HR.out, beh_step HE.out]; unfold behNext; rw [hcls, show isSpan p m = false by unfold isSpan; simp [h2]]; rfl
              clear HE hcls hb
              go_wp2
              go_roundw
              case rel => exact ⟨m + 1, false, by go_num, rfl, by omega, by omega, HN, (by first | rfl | trivial)⟩
              case measure => simp [intOf]; omega
        · have hl1' : ¬ (m : Int) + 1 < (p.size : Int) := by omega
          have hcls : isCls p m = false := by unfold isCls; simp [hb]; intros; omega
          have h2 : ¬ m + 2 < p.size := by omega
          have h2' : ¬ (m : Int) + 2 < (p.size : Int) := by omega
          have HN : Hid (beh p p.size false (m + 1) = R) := by show _ = _; rw [← HR.out, beh_step HE.out]; unfold behNext; rw [hcls, show isSpan p m = false by unfold isSpan; simp [h2]]; rfl
          clear HE hcls hb
          go_wp2
          go_roundw
          case rel => exact ⟨m + 1, false, by go_num, rfl, by omega, by omega, HN, (by first | rfl | trivial)⟩
          case measure => simp [intOf]; omega
      · have g91 : ((p[m].toNat : Int) == 91) = false := by simp; omega
        have hcls : isCls p m = false := by unfold isCls; simp [hb]; intro h; omega
        by_cases h2 : m + 2 < p.size
        · have h2' : (m : Int) + 2 < (p.size : Int) := by omega
          have h1 : m + 1 < p.size := by omega
          have hb1 := byt_eq h1
          have hb2 := byt_eq h2
          by_cases h45 : p[m + 1].toNat = 45
          · have g45 : ((p[m + 1].toNat : Int) == 45) = true := by simp; omega
            by_cases h9 : p[m + 2].toNat = 93
            · have g9 : ((p[m + 2].toNat : Int) == 93) = true := by simp; omega
              have HN : Hid (beh p p.size false (m + 1) = R) := by show _ = _; rw [← HR.out, beh_step HE.out]; unfold behNext; rw [hcls, show isSpan p m = false by unfold isSpan; simp [hb2, h9]]; rfl
              clear h45 h9 HE hcls hb hb1 hb2
              go_wp2
              go_roundw
              case rel => exact ⟨m + 1, false, by go_num, rfl, by omega, by omega, HN, (by first | rfl | trivial)⟩
              case measure => simp [intOf]; omega
            · have g9 : ((p[m + 2].toNat : Int) == 93) = false := by simp; omega
              have HN : Hid (beh p p.size false (m + 3) = R) := by show _ = _; rw [← HR.out, beh_step HE.out]; unfold behNext; rw [hcls, show isSpan p m = true by unfold isSpan; simp [hb1, hb2, h9, h45, h2]]; rfl
              clear h45 h9 HE hcls hb hb1 hb2
              go_wp2
              go_roundw
              case rel => exact ⟨m + 3, false, by go_num, rfl, by omega, by omega, HN, (by first | rfl | trivial)⟩
              case measure => simp [intOf]; omega
          · have g45 : ((p[m + 1].toNat : Int) == 45) = false := by simp; omega
            have HN : Hid (beh p p.size false (m + 1) = R) := by show _ = _; rw [← HR.out, beh_step HE.out]; unfold behNext; rw [hcls, show isSpan p m = false by unfold isSpan; simp [hb1, h45]]; rfl
            clear h45 HE hcls hb hb1 hb2
            go_wp2
            go_roundw
            case rel => exact ⟨m + 1, false, by go_num, rfl, by omega, by omega, HN, (by first | rfl | trivial)⟩
            case measure => simp [intOf]; omega
        · have h2' : ¬ (m : Int) + 2 < (p.size : Int) := by omega
          have HN : Hid (beh p p.size false (m + 1) = R) := by show _ = _; rw [← HR.out, beh_step HE.out]; unfold behNext; rw [hcls, show isSpan p m = false by unfold isSpan; simp [h2]]; rfl
          clear HE hcls hb
          go_wp2
          go_roundw
          case rel => exact ⟨m + 1, false, by go_num, rfl, by omega, by omega, HN, (by first | rfl | trivial)⟩
          case measure => simp [intOf]; omega
end Go.Proofs.Ytlcnmfgmgiijpaa
