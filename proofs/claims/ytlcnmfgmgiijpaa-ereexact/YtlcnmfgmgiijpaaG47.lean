/- The document's item of layer 4. -/
import Derived.Test.YtlcnmfgmgiijpaaG46
import Derived.Deep.DeepCutAuto
namespace Go.Proofs.Ytlcnmfgmgiijpaa
open Go.RowKit
attribute [local go_sem ↓] Go.wp_at_zero Go.wp_at_succ

def oneB (s : ByteArray) (i : Nat) : Bool := sees s i 91 && (sees s (i + 1) 46 || sees s (i + 1) 61)
def sngB (s : ByteArray) (i : Nat) : Bool := !(sees s (i + 1) 45) || (!(decide (i + 2 < s.size)) || sees s (i + 2) 93)
def spnB (s : ByteArray) (i : Nat) : Bool := decide (byt s (i + 2) < byt s i) || (decide (byt s (i + 2) = 91) && (sees s (i + 3) 58 || (sees s (i + 3) 46 || sees s (i + 3) 61)))
theorem item_ref (s : ByteArray) (o i : Nat) (hi : i < s.size) : item s o i = if sees s i 91 && sees s (i + 1) 58 then class_ s o i else if oneB s i then .bad i 43 else if sngB s i then .ok (Oct.has [byt s i]) (i + 1) else if spnB s i then .bad i 43 else .ok (Oct.span (byt s i) (byt s (i + 2))) (i + 3) := by
  unfold item
  rw [if_neg (by omega)]
  have e1 : (decide (i + 1 < s.size) && decide (byt s i = 91) && decide (byt s (i + 1) = 58)) = (sees s i 91 && sees s (i + 1) 58) := by
    unfold sees
    rw [Bool.eq_iff_iff]
    simp only [Bool.and_eq_true, decide_eq_true_eq]
    omega
  rw [e1]
  cases h1 : (sees s i 91 && sees s (i + 1) 58) with
  | true => rfl
  | false =>
    simp only [Bool.false_eq_true, if_false]
    have e2 : special s i = oneB s i := by
      unfold sees at h1
      unfold special oneB sees
      rw [Bool.eq_iff_iff]
      simp only [Bool.and_eq_false_iff, decide_eq_false_iff_not] at h1
      simp only [Bool.and_eq_true, Bool.or_eq_true, decide_eq_true_eq, List.mem_cons, List.not_mem_nil, or_false]
      omega
    rw [e2]
    cases oneB s i with
    | true => rfl
    | false =>
      simp only [Bool.false_eq_true, if_false]
      have e3 : (decide (i + 2 < s.size) && decide (byt s (i + 1) = 45) && decide (byt s (i + 2) ≠ 93)) = !(sngB s i) := by
        unfold sngB sees
        rw [Bool.eq_iff_iff]
        simp only [Bool.and_eq_true, Bool.not_eq_true', Bool.or_eq_false_iff, Bool.not_eq_false', decide_eq_true_eq, Bool.and_eq_false_iff, decide_eq_false_iff_not]
        omega
      rw [e3]
      cases h3 : sngB s i with
      | true => rfl
      | false =>
        simp only [Bool.not_false, if_true, Bool.false_eq_true, if_false]
        unfold span_
        have e4 : (decide (byt s (i + 2) < byt s i) || special s (i + 2)) = spnB s i := by
          unfold sngB sees at h3
          simp only [Bool.or_eq_false_iff, Bool.and_eq_true, decide_eq_true_eq, Bool.not_eq_eq_eq_not, Bool.not_false] at h3
          unfold special spnB sees
          rw [show i + 2 + 1 = i + 3 from rfl]
          rw [Bool.eq_iff_iff]
          simp only [Bool.and_eq_true, Bool.or_eq_true, decide_eq_true_eq, List.mem_cons, List.not_mem_nil, or_false]
          omega
        rw [e4]
theorem addS_one (σ : Oct.S) (a : Nat) (x : Nat) : wi σ a x = addS σ (Oct.has [a]) x := by
  unfold wi addS
  split
  · rename_i h; subst h
    by_cases hx : x = 10
    · simp [hx]
    · simp [Oct.has, hx]
  · rename_i h
    by_cases hx : x = a
    · subst hx; simp [Oct.has, Oct.ins, h]
    · simp [Oct.has, Oct.ins, hx]
/-- a set and bytes from one up below another, but for the newline -/
def spTo (σ : Oct.S) (a n : Nat) : Oct.S := fun x => σ x || (decide (a ≤ x) && decide (x < n) && !(x == 10))
theorem spTo_zero (σ : Oct.S) (a : Nat) (x : Nat) : σ x = spTo σ a a x := by
  have : (decide (a ≤ x) && decide (x < a)) = false := by simp
  simp [spTo, this]
theorem spTo_step (σ : Oct.S) (a n : Nat) (h : a ≤ n) (x : Nat) : wi (spTo σ a n) n x = spTo σ a (n + 1) x := by
  unfold wi
  by_cases hx : x = n
  · subst hx
    split
    · rename_i h10; subst h10; simp [spTo]
    · rename_i h10; simp [spTo, Oct.ins, h10, h]
  · have e : decide (x < n + 1) = decide (x < n) := by simp; omega
    split
    · simp [spTo, e]
    · simp [spTo, Oct.ins, e, hx]
theorem spTo_all (σ : Oct.S) (a b : Nat) (x : Nat) : spTo σ a (b + 1) x = addS σ (Oct.span a b) x := by
  unfold spTo addS Oct.span
  rw [show decide (x < b + 1) = decide (x ≤ b) by simp; omega]
set_option maxRecDepth 4000 in
set_option maxHeartbeats 8000000 in
theorem ritem_walk (b0 B o i d : Nat) (σ : Oct.S) (s : ByteArray) (w : World) (h : RR w b0 B s i d 0 0) (hlt : i < s.size) (hs : s.size ≤ 1024) : Calls Try.prog 60 #[.pointer (some ⟨B, 0, none⟩), setV σ, .int .i64 (o : Nat)] w (RefS w b0 B s d (item s o i) σ) := by
  obtain ⟨u0, hu0, hcq⟩ := start_cq w σ h
  obtain ⟨A, hA⟩ : ∃ A, A = w.heap.size := ⟨_, rfl⟩
  obtain ⟨R, hR⟩ : ∃ R, R = w.heap.size + 1 := ⟨_, rfl⟩
  rw [← hR, ← hA] at hcq
  have HS0 : Hid (Cq w s b0 B A R d u0 i σ 0 0) := hcq
  have HU : Hid (u0 = _) := hu0
  have HAA : Hid (A = w.heap.size) := hA
  have HRR : Hid (R = w.heap.size + 1) := hR
  have HIT : Hid (item s o i = _) := item_ref s o i hlt
  clear hu0 hcq hA hR h
  obtain ⟨oo, cc, c0, c1, c2, c3, c4⟩ := HS0.out.rd.cells
  have hi3 : i ≤ 1024 := by omega
  have HI1 : Hid (∀ (c : Nat) u, RR u b0 B s i d 0 0 → Calls Try.prog 37 #[.pointer (some ⟨B, 0, none⟩), .int .i64 ((i : Int) + 1), .int .u8 (c : Nat)] u fun x w' => x = .returned (.bool (sees s (i + 1) c)) ∧ w' = u) := fun c u hu => ris_any b0 B i d 0 0 (i + 1) c s u hu
  have HI2 : Hid (∀ (c : Nat) u, RR u b0 B s i d 0 0 → Calls Try.prog 37 #[.pointer (some ⟨B, 0, none⟩), .int .i64 ((i : Int) + 2), .int .u8 (c : Nat)] u fun x w' => x = .returned (.bool (sees s (i + 2) c)) ∧ w' = u) := fun c u hu => ris_any b0 B i d 0 0 (i + 2) c s u hu
  have HI3 : Hid (∀ (c : Nat) u, RR u b0 B s i d 0 0 → Calls Try.prog 37 #[.pointer (some ⟨B, 0, none⟩), .int .i64 ((i : Int) + 3), .int .u8 (c : Nat)] u fun x w' => x = .returned (.bool (sees s (i + 3) c)) ∧ w' = u) := fun c u hu => ris_any b0 B i d 0 0 (i + 3) c s u hu
  have HM2 : Hid (∀ u, RR u b0 B s i d 0 0 → Calls Try.prog 44 #[.pointer (some ⟨B, 0, none⟩), .int .i64 ((i : Int) + 2)] u fun x w' => x = .returned (.bool (decide (i + 2 < s.size))) ∧ w' = u) := fun u hu => rmore_any b0 B i d 0 0 (i + 2) s u hu
  unfold setV
  go_enter Try.func60, Try.ntmps60
  go_upto_region 1 with fail
  rw [← HU.out, ← HRR.out, ← HAA.out]
  clear HU HRR HAA
  go_upto_region 2 with fail
  clear c0 c1 c2 c3 c4
  go_cut [23] (fun b wx => b = .bool ((sees s i 91 && sees s (i + 1) 58)) ∧ wx = u0)
  case first =>
    go_wp2_with fail
    refine (ris_any b0 B i d 0 0 i 91 s _ HS0.out.rd).mono ?_
    rintro e ux ⟨rfl, hz⟩
    subst hz
    cases h1 : sees s i 91 with
    | true =>
      go_wp2_with fail
      refine (HI1.out 58 _ HS0.out.rd).mono ?_
      rintro e ux ⟨rfl, hz⟩
      subst hz
      cases h2 : sees s (i + 1) 58 with
      | true =>
        have HV : Hid ((sees s i 91 && sees s (i + 1) 58) = true) := by show _ = _; rw [h1, h2]; rfl
        go_wp2_with fail
        go_meet
        case rel => exact ⟨by rw [HV.out], rfl⟩
      | false =>
        have HV : Hid ((sees s i 91 && sees s (i + 1) 58) = false) := by show _ = _; rw [h1, h2]; rfl
        go_wp2_with fail
        go_meet
        case rel => exact ⟨by rw [HV.out], rfl⟩
    | false =>
      have HV : Hid ((sees s i 91 && sees s (i + 1) 58) = false) := by show _ = _; rw [h1]; rfl
      go_wp2_with fail
      go_meet
      case rel => exact ⟨by rw [HV.out], rfl⟩
  case rest =>
  obtain ⟨rfl, hwc⟩ := hcut
  subst hwc
  cases hB1 : (sees s i 91 && sees s (i + 1) 58) with
  | true =>
    rw [hB1] at HIT
    obtain ⟨a0, a1, a2, a3⟩ := HS0.out.box.cells
    have hi2 : i + 2 ≤ s.size := by
      have h3 := (Bool.and_eq_true _ _ ▸ hB1 : sees s i 91 = true ∧ sees s (i + 1) 58 = true).2
      have := seesl h3
      omega
    have HIT2 : Hid (item s o i = class_ s o i) := HIT.out
    clear HIT hB1
    go_wp2_with fail
    refine (rclass_walk b0 B o i d σ s _ HS0.out.rd hi2 hs).mono ?_
    intro e u4 h4
    cases hc : class_ s o i with
    | out => rw [hc] at h4; exact h4.elim
    | bad a c =>
      rw [hc] at h4 HIT2
      obtain ⟨hc0, τ, j, d', rfl, hr4, hf4⟩ := h4
      have HS4 : Hid (Cq w s b0 B A R d' u4 j σ c a) := HS0.out.read hf4 hr4
      clear hr4 hf4 a0 a1 a2 a3
      unfold setV
      obtain ⟨r0, r1, r2, r3⟩ := HS4.out.res.cells
      have g0 := HS4.out.res.frozen 0
      have g1 := HS4.out.res.frozen 1
      have g2 := HS4.out.res.frozen 2
      have g3 := HS4.out.res.frozen 3
      go_wp2
      refine HS4.out.ret Try.f60 rfl τ rfl rfl (fun hr hf => ?_)
      unfold RefS
      rw [HIT2.out]
      exact ⟨hc0, τ, _, _, rfl, hr, hf⟩
    | ok c j =>
      rw [hc] at h4 HIT2
      obtain ⟨hj, rfl, hr4, hf4⟩ := h4
      have HS4 : Hid (Cq w s b0 B A R d u4 j σ 0 0) := HS0.out.read hf4 hr4
      clear hr4 hf4 a0 a1 a2 a3
      unfold setV
      obtain ⟨r0, r1, r2, r3⟩ := HS4.out.res.cells
      have g0 := HS4.out.res.frozen 0
      have g1 := HS4.out.res.frozen 1
      have g2 := HS4.out.res.frozen 2
      have g3 := HS4.out.res.frozen 3
      go_wp2
      refine HS4.out.ret Try.f60 rfl (addS σ c) rfl rfl (fun hr hf => ?_)
      unfold RefS
      rw [HIT2.out]
      exact ⟨hj, rfl, hr, hf⟩
  | false =>
    rw [hB1] at HIT
    clear hB1
    go_upto_region 4 with fail
    go_cut [42] (fun b wx => b = .bool (oneB s i) ∧ wx = wc)
    case first =>
      go_wp2_with fail
      refine (ris_any b0 B i d 0 0 i 91 s _ HS0.out.rd).mono ?_
      rintro e ux ⟨rfl, hz⟩
      subst hz
      cases h1 : sees s i 91 with
      | true =>
        go_wp2_with fail
        refine (HI1.out 46 _ HS0.out.rd).mono ?_
        rintro e ux ⟨rfl, hz⟩
        subst hz
        cases h2 : sees s (i + 1) 46 with
        | true =>
          have HV : Hid (oneB s i = true) := by show _ = _; unfold oneB; rw [h1, h2]; rfl
          go_wp2_with fail
          go_meet
          case rel => exact ⟨by rw [HV.out], rfl⟩
        | false =>
          go_wp2_with fail
          refine (HI1.out 61 _ HS0.out.rd).mono ?_
          rintro e ux ⟨rfl, hz⟩
          subst hz
          cases h3 : sees s (i + 1) 61 with
          | true =>
            have HV : Hid (oneB s i = true) := by show _ = _; unfold oneB; rw [h1, h2, h3]; rfl
            go_wp2_with fail
            go_meet
            case rel => exact ⟨by rw [HV.out], rfl⟩
          | false =>
            have HV : Hid (oneB s i = false) := by show _ = _; unfold oneB; rw [h1, h2, h3]; rfl
            go_wp2_with fail
            go_meet
            case rel => exact ⟨by rw [HV.out], rfl⟩
      | false =>
        have HV : Hid (oneB s i = false) := by show _ = _; unfold oneB; rw [h1]; rfl
        go_wp2_with fail
        go_meet
        case rel => exact ⟨by rw [HV.out], rfl⟩
    case rest =>
    obtain ⟨rfl, hwc⟩ := hcut
    subst hwc
    cases hB2 : oneB s i with
    | true =>
      have HIT2 : Hid (item s o i = .bad i 43) := by show _ = _; rw [HIT.out, hB2]; rfl
      clear HIT hB2
      go_wp2_with fail
      refine (rfault_lit b0 B i d 43 i _ rfl s _ HS0.out.rd).mono ?_
      rintro e u6 ⟨rfl, hr6, hf6⟩
      have HS6 : Hid (Cq w s b0 B A R d u6 i σ 43 i) := HS0.out.read hf6 hr6
      clear hr6 hf6
      unfold zeroNd Nd.val
      obtain ⟨a0, a1, a2, a3⟩ := HS6.out.box.cells
      obtain ⟨r0, r1, r2, r3⟩ := HS6.out.res.cells
      have g0 := HS6.out.res.frozen 0
      have g1 := HS6.out.res.frozen 1
      have g2 := HS6.out.res.frozen 2
      have g3 := HS6.out.res.frozen 3
      go_wp2
      refine HS6.out.ret Try.f60 rfl σ rfl rfl (fun hr hf => ?_)
      unfold RefS
      rw [HIT2.out]
      exact ⟨by decide, σ, _, _, rfl, hr, hf⟩
    | false =>
      rw [hB2] at HIT
      clear hB2
      obtain ⟨oo, cc, c0, c1, c2, c3, c4⟩ := HS0.out.rd.cells
      have hlt' : (i : Int) < (s.size : Int) := by omega
      obtain ⟨ba, hba⟩ : ∃ ba, ba = s[i].toNat := ⟨_, rfl⟩
      have hbb : byt s i = ba := by rw [hba]; exact byt_eq hlt
      have hbl : ba < 256 := by rw [hba]; exact UInt8.toNat_lt _
      rw [hbb] at HIT
      go_upto_region 8 with fail
      rw [← hba]
      clear hba c0 c1 c2 c3 c4
      go_cut [70] (fun b wx => b = .bool (sngB s i) ∧ wx = wc)
      case first =>
        go_wp2_with fail
        refine (HI1.out 45 _ HS0.out.rd).mono ?_
        rintro e ux ⟨rfl, hz⟩
        subst hz
        cases h1 : sees s (i + 1) 45 with
        | true =>
          go_wp2_with fail
          refine (HM2.out _ HS0.out.rd).mono ?_
          rintro e ux ⟨rfl, hz⟩
          subst hz
          cases h2 : decide (i + 2 < s.size) with
          | true =>
            go_wp2_with fail
            refine (HI2.out 93 _ HS0.out.rd).mono ?_
            rintro e ux ⟨rfl, hz⟩
            subst hz
            cases h3 : sees s (i + 2) 93 with
            | true =>
              have HV : Hid (sngB s i = true) := by show _ = _; unfold sngB; rw [h1, h2, h3]; rfl
              go_wp2_with fail
              go_meet
              case rel => exact ⟨by rw [HV.out], rfl⟩
            | false =>
              have HV : Hid (sngB s i = false) := by show _ = _; unfold sngB; rw [h1, h2, h3]; rfl
              go_wp2_with fail
              go_meet
              case rel => exact ⟨by rw [HV.out], rfl⟩
          | false =>
            have HV : Hid (sngB s i = true) := by show _ = _; unfold sngB; rw [h1, h2]; rfl
            go_wp2_with fail
            go_meet
            case rel => exact ⟨by rw [HV.out], rfl⟩
        | false =>
          have HV : Hid (sngB s i = true) := by show _ = _; unfold sngB; rw [h1]; rfl
          go_wp2_with fail
          go_meet
          case rel => exact ⟨by rw [HV.out], rfl⟩
      case rest =>
      obtain ⟨rfl, hwc⟩ := hcut
      subst hwc
      cases hB3 : sngB s i with
      | true =>
        have HIT2 : Hid (item s o i = .ok (Oct.has [ba]) (i + 1)) := by show _ = _; rw [HIT.out, hB3]; rfl
        clear HIT hB3
        have f1 := HS0.out.rd.frozen 1
        obtain ⟨oo, cc, c0, c1, c2, c3, c4⟩ := HS0.out.rd.cells
        have HS1 : Hid (Cq w s b0 B A R d (wc.setCell ⟨B, 1, none⟩ (.int .i64 ((i : Int) + 1))) (i + 1) σ 0 0) := HS0.out.at (i + 1)
        go_upto_region 10 with fail
        obtain ⟨u1, hu1⟩ : ∃ u1, u1 = wc.setCell ⟨B, 1, none⟩ (.int .i64 ((i : Int) + 1)) := ⟨_, rfl⟩
        rw [← hu1] at HS1 ⊢
        clear hu1 c0 c1 c2 c3 c4 f1
        obtain ⟨a0, a1, a2, a3⟩ := HS1.out.box.cells
        go_wp2_with fail
        refine (rwith_any σ ba _ hbl).mono ?_
        rintro e u2 ⟨rfl, hb2⟩
        have HS2 : Hid (Cq w s b0 B A R d u2 (i + 1) σ 0 0) := HS1.out.later hb2
        clear hb2 a0 a1 a2 a3
        unfold setV
        obtain ⟨r0, r1, r2, r3⟩ := HS2.out.res.cells
        have g0 := HS2.out.res.frozen 0
        have g1 := HS2.out.res.frozen 1
        have g2 := HS2.out.res.frozen 2
        have g3 := HS2.out.res.frozen 3
        go_wp2
        refine HS2.out.ret Try.f60 rfl (wi σ ba) rfl rfl (fun hr hf => ?_)
        unfold RefS
        rw [HIT2.out]
        exact ⟨by omega, congrArg Ending.returned (setV_congr (fun b _ => addS_one σ ba b)), hr, hf⟩
      | false =>
        rw [hB3] at HIT
        have hi2 : i + 2 < s.size := by
          unfold sngB at hB3
          simp only [Bool.or_eq_false_iff, Bool.not_eq_false', decide_eq_true_eq] at hB3
          exact hB3.2.1
        clear hB3
        obtain ⟨oo, cc, c0, c1, c2, c3, c4⟩ := HS0.out.rd.cells
        have hlt2 : (i : Int) + 2 < (s.size : Int) := by omega
        obtain ⟨bb, hbb2⟩ : ∃ bb, bb = s[i + 2].toNat := ⟨_, rfl⟩
        have hbb3 : byt s (i + 2) = bb := by rw [hbb2]; exact byt_eq hi2
        have hbl2 : bb < 256 := by rw [hbb2]; exact UInt8.toNat_lt _
        rw [hbb3] at HIT
        go_upto_region 12 with fail
        rw [← hbb2]
        clear hbb2 c0 c1 c2 c3 c4
        go_cut [110] (fun b wx => b = .bool (spnB s i) ∧ wx = wc)
        case first =>
          by_cases hab : bb < ba
          · have q0 : (bb : Int) < (ba : Int) := by omega
            have HV : Hid (spnB s i = true) := by show _ = _; unfold spnB; rw [hbb, hbb3, decide_eq_true hab]; rfl
            go_wp2_with fail
            go_meet
            case rel => exact ⟨by rw [HV.out], rfl⟩
          · have q0 : ¬ (bb : Int) < (ba : Int) := by omega
            by_cases h91 : bb = 91
            · have q1 : ((bb : Int) == 91) = true := by simp; omega
              have H91 : Hid (bb = 91) := h91
              clear h91
              go_wp2_with fail
              refine (HI3.out 58 _ HS0.out.rd).mono ?_
              rintro e ux ⟨rfl, hz⟩
              subst hz
              cases h1 : sees s (i + 3) 58 with
              | true =>
                have HV : Hid (spnB s i = true) := by show _ = _; unfold spnB; rw [hbb, hbb3, decide_eq_false hab, decide_eq_true H91.out, h1]; rfl
                go_wp2_with fail
                go_meet
                case rel => exact ⟨by rw [HV.out], rfl⟩
              | false =>
                go_wp2_with fail
                refine (HI3.out 46 _ HS0.out.rd).mono ?_
                rintro e ux ⟨rfl, hz⟩
                subst hz
                cases h2 : sees s (i + 3) 46 with
                | true =>
                  have HV : Hid (spnB s i = true) := by show _ = _; unfold spnB; rw [hbb, hbb3, decide_eq_false hab, decide_eq_true H91.out, h1, h2]; rfl
                  go_wp2_with fail
                  go_meet
                  case rel => exact ⟨by rw [HV.out], rfl⟩
                | false =>
                  go_wp2_with fail
                  refine (HI3.out 61 _ HS0.out.rd).mono ?_
                  rintro e ux ⟨rfl, hz⟩
                  subst hz
                  cases h3 : sees s (i + 3) 61 with
                  | true =>
                    have HV : Hid (spnB s i = true) := by show _ = _; unfold spnB; rw [hbb, hbb3, decide_eq_false hab, decide_eq_true H91.out, h1, h2, h3]; rfl
                    go_wp2_with fail
                    go_meet
                    case rel => exact ⟨by rw [HV.out], rfl⟩
                  | false =>
                    have HV : Hid (spnB s i = false) := by show _ = _; unfold spnB; rw [hbb, hbb3, decide_eq_false hab, decide_eq_true H91.out, h1, h2, h3]; rfl
                    go_wp2_with fail
                    go_meet
                    case rel => exact ⟨by rw [HV.out], rfl⟩
            · have q1 : ((bb : Int) == 91) = false := by simp; omega
              have HV : Hid (spnB s i = false) := by show _ = _; unfold spnB; rw [hbb, hbb3, decide_eq_false hab, decide_eq_false h91]; rfl
              go_wp2_with fail
              go_meet
              case rel => exact ⟨by rw [HV.out], rfl⟩
        case rest =>
        obtain ⟨rfl, hwc⟩ := hcut
        subst hwc
        cases hB4 : spnB s i with
        | true =>
          have HIT2 : Hid (item s o i = .bad i 43) := by show _ = _; rw [HIT.out, hB4]; rfl
          clear HIT hB4
          go_wp2_with fail
          refine (rfault_lit b0 B i d 43 i _ rfl s _ HS0.out.rd).mono ?_
          rintro e u6 ⟨rfl, hr6, hf6⟩
          have HS6 : Hid (Cq w s b0 B A R d u6 i σ 43 i) := HS0.out.read hf6 hr6
          clear hr6 hf6
          unfold zeroNd Nd.val
          obtain ⟨a0, a1, a2, a3⟩ := HS6.out.box.cells
          obtain ⟨r0, r1, r2, r3⟩ := HS6.out.res.cells
          have g0 := HS6.out.res.frozen 0
          have g1 := HS6.out.res.frozen 1
          have g2 := HS6.out.res.frozen 2
          have g3 := HS6.out.res.frozen 3
          go_wp2
          refine HS6.out.ret Try.f60 rfl σ rfl rfl (fun hr hf => ?_)
          unfold RefS
          rw [HIT2.out]
          exact ⟨by decide, σ, _, _, rfl, hr, hf⟩
        | false =>
          have HIT2 : Hid (item s o i = .ok (Oct.span ba bb) (i + 3)) := by show _ = _; rw [HIT.out, hB4]; rfl
          have hab : ba ≤ bb := by
            unfold spnB at hB4
            rw [hbb, hbb3] at hB4
            simp only [Bool.or_eq_false_iff, decide_eq_false_iff_not] at hB4
            omega
          clear HIT hB4
          have hw1 : IntKind.i64.wrap (ba : Int) = (ba : Nat) := by rw [IntKind.wrap_i64]; omega
          have hw2 : IntKind.i64.wrap (bb : Int) = (bb : Nat) := by rw [IntKind.wrap_i64]; omega
          go_wp2_with fail
          go_loopw [10] (fun v u => ∃ n : Nat, ba ≤ n ∧ n ≤ bb + 1 ∧ v = .int .i64 n ∧ Hid (Cq w s b0 B A R d u i (spTo σ ba n) 0 0)) (fun v _ => 300 - (intOf v).toNat)
          case atStart => exact ⟨ba, Nat.le_refl _, by omega, rfl, HS0.out.as (fun b _ => spTo_zero σ ba b)⟩
          case round =>
            clear HS0
            obtain ⟨n, hn1, hn2, rfl, hq⟩ := hrel
            obtain ⟨x, hx⟩ : ∃ x, x = spTo σ ba n := ⟨_, rfl⟩
            have HX : Hid (x = spTo σ ba n) := hx
            rw [← hx] at hq
            clear hx
            obtain ⟨a0, a1, a2, a3⟩ := hq.out.box.cells
            by_cases hn3 : n ≤ bb
            · have hn4 : n < 256 := by omega
              have HN5 : Hid (n + 1 ≤ bb + 1) := by show _ ≤ _; omega
              have hw3 : IntKind.u8.wrap (n : Int) = (n : Nat) := by rw [IntKind.wrap_u8]; omega
              go_wp2_with fail
              refine (rwith_any x n _ hn4).mono ?_
              rintro e w7 ⟨rfl, hb7⟩
              have HS7 : Hid (Cq w s b0 B A R d w7 i x 0 0) := hq.out.later hb7
              clear hb7 a0 a1 a2 a3
              obtain ⟨a0, a1, a2, a3⟩ := HS7.out.box.cells
              have g0 := HS7.out.box.frozen 0
              have g1 := HS7.out.box.frozen 1
              have g2 := HS7.out.box.frozen 2
              have g3 := HS7.out.box.frozen 3
              unfold setV
              go_wp2
              go_roundw
              case rel => exact ⟨n + 1, by omega, HN5.out, by go_num, (HS7.out.put (wi x n)).as (fun b _ => by rw [HX.out]; exact spTo_step σ ba n hn1 b)⟩
              case measure => simp [intOf]; omega
            · have HK : Hid (n = bb + 1) := by show n = bb + 1; omega
              have f1 := hq.out.rd.frozen 1
              obtain ⟨oo, cc, c0, c1, c2, c3, c4⟩ := hq.out.rd.cells
              have HS1 : Hid (Cq w s b0 B A R d (wr.setCell ⟨B, 1, none⟩ (.int .i64 ((i : Int) + 3))) (i + 3) x 0 0) := hq.out.at (i + 3)
              go_upto_region 20 with fail
              obtain ⟨u1, hu1⟩ : ∃ u1, u1 = wr.setCell ⟨B, 1, none⟩ (.int .i64 ((i : Int) + 3)) := ⟨_, rfl⟩
              rw [← hu1] at HS1 ⊢
              clear hu1 c0 c1 c2 c3 c4 f1 a0 a1 a2 a3
              obtain ⟨a0, a1, a2, a3⟩ := HS1.out.box.cells
              obtain ⟨r0, r1, r2, r3⟩ := HS1.out.res.cells
              have g0 := HS1.out.res.frozen 0
              have g1 := HS1.out.res.frozen 1
              have g2 := HS1.out.res.frozen 2
              have g3 := HS1.out.res.frozen 3
              go_wp2
              refine HS1.out.ret Try.f60 rfl x rfl rfl (fun hr hf => ?_)
              unfold RefS
              rw [HIT2.out]
              exact ⟨by omega, congrArg Ending.returned (setV_congr (fun b _ => by rw [HX.out, HK.out]; exact spTo_all σ ba bb b)), hr, hf⟩
end Go.Proofs.Ytlcnmfgmgiijpaa
