/- The reader's counts: count, counted, counts. -/
import Derived.Test.YtlcnmfgmgiijpaaG07
import Derived.Deep.RegionHeld3
import Derived.Deep.DrawnRows
import Derived.Deep.DeepCutAuto
namespace Go.Proofs.Ytlcnmfgmgiijpaa
open Go.RowKit
attribute [local go_sem ↓] Go.wp_at_zero Go.wp_at_succ

/-- WHAT A METHOD OF THE READER LEAVES: its answer, or its fault by a panic; all but the reader's block stands. -/
def Reads {α : Type} (w : World) (B : Nat) (s : ByteArray) (d : Nat) (r : Rs α) (V : World → α → Value → Prop) : Ending → World → Prop := fun e w' =>
  match r with
  | .ok x j => j ≤ s.size ∧ ∃ v, e = .returned v ∧ V w' x v ∧ RB w' B s j d ∧ w.grownBy w' (some B)
  | .bad a c => e = .panicked [{ v := flt a c, recovered := false }] ∧ w.grownBy w' (some B)
  | .out => False
theorem grown_refl (w : World) (r : Option Nat) : w.grownBy w r := ⟨rfl, rfl, rfl, Nat.le_refl _, fun _ _ _ => rfl⟩
theorem grown_below {w u w' : World} {r : Option Nat} (h : w.grownBy u r) (hb : Below u.heap.size u w') : w.grownBy w' r :=
  ⟨hb.os.trans h.os, hb.tape.trans h.tape, hb.output.trans h.output, Nat.le_trans h.size hb.size, fun k hk hne => (hb.block k (Nat.lt_of_lt_of_le hk h.size)).trans (h.block k hk hne)⟩
theorem grown_trans {w u w' : World} {r : Option Nat} (h : w.grownBy u r) (h2 : u.grownBy w' r) : w.grownBy w' r :=
  ⟨h2.os.trans h.os, h2.tape.trans h.tape, h2.output.trans h.output, Nat.le_trans h.size h2.size, fun k hk hne => (h2.block k (Nat.lt_of_lt_of_le hk h.size) hne).trans (h.block k hk hne)⟩
theorem grown_set (w : World) (B j : Nat) (v : Value) : w.grownBy (w.setCell ⟨B, j, none⟩ v) (some B) :=
  ⟨rfl, rfl, rfl, by simp [World.setCell], fun k _ hk => Below.heap_setCell w ⟨B, j, none⟩ v k (fun e => hk (by rw [e]))⟩
theorem RB.at {w : World} {B : Nat} {s : ByteArray} {i d : Nat} (h : RB w B s i d) (j : Nat) : RB (w.setCell ⟨B, 1, none⟩ (.int .i64 (j : Nat))) B s j d := by
  unfold RB at h ⊢
  simp only [World.setCell, Array.getElem?_modify, h]
  rfl
theorem RB.deep {w : World} {B : Nat} {s : ByteArray} {i d : Nat} (h : RB w B s i d) (j : Nat) : RB (w.setCell ⟨B, 2, none⟩ (.int .i64 (j : Nat))) B s i j := by
  unfold RB at h ⊢
  simp only [World.setCell, Array.getElem?_modify, h]
  rfl
/-- an integer's answer -/
def IntV (_ : World) (n : Nat) (v : Value) : Prop := v = .int .i64 (n : Nat)
theorem digits_bound (s : ByteArray) (f i n : Nat) : (digits s f i n).2 ≤ i + f ∧ i ≤ (digits s f i n).2 ∧ (i ≤ s.size → (digits s f i n).2 ≤ s.size) := by
  induction f generalizing i n with
  | zero => simp [digits]
  | succ f ih =>
    rw [digits]
    split
    · rename_i h
      have := ih (i + 1) (n * 10 + (byt s i - 48))
      have hlt : i < s.size := by simp [isDigit] at h; exact h.1.1
      refine ⟨by omega, by omega, fun _ => this.2.2 (by omega)⟩
    · refine ⟨by omega, by simp, fun h => h⟩
set_option maxRecDepth 4000 in
set_option maxHeartbeats 2000000 in
theorem count_any (B o i d : Nat) (s : ByteArray) (w : World) (h : RB w B s i d) (hi : i ≤ s.size) (hs : s.size ≤ 1024) : Calls Try.prog 68 #[.pointer (some ⟨B, 0, none⟩), .int .i64 (o : Nat)] w (Reads w B s d (count s o i) IntV) := by
  have HR : Hid (RB w B s i d) := h
  have HS : Hid (s.size ≤ 1024) := hs
  have HI : Hid (i ≤ s.size) := hi
  obtain ⟨c0, c1, c2⟩ := h.cells
  clear h hs
  go_enter Try.func68, Try.ntmps68
  go_wp2_with fail
  go_quiet (fail)
  have HR0 : Hid (RB (w.drewN nq) B s i d) := HR.out.later (below_drewN _ _ _)
  have HG0 : Hid (w.grownBy (w.drewN nq) (some B)) := grown_below (grown_refl _ _) (below_drewN _ _ _)
  obtain ⟨w0, hw0⟩ : ∃ w0, w0 = w.drewN nq := ⟨_, rfl⟩
  rw [← hw0] at HR0 HG0
  have HW0 : Hid (w0 = _) := hw0
  clear hw0 c0 c1 c2
  go_wp2_with fail
  rw [← HW0.out]
  clear HW0
  go_loopw [5] (fun n u => ∃ f k m : Nat, f ≤ 3 ∧ k + f = i + 3 ∧ n = .int .i64 (m : Nat) ∧ ((f = 3 → m = 0) ∧ (f = 2 → m ≤ 9) ∧ (f = 1 → m ≤ 99)) ∧ m ≤ 999 ∧ k ≤ s.size ∧ Hid (RB u B s k d) ∧ Hid (w.grownBy u (some B)) ∧ Hid (digits s f k m = digits s 3 i 0)) (fun _ u => 4000 - (intOf ((u.cell? ⟨B, 1, none⟩).getD undef)).toNat)
  case atStart => exact ⟨3, i, 0, Nat.le_refl _, rfl, rfl, ⟨by omega, by omega, by omega⟩, by omega, hi, HR0, HG0, by show _ = _; rfl⟩
  case round =>
    clear HR0 HG0
    obtain ⟨f, k, m, hf, hkf, rfl, hm0, hm, hk, hr, hg, hdg⟩ := hrel
    have hne : Nonempty (Later wr) := ⟨⟨wr, Below.refl _ _⟩⟩
    have HE : Hid (∀ u : Later wr, Calls Try.prog 40 #[.pointer (some ⟨B, 0, none⟩)] u.at_ fun e w' => e = .returned (.bool (decide (k = s.size))) ∧ Below u.at_.heap.size u.at_ w') := fun u => ended_any B k d s _ (hr.out.later u.below)
    have c0 : ∀ u : Later wr, u.at_.cell? ⟨B, 0, none⟩ = some (.string s) := fun u => (hr.out.later u.below).cells.1
    have c1 : ∀ u : Later wr, u.at_.cell? ⟨B, 1, none⟩ = some (.int .i64 (k : Nat)) := fun u => (hr.out.later u.below).cells.2.1
    have hi2 : i ≤ 1024 := Nat.le_trans hi HS.out
    have hk2 : k ≤ 1024 := Nat.le_trans hk HS.out
    have HM : Hid (4000 - (intOf ((wr.cell? ⟨B, 1, none⟩).getD undef)).toNat = 4000 - k) := by show _ = _; rw [hr.out.cells.2.1]; simp [intOf]
    by_cases hend : k = s.size
    · have HD2 : Hid ((m, k) = digits s 3 i 0) := by
        show _ = _
        rw [← hdg.out]
        cases f with
        | zero => rfl
        | succ f =>
          have : isDigit s k = false := by simp [isDigit, hend]
          rw [digits, this]; rfl
      have hend' : decide (k = s.size) = true := by simp [hend]
      rw [hend'] at HE
      clear hend' hend
      go_upto_region 2 with fail
      go_cut [46] from 11 to 67 (fun b wx => b = .bool false ∧ Hid (Below wr.heap.size wr wx))
      case first =>
        refine wp_region_later (by kernel_rfl) (by kernel_rfl) ?_
        repeat (first
          | go_big_quiet_step ((go_at_call 40; exact calls_later (HE.out _)))
          | quiet_step ((go_at_call 40; exact calls_later (HE.out _))))
        refine wpQuiet_nil ?_
        intro _ hw'
        obtain ⟨u, hw''⟩ := hw'
        subst hw''
        go_wp2_with fail
        go_meet
        case rel => exact ⟨rfl, u.below⟩
      case rest =>
      obtain ⟨rfl, kc⟩ := hcut
      obtain ⟨u1, hu1⟩ : ∃ u1, u1 = wc := ⟨_, rfl⟩
      rw [← hu1] at kc ⊢
      clear hu1
      have HR1 : Hid (RB u1 B s k d) := hr.out.later kc.out
      have HG1 : Hid (w.grownBy u1 (some B)) := grown_below hg.out kc.out
      clear kc HE c0 c1 hne
      obtain ⟨c0, c1, c2⟩ := HR1.out.cells
      have f1 := HR1.out.frozen 1
      by_cases hki : k = i
      · have HBAD : Hid (count s o i = .bad o 45) := by
          show _ = _
          unfold count
          rw [← HD2.out]
          simp [hki]
        subst hki
        go_wp2_with fail
        refine (giveUp_any o 45 _).mono ?_
        rintro e w2 ⟨rfl, k2⟩
        go_wp2
        refine ⟨rfl, ?_⟩
        unfold Reads
        rw [HBAD.out]
        exact ⟨rfl, grown_below HG1.out k2⟩
      · have HOK : Hid (count s o i = .ok m k) := by
          show _ = _
          unfold count
          rw [← HD2.out]
          simp [hki]
        have hki' : ¬ (k : Int) = (i : Int) := by omega
        go_wp2_with fail
        go_ret
        unfold Reads
        rw [HOK.out]
        exact ⟨hk, _, rfl, rfl, HR1.out, HG1.out⟩
    · have hlt : k < s.size := by omega
      have hlt' : (k : Int) < (s.size : Int) := by omega
      have hend' : decide (k = s.size) = false := by simp [hend]
      rw [hend'] at HE
      clear hend'
      by_cases hf0 : f = 0
      · have HD2 : Hid ((m, k) = digits s 3 i 0) := by
          show _ = _
          rw [← hdg.out, hf0]
          rfl
        have hge : decide ((k : Int) < (i : Int) + 3) = false := by simp; omega
        go_upto_region 2 with fail
        go_cut [46] from 11 to 67 (fun b wx => b = .bool false ∧ Hid (Below wr.heap.size wr wx))
        case first =>
          refine wp_region_later (by kernel_rfl) (by kernel_rfl) ?_
          repeat (first
            | go_big_quiet_step ((go_at_call 40; exact calls_later (HE.out _)))
            | quiet_step ((go_at_call 40; exact calls_later (HE.out _))))
          refine wpQuiet_nil ?_
          intro _ hw'
          obtain ⟨u, hw''⟩ := hw'
          subst hw''
          go_wp2_with fail
          go_meet
          case rel => exact ⟨rfl, u.below⟩
        case rest =>
        obtain ⟨rfl, kc⟩ := hcut
        obtain ⟨u1, hu1⟩ : ∃ u1, u1 = wc := ⟨_, rfl⟩
        rw [← hu1] at kc ⊢
        clear hu1
        have HR1 : Hid (RB u1 B s k d) := hr.out.later kc.out
        have HG1 : Hid (w.grownBy u1 (some B)) := grown_below hg.out kc.out
        clear kc HE c0 c1 hne
        obtain ⟨c0, c1, c2⟩ := HR1.out.cells
        have f1 := HR1.out.frozen 1
        by_cases hki : k = i
        · exact absurd hki (by omega)
        · have HOK : Hid (count s o i = .ok m k) := by
            show _ = _
            unfold count
            rw [← HD2.out]
            simp [hki]
          have hki' : ¬ (k : Int) = (i : Int) := by omega
          go_wp2_with fail
          go_ret
          unfold Reads
          rw [HOK.out]
          exact ⟨hk, _, rfl, rfl, HR1.out, HG1.out⟩
      · have hlt3 : (k : Int) < (i : Int) + 3 := by omega
        have hb := byt_eq hlt
        obtain ⟨f', rfl⟩ : ∃ f', f = f' + 1 := ⟨f - 1, by omega⟩
        have hd3 : decide ((k : Int) < (i : Int) + 3) = true := by simp; omega
        clear hlt3
        obtain ⟨b, hbb⟩ : ∃ b, b = s[k].toNat := ⟨_, rfl⟩
        have hb256 : b < 256 := by rw [hbb]; exact UInt8.toNat_lt _
        by_cases h48 : 48 ≤ s[k].toNat
        · by_cases h57 : s[k].toNat ≤ 57
          · have HDG : Hid (digits s f' (k + 1) (m * 10 + (s[k].toNat - 48)) = digits s 3 i 0) := by
              show _ = _
              rw [← hdg.out, digits]
              have : isDigit s k = true := by simp [isDigit, hb, hlt, h48, h57]
              rw [this, hb]; rfl
            clear hb
            have g1 : decide (48 ≤ s[k].toNat) = true := by simp [h48]
            have g2 : decide (s[k].toNat ≤ 57) = true := by simp [h57]
            have g3 : decide ((48 : Int) ≤ (s[k].toNat : Int)) = true := by simp; omega
            have g4 : decide ((s[k].toNat : Int) ≤ (57 : Int)) = true := by simp; omega
            go_upto_region 2 with fail
            go_cut [46] from 11 to 67 (fun b wx => b = .bool true ∧ Hid (Below wr.heap.size wr wx))
            case first =>
              refine wp_region_later (by kernel_rfl) (by kernel_rfl) ?_
              repeat (first
                | go_big_quiet_step ((go_at_call 40; exact calls_later (HE.out _)))
                | quiet_step ((go_at_call 40; exact calls_later (HE.out _))))
              refine wpQuiet_nil ?_
              intro _ hw'
              obtain ⟨u, hw''⟩ := hw'
              subst hw''
              go_wp2_with fail
              go_meet
              case rel => exact ⟨rfl, u.below⟩
            case rest =>
            obtain ⟨rfl, kc⟩ := hcut
            obtain ⟨u1, hu1⟩ : ∃ u1, u1 = wc := ⟨_, rfl⟩
            rw [← hu1] at kc ⊢
            clear hu1
            have HR1 : Hid (RB u1 B s k d) := hr.out.later kc.out
            have HG1 : Hid (w.grownBy u1 (some B)) := grown_below hg.out kc.out
            clear kc HE c0 c1 hne
            obtain ⟨c0, c1, c2⟩ := HR1.out.cells
            have f1 := HR1.out.frozen 1
            clear g1 g2 g3 g4
            have hm99 : m ≤ 99 := by obtain ⟨h1, h2, h3⟩ := hm0; by_cases e1 : f' = 0 <;> by_cases e2 : f' = 1 <;> by_cases e3 : f' = 2 <;> omega
            go_wp2_with fail
            go_quiet (fail)
            go_wp2_with fail
            have HR2 : Hid (RB ((u1.drewN nq).setCell ⟨B, 1, none⟩ (.int .i64 ((k : Int) + 1))) B s (k + 1) d) := (HR1.out.later (below_drewN _ _ _)).at (k + 1)
            refine ⟨⟨f', k + 1, m * 10 + (s[k].toNat - 48), by omega, by omega, by congr 1; omega, ?_, by omega, by omega, HR2, grown_trans (grown_below HG1.out (below_drewN _ _ _)) (grown_set _ _ _ _), HDG⟩, ?_⟩
            · obtain ⟨h1, h2, h3⟩ := hm0
              refine ⟨fun e => by omega, fun e => ?_, fun e => ?_⟩
              · have := h1 (by omega); omega
              · have := h2 (by omega); omega
            · rw [HM.out, HR2.out.cells.2.1]
              simp [intOf]
              omega
          · have g1 : decide (48 ≤ s[k].toNat) = true := by simp [h48]
            have g2 : decide (s[k].toNat ≤ 57) = false := by simp; omega
            have g3 : decide ((48 : Int) ≤ (s[k].toNat : Int)) = true := by simp; omega
            have g4 : decide ((s[k].toNat : Int) ≤ (57 : Int)) = false := by simp; omega
            have HD2 : Hid ((m, k) = digits s 3 i 0) := by
              show _ = _
              rw [← hdg.out, digits]
              have : isDigit s k = false := by simp [isDigit, hb]; omega
              rw [this]; rfl
            clear hb
            go_upto_region 2 with fail
            go_cut [46] from 11 to 67 (fun b wx => b = .bool false ∧ Hid (Below wr.heap.size wr wx))
            case first =>
              refine wp_region_later (by kernel_rfl) (by kernel_rfl) ?_
              repeat (first
                | go_big_quiet_step ((go_at_call 40; exact calls_later (HE.out _)))
                | quiet_step ((go_at_call 40; exact calls_later (HE.out _))))
              refine wpQuiet_nil ?_
              intro _ hw'
              obtain ⟨u, hw''⟩ := hw'
              subst hw''
              go_wp2_with fail
              go_meet
              case rel => exact ⟨rfl, u.below⟩
            case rest =>
            obtain ⟨rfl, kc⟩ := hcut
            obtain ⟨u1, hu1⟩ : ∃ u1, u1 = wc := ⟨_, rfl⟩
            rw [← hu1] at kc ⊢
            clear hu1
            have HR1 : Hid (RB u1 B s k d) := hr.out.later kc.out
            have HG1 : Hid (w.grownBy u1 (some B)) := grown_below hg.out kc.out
            clear kc HE c0 c1 hne
            obtain ⟨c0, c1, c2⟩ := HR1.out.cells
            have f1 := HR1.out.frozen 1
            clear g1 g2 g3 g4
            by_cases hki : k = i
            · have HBAD : Hid (count s o i = .bad o 45) := by
                show _ = _
                unfold count
                rw [← HD2.out]
                simp [hki]
              subst hki
              go_wp2_with fail
              refine (giveUp_any o 45 _).mono ?_
              rintro e w2 ⟨rfl, k2⟩
              go_wp2
              refine ⟨rfl, ?_⟩
              unfold Reads
              rw [HBAD.out]
              exact ⟨rfl, grown_below HG1.out k2⟩
            · have HOK : Hid (count s o i = .ok m k) := by
                show _ = _
                unfold count
                rw [← HD2.out]
                simp [hki]
              have hki' : ¬ (k : Int) = (i : Int) := by omega
              go_wp2_with fail
              go_ret
              unfold Reads
              rw [HOK.out]
              exact ⟨hk, _, rfl, rfl, HR1.out, HG1.out⟩
        · have g1 : decide (48 ≤ s[k].toNat) = false := by simp; omega
          have g3 : decide ((48 : Int) ≤ (s[k].toNat : Int)) = false := by simp; omega
          have HD2 : Hid ((m, k) = digits s 3 i 0) := by
            show _ = _
            rw [← hdg.out, digits]
            have : isDigit s k = false := by simp [isDigit, hb]; omega
            rw [this]; rfl
          clear hb
          go_upto_region 2 with fail
          go_cut [46] from 11 to 67 (fun b wx => b = .bool false ∧ Hid (Below wr.heap.size wr wx))
          case first =>
            refine wp_region_later (by kernel_rfl) (by kernel_rfl) ?_
            repeat (first
              | go_big_quiet_step ((go_at_call 40; exact calls_later (HE.out _)))
              | quiet_step ((go_at_call 40; exact calls_later (HE.out _))))
            refine wpQuiet_nil ?_
            intro _ hw'
            obtain ⟨u, hw''⟩ := hw'
            subst hw''
            go_wp2_with fail
            go_meet
            case rel => exact ⟨rfl, u.below⟩
          case rest =>
          obtain ⟨rfl, kc⟩ := hcut
          obtain ⟨u1, hu1⟩ : ∃ u1, u1 = wc := ⟨_, rfl⟩
          rw [← hu1] at kc ⊢
          clear hu1
          have HR1 : Hid (RB u1 B s k d) := hr.out.later kc.out
          have HG1 : Hid (w.grownBy u1 (some B)) := grown_below hg.out kc.out
          clear kc HE c0 c1 hne
          obtain ⟨c0, c1, c2⟩ := HR1.out.cells
          have f1 := HR1.out.frozen 1
          clear g1 g3
          by_cases hki : k = i
          · have HBAD : Hid (count s o i = .bad o 45) := by
              show _ = _
              unfold count
              rw [← HD2.out]
              simp [hki]
            subst hki
            go_wp2_with fail
            refine (giveUp_any o 45 _).mono ?_
            rintro e w2 ⟨rfl, k2⟩
            go_wp2
            refine ⟨rfl, ?_⟩
            unfold Reads
            rw [HBAD.out]
            exact ⟨rfl, grown_below HG1.out k2⟩
          · have HOK : Hid (count s o i = .ok m k) := by
              show _ = _
              unfold count
              rw [← HD2.out]
              simp [hki]
            have hki' : ¬ (k : Int) = (i : Int) := by omega
            go_wp2_with fail
            go_ret
            unfold Reads
            rw [HOK.out]
            exact ⟨hk, _, rfl, rfl, HR1.out, HG1.out⟩
end Go.Proofs.Ytlcnmfgmgiijpaa

/- The reader's counted, counts. -/
namespace Go.Proofs.Ytlcnmfgmgiijpaa
open Go.RowKit
attribute [local go_sem ↓] Go.wp_at_zero Go.wp_at_succ

theorem counted_any (l m : Int) (w : World) : Calls Try.prog 43 #[.int .i64 l, .int .i64 m] w fun e w' => e = .returned (.bool (counted l m)) ∧ w' = w := by
  by_cases h1 : 0 ≤ l <;> by_cases h2 : l ≤ 255 <;> by_cases h3 : m = -1 <;> by_cases h4 : l ≤ m <;> by_cases h5 : m ≤ 255 <;>
    (go_enter Try.func43, Try.ntmps43
     go_wp2
     go_ret
     exact ⟨ret_bool (by rw [Bool.eq_iff_iff]; simp [counted]; omega), rfl⟩)
/-- two integers' answer -/
def IntsV (_ : World) (x : Int × Int) (v : Value) : Prop := v = .tuple #[.int .i64 x.1, .int .i64 x.2]
theorem count_ok_le {s : ByteArray} {o i n j : Nat} (h : count s o i = .ok n j) : n ≤ 999 ∧ i ≤ j := by
  unfold count at h
  split at h
  · cases h
  · rename_i hne
    cases h
    refine ⟨?_, (digits_bound s 3 i 0).2.1⟩
    have hd : ∀ i : Nat, isDigit s i = true → byt s i - 48 ≤ 9 := fun i h => by simp [isDigit] at h; omega
    have e3 : digits s 3 i 0 = if isDigit s i then digits s 2 (i + 1) (0 * 10 + (byt s i - 48)) else (0, i) := rfl
    rw [e3]
    split
    · rename_i h0
      have b0 := hd i h0
      have e2 : ∀ n, digits s 2 (i + 1) n = if isDigit s (i + 1) then digits s 1 (i + 1 + 1) (n * 10 + (byt s (i + 1) - 48)) else (n, i + 1) := fun n => rfl
      rw [e2]
      split
      · rename_i h1
        have b1 := hd (i + 1) h1
        have e1 : ∀ n, digits s 1 (i + 1 + 1) n = if isDigit s (i + 1 + 1) then (n * 10 + (byt s (i + 1 + 1) - 48), i + 1 + 1 + 1) else (n, i + 1 + 1) := fun n => rfl
        rw [e1]
        split
        · rename_i h2
          have b2 := hd (i + 1 + 1) h2
          simp
          omega
        · simp
          omega
      · simp
        omega
    · simp
set_option maxRecDepth 4000 in
set_option maxHeartbeats 2000000 in
theorem counts_any (B i d : Nat) (s : ByteArray) (w : World) (h : RB w B s i d) (hi : i < s.size) (hs : s.size ≤ 1024) : Calls Try.prog 61 #[.pointer (some ⟨B, 0, none⟩)] w (Reads w B s d (counts s i) IntsV) := by
  have HR : Hid (RB w B s i d) := h
  obtain ⟨c0, c1, c2⟩ := h.cells
  have f1 := h.frozen 1
  have hi1 : i ≤ 1024 := by omega
  clear h
  go_enter Try.func61, Try.ntmps61
  go_wp2_with fail
  have HR1 : Hid (RB (w.setCell ⟨B, 1, none⟩ (.int .i64 ((i : Int) + 1))) B s (i + 1) d) := HR.out.at (i + 1)
  have HG1 : Hid (w.grownBy (w.setCell ⟨B, 1, none⟩ (.int .i64 ((i : Int) + 1))) (some B)) := grown_set _ _ _ _
  obtain ⟨w1, hw1⟩ : ∃ w1, w1 = w.setCell ⟨B, 1, none⟩ (.int .i64 ((i : Int) + 1)) := ⟨_, rfl⟩
  rw [← hw1] at HR1 HG1 ⊢
  clear hw1 c0 c1 c2 f1 HR
  refine (count_any B i (i + 1) d s w1 HR1.out (by omega) hs).mono ?_
  intro e w2 h2
  cases hc : count s i (i + 1) with
  | out => rw [hc] at h2; exact h2.elim
  | bad a c =>
    rw [hc] at h2
    obtain ⟨rfl, hg2⟩ := h2
    have HC : Hid (counts s i = .bad a c) := by show _ = _; unfold counts; rw [hc]
    have HG2 : Hid (w.grownBy w2 (some B)) := grown_trans HG1.out hg2
    clear hc hg2
    go_wp2
    refine ⟨rfl, ?_⟩
    unfold Reads
    rw [HC.out]
    exact ⟨rfl, HG2.out⟩
  | ok l j =>
    rw [hc] at h2
    obtain ⟨hj, v, rfl, rfl, hr2, hg2⟩ := h2
    have hlj := count_ok_le hc
    have HC : Hid (count s i (i + 1) = .ok l j) := hc
    have HR2 : Hid (RB w2 B s j d) := hr2
    have HG2 : Hid (w.grownBy w2 (some B)) := grown_trans HG1.out hg2
    obtain ⟨hl9, hjl⟩ := hlj
    clear hc hr2 hg2 HR1 HG1
    go_wp2_with fail
    refine (sees_any B j d 44 s w2 HR2.out hj).mono ?_
    rintro e w3 ⟨rfl, k3⟩
    have HR3 : Hid (RB w3 B s j d) := HR2.out.later k3
    have HG3 : Hid (w.grownBy w3 (some B)) := grown_below HG2.out k3
    clear k3 HR2 HG2
    cases h44 : sees s j 44 with
    | false =>
      have HCS : Hid (counts s i = countsEnd s i (l : Nat) (l : Nat) j) := by show _ = _; unfold counts; rw [HC.out]; simp [h44]
      have hjj := hj
      have HRw3 := HR3
      have HGw3 := HG3
      clear h44 HR3 HG3
      go_wp2_with fail
      refine (sees_any B j d 125 s w3 HRw3.out hjj).mono ?_
      rintro e w6 ⟨rfl, k6⟩
      have HR6 : Hid (RB w6 B s j d) := HRw3.out.later k6
      have HG6 : Hid (w.grownBy w6 (some B)) := grown_below HGw3.out k6
      clear k6 HRw3 HGw3
      cases h1 : sees s j 125 with
      | false =>
        have HCE : Hid (counts s i = .bad i 45) := by show _ = _; rw [HCS.out]; simp [countsEnd, h1]
        clear h1
        go_wp2_with fail
        refine (giveUp_any i 45 _).mono ?_
        rintro e w7 ⟨rfl, k7⟩
        go_wp2
        refine ⟨rfl, ?_⟩
        unfold Reads
        rw [HCE.out]
        exact ⟨rfl, grown_below HG6.out k7⟩
      | true =>
        have H1 : Hid (sees s j 125 = true) := h1
        clear h1
        go_wp2_with fail
        refine (counted_any (l : Nat) (l : Nat) _).mono ?_
        rintro e w7 ⟨rfl, rfl⟩
        cases h2 : counted (l : Nat) (l : Nat) with
        | false =>
          have HCE : Hid (counts s i = .bad i 45) := by show _ = _; rw [HCS.out]; simp [countsEnd, H1.out, h2]
          clear h2
          go_wp2_with fail
          refine (giveUp_any i 45 _).mono ?_
          rintro e w8 ⟨rfl, k8⟩
          go_wp2
          refine ⟨rfl, ?_⟩
          unfold Reads
          rw [HCE.out]
          exact ⟨rfl, grown_below HG6.out k8⟩
        | true =>
          have HCE : Hid (counts s i = .ok ((l : Nat), (l : Nat)) j) := by show _ = _; rw [HCS.out]; simp [countsEnd, H1.out, h2]
          clear h2
          go_wp2
          go_ret2
          unfold Reads
          rw [HCE.out]
          exact ⟨hjj, _, rfl, rfl, HR6.out, HG6.out⟩
    | true =>
      have hjlt : j < s.size := by unfold sees at h44; simp at h44; exact h44.1
      have H44 : Hid (sees s j 44 = true) := h44
      obtain ⟨c0, c1, c2⟩ := HR3.out.cells
      have f1 := HR3.out.frozen 1
      have hj1 : j ≤ 1024 := by omega
      clear h44
      have HR4 : Hid (RB (w3.setCell ⟨B, 1, none⟩ (.int .i64 ((j : Int) + 1))) B s (j + 1) d) := HR3.out.at (j + 1)
      have HG4 : Hid (w.grownBy (w3.setCell ⟨B, 1, none⟩ (.int .i64 ((j : Int) + 1))) (some B)) := grown_trans HG3.out (grown_set _ _ _ _)
      go_wp2_with fail
      obtain ⟨w4, hw4⟩ : ∃ w4, w4 = w3.setCell ⟨B, 1, none⟩ (.int .i64 ((j : Int) + 1)) := ⟨_, rfl⟩
      rw [← hw4] at HR4 HG4 ⊢
      clear hw4 c0 c1 c2 f1 HR3 HG3
      refine (sees_any B (j + 1) d 125 s w4 HR4.out (by omega)).mono ?_
      rintro e w5 ⟨rfl, k5⟩
      have HRw5 : Hid (RB w5 B s (j + 1) d) := HR4.out.later k5
      have HGw5 : Hid (w.grownBy w5 (some B)) := grown_below HG4.out k5
      clear k5 HR4 HG4
      cases h125 : sees s (j + 1) 125 with
      | true =>
        have HCS : Hid (counts s i = countsEnd s i (l : Nat) (-1) (j + 1)) := by show _ = _; unfold counts; rw [HC.out]; simp [H44.out, h125]
        have hjj : j + 1 ≤ s.size := by omega
        clear h125
        go_wp2_with fail
        refine (sees_any B (j + 1) d 125 s w5 HRw5.out hjj).mono ?_
        rintro e w6 ⟨rfl, k6⟩
        have HR6 : Hid (RB w6 B s (j + 1) d) := HRw5.out.later k6
        have HG6 : Hid (w.grownBy w6 (some B)) := grown_below HGw5.out k6
        clear k6 HRw5 HGw5
        cases h1 : sees s (j + 1) 125 with
        | false =>
          have HCE : Hid (counts s i = .bad i 45) := by show _ = _; rw [HCS.out]; simp [countsEnd, h1]
          clear h1
          go_wp2_with fail
          refine (giveUp_any i 45 _).mono ?_
          rintro e w7 ⟨rfl, k7⟩
          go_wp2
          refine ⟨rfl, ?_⟩
          unfold Reads
          rw [HCE.out]
          exact ⟨rfl, grown_below HG6.out k7⟩
        | true =>
          have H1 : Hid (sees s (j + 1) 125 = true) := h1
          clear h1
          go_wp2_with fail
          refine (counted_any (l : Nat) (-1) _).mono ?_
          rintro e w7 ⟨rfl, rfl⟩
          cases h2 : counted (l : Nat) (-1) with
          | false =>
            have HCE : Hid (counts s i = .bad i 45) := by show _ = _; rw [HCS.out]; simp [countsEnd, H1.out, h2]
            clear h2
            go_wp2_with fail
            refine (giveUp_any i 45 _).mono ?_
            rintro e w8 ⟨rfl, k8⟩
            go_wp2
            refine ⟨rfl, ?_⟩
            unfold Reads
            rw [HCE.out]
            exact ⟨rfl, grown_below HG6.out k8⟩
          | true =>
            have HCE : Hid (counts s i = .ok ((l : Nat), (-1)) (j + 1)) := by show _ = _; rw [HCS.out]; simp [countsEnd, H1.out, h2]
            clear h2
            go_wp2
            go_ret2
            unfold Reads
            rw [HCE.out]
            exact ⟨hjj, _, rfl, rfl, HR6.out, HG6.out⟩
      | false =>
        have H125 : Hid (sees s (j + 1) 125 = false) := h125
        clear h125
        go_wp2_with fail
        refine (count_any B i (j + 1) d s w5 HRw5.out (by omega) hs).mono ?_
        intro e w9 h9
        cases hc : count s i (j + 1) with
        | out => rw [hc] at h9; exact h9.elim
        | bad a c =>
          rw [hc] at h9
          obtain ⟨rfl, hg9⟩ := h9
          have HCE : Hid (counts s i = .bad a c) := by show _ = _; unfold counts; rw [HC.out]; simp [H44.out, H125.out, hc]
          have HG9 : Hid (w.grownBy w9 (some B)) := grown_trans HGw5.out hg9
          clear hc hg9
          go_wp2
          refine ⟨rfl, ?_⟩
          unfold Reads
          rw [HCE.out]
          exact ⟨rfl, HG9.out⟩
        | ok m k =>
          rw [hc] at h9
          obtain ⟨hjj, v, rfl, rfl, hr9, hg9⟩ := h9
          have HCS : Hid (counts s i = countsEnd s i (l : Nat) (m : Nat) k) := by show _ = _; unfold counts; rw [HC.out]; simp [H44.out, H125.out, hc]
          have HRw9 : Hid (RB w9 B s k d) := hr9
          have HGw9 : Hid (w.grownBy w9 (some B)) := grown_trans HGw5.out hg9
          clear hc hr9 hg9 HRw5 HGw5
          go_wp2_with fail
          refine (sees_any B k d 125 s w9 HRw9.out hjj).mono ?_
          rintro e w6 ⟨rfl, k6⟩
          have HR6 : Hid (RB w6 B s k d) := HRw9.out.later k6
          have HG6 : Hid (w.grownBy w6 (some B)) := grown_below HGw9.out k6
          clear k6 HRw9 HGw9
          cases h1 : sees s k 125 with
          | false =>
            have HCE : Hid (counts s i = .bad i 45) := by show _ = _; rw [HCS.out]; simp [countsEnd, h1]
            clear h1
            go_wp2_with fail
            refine (giveUp_any i 45 _).mono ?_
            rintro e w7 ⟨rfl, k7⟩
            go_wp2
            refine ⟨rfl, ?_⟩
            unfold Reads
            rw [HCE.out]
            exact ⟨rfl, grown_below HG6.out k7⟩
          | true =>
            have H1 : Hid (sees s k 125 = true) := h1
            clear h1
            go_wp2_with fail
            refine (counted_any (l : Nat) (m : Nat) _).mono ?_
            rintro e w7 ⟨rfl, rfl⟩
            cases h2 : counted (l : Nat) (m : Nat) with
            | false =>
              have HCE : Hid (counts s i = .bad i 45) := by show _ = _; rw [HCS.out]; simp [countsEnd, H1.out, h2]
              clear h2
              go_wp2_with fail
              refine (giveUp_any i 45 _).mono ?_
              rintro e w8 ⟨rfl, k8⟩
              go_wp2
              refine ⟨rfl, ?_⟩
              unfold Reads
              rw [HCE.out]
              exact ⟨rfl, grown_below HG6.out k8⟩
            | true =>
              have HCE : Hid (counts s i = .ok ((l : Nat), (m : Nat)) k) := by show _ = _; rw [HCS.out]; simp [countsEnd, H1.out, h2]
              clear h2
              go_wp2
              go_ret2
              unfold Reads
              rw [HCE.out]
              exact ⟨hjj, _, rfl, rfl, HR6.out, HG6.out⟩
end Go.Proofs.Ytlcnmfgmgiijpaa
