/- The reader's counts: count, counted, counts. -/
import Derived.Test.YtjmbimgofceanaaG06
import Derived.Deep.RegionHeld3
import Derived.Deep.DrawnRows
import Derived.Deep.DeepCutAuto
namespace Go.Proofs.Ytjmbimgofceanaa
open Go.RowKit
attribute [local go_sem ↓] Go.wp_at_zero Go.wp_at_succ

/-- WHAT A METHOD OF THE READER LEAVES: its answer, or its fault by a panic; all but the reader's block stands. -/
def Reads {α : Type} (w : World) (B : Nat) (s : ByteArray) (d : Nat) (r : Rs α) (V : World → α → Value → Prop) : Ending → World → Prop := fun e w' =>
  match r with
  | .ok x j => j ≤ s.size ∧ ∃ v, e = .returned v ∧ V w' x v ∧ RB w' B s j d ∧ w.grownBy w' (some B)
  | .bad a c => e = .panicked [{ v := flt a c, recovered := false }] ∧ w.grownBy w' (some B)
  | .out => False
theorem grown_refl (w : World) (r : Option Nat) : w.grownBy w r := ⟨rfl, rfl, rfl, Nat.le_refl _, fun _ _ _ => rfl⟩
theorem grown_below {w u w' : World} {r : Option Nat} (h : w.grownBy u r) (hb : Below u.heap.size u w') : w.grownBy w' r :=
  ⟨hb.os.trans h.os, hb.tape.trans h.tape, hb.output.trans h.output, Nat.le_trans h.size hb.size, fun k hk hne => (hb.block k (Nat.lt_of_lt_of_le hk h.size)).trans (h.block k hk hne)⟩
theorem grown_trans {w u w' : World} {r : Option Nat} (h : w.grownBy u r) (h2 : u.grownBy w' r) : w.grownBy w' r :=
  ⟨h2.os.trans h.os, h2.tape.trans h.tape, h2.output.trans h.output, Nat.le_trans h.size h2.size, fun k hk hne => (h2.block k (Nat.lt_of_lt_of_le hk h.size) hne).trans (h.block k hk hne)⟩
theorem grown_set (w : World) (B j : Nat) (v : Value) : w.grownBy (w.setCell ⟨B, j, none⟩ v) (some B) :=
  ⟨rfl, rfl, rfl, by simp [World.setCell], fun k _ hk => Below.heap_setCell w ⟨B, j, none⟩ v k (fun e => hk (by rw [e]))⟩
theorem RB.at {w : World} {B : Nat} {s : ByteArray} {i d : Nat} (h : RB w B s i d) (j : Nat) : RB (w.setCell ⟨B, 1, none⟩ (.int .i64 (j : Nat))) B s j d := by
  unfold RB at h ⊢
  simp only [World.setCell, Array.getElem?_modify, h]
  rfl
theorem RB.deep {w : World} {B : Nat} {s : ByteArray} {i d : Nat} (h : RB w B s i d) (j : Nat) : RB (w.setCell ⟨B, 2, none⟩ (.int .i64 (j : Nat))) B s i j := by
  unfold RB at h ⊢
  simp only [World.setCell, Array.getElem?_modify, h]
  rfl
/-- an integer's answer -/
def IntV (_ : World) (n : Nat) (v : Value) : Prop := v = .int .i64 (n : Nat)
theorem digits_bound (s : ByteArray) (f i n : Nat) : (digits s f i n).2 ≤ i + f ∧ i ≤ (digits s f i n).2 ∧ (i ≤ s.size → (digits s f i n).2 ≤ s.size) := by
  induction f generalizing i n with
  | zero => simp [digits]
  | succ f ih =>
    rw [digits]
    split
    · rename_i h
      have := ih (i + 1) (n * 10 + (byt s i - 48))
      have hlt : i < s.size := by simp [isDigit] at h; exact h.1.1
      refine ⟨by omega, by omega, fun _ => this.2.2 (by omega)⟩
    · refine ⟨by omega, by simp, fun h => h⟩
set_option maxRecDepth 4000 in
set_option maxHeartbeats 2000000 in
theorem count_any (B o i d : Nat) (s : ByteArray) (w : World) (h : RB w B s i d) (hi : i ≤ s.size) (hs : s.size ≤ 1024) : Calls Try.prog 90 #[.pointer (some ⟨B, 0, none⟩), .int .i64 (o : Nat)] w (Reads w B s d (count s o i) IntV) := by
  have HR : Hid (RB w B s i d) := h
  have HS : Hid (s.size ≤ 1024) := hs
  have HI : Hid (i ≤ s.size) := hi
  obtain ⟨c0, c1, c2⟩ := h.cells
  clear h hs
  go_enter Try.func90, Try.ntmps90
  go_wp2_with fail
  go_quiet (fail)
  have HR0 : Hid (RB (w.drewN nq) B s i d) := HR.out.later (below_drewN _ _ _)
  have HG0 : Hid (w.grownBy (w.drewN nq) (some B)) := grown_below (grown_refl _ _) (below_drewN _ _ _)
  obtain ⟨w0, hw0⟩ : ∃ w0, w0 = w.drewN nq := ⟨_, rfl⟩
  rw [← hw0] at HR0 HG0
  have HW0 : Hid (w0 = _) := hw0
  clear hw0 c0 c1 c2
  go_wp2_with fail
  rw [← HW0.out]
  clear HW0
  go_loopw [5] (fun n u => ∃ f k m : Nat, f ≤ 3 ∧ k + f = i + 3 ∧ n = .int .i64 (m : Nat) ∧ ((f = 3 → m = 0) ∧ (f = 2 → m ≤ 9) ∧ (f = 1 → m ≤ 99)) ∧ m ≤ 999 ∧ k ≤ s.size ∧ Hid (RB u B s k d) ∧ Hid (w.grownBy u (some B)) ∧ Hid (digits s f k m = digits s 3 i 0)) (fun _ u => 4000 - (intOf ((u.cell? ⟨B, 1, none⟩).getD undef)).toNat)
  case atStart => exact ⟨3, i, 0, Nat.le_refl _, rfl, rfl, ⟨by omega, by omega, by omega⟩, by omega, hi, HR0, HG0, by show _ = _; rfl⟩
  case round =>
    clear HR0 HG0
    obtain ⟨f, k, m, hf, hkf, rfl, hm0, hm, hk, hr, hg, hdg⟩ := hrel
    have hne : Nonempty (Later wr) := ⟨⟨wr, Below.refl _ _⟩⟩
    have HE : Hid (∀ u : Later wr, Calls Try.prog 66 #[.pointer (some ⟨B, 0, none⟩)] u.at_ fun e w' => e = .returned (.bool (decide (k = s.size))) ∧ Below u.at_.heap.size u.at_ w') := fun u => ended_any B k d s _ (hr.out.later u.below)
    have c0 : ∀ u : Later wr, u.at_.cell? ⟨B, 0, none⟩ = some (.string s) := fun u => (hr.out.later u.below).cells.1
    have c1 : ∀ u : Later wr, u.at_.cell? ⟨B, 1, none⟩ = some (.int .i64 (k : Nat)) := fun u => (hr.out.later u.below).cells.2.1
    have hi2 : i ≤ 1024 := Nat.le_trans hi HS.out
    have hk2 : k ≤ 1024 := Nat.le_trans hk HS.out
    have HM : Hid (4000 - (intOf ((wr.cell? ⟨B, 1, none⟩).getD undef)).toNat = 4000 - k) := by show _ = _; rw [hr.out.cells.2.1]; simp [intOf]
    by_cases hend : k = s.size
    · have HD2 : Hid ((m, k) = digits s 3 i 0) := by
        show _ = _
        rw [← hdg.out]
        cases f with
        | zero => rfl
        | succ f =>
          have : isDigit s k = false := by simp [isDigit, hend]
          rw [digits, this]; rfl
      have hend' : decide (k = s.size) = true := by simp [hend]
      rw [hend'] at HE
      clear hend' hend
      go_upto_region 2 with fail
      go_cut [46] from 11 to 67 (fun b wx => b = .bool false ∧ Hid (Below wr.heap.size wr wx))
      case first =>
        refine wp_region_later (by kernel_rfl) (by kernel_rfl) ?_
        repeat (first
          | go_big_quiet_step ((go_at_call 66; exact calls_later (HE.out _)))
          | quiet_step ((go_at_call 66; exact calls_later (HE.out _))))
        refine wpQuiet_nil ?_
        intro _ hw'
        obtain ⟨u, hw''⟩ := hw'
        subst hw''
        go_wp2_with fail
        go_meet
        case rel => exact ⟨rfl, u.below⟩
      case rest =>
      obtain ⟨rfl, kc⟩ := hcut
      obtain ⟨u1, hu1⟩ : ∃ u1, u1 = wc := ⟨_, rfl⟩
      rw [← hu1] at kc ⊢
      clear hu1
      have HR1 : Hid (RB u1 B s k d) := hr.out.later kc.out
      have HG1 : Hid (w.grownBy u1 (some B)) := grown_below hg.out kc.out
      clear kc HE c0 c1 hne
      obtain ⟨c0, c1, c2⟩ := HR1.out.cells
      have f1 := HR1.out.frozen 1
      by_cases hki : k = i
      · have HBAD : Hid (count s o i = .bad o 45) := by
          show _ = _
          unfold count
          rw [← HD2.out]
          simp [hki]
        subst hki
        go_wp2_with fail
        refine (giveUp_any o 45 _).mono ?_
        rintro e w2 ⟨rfl, k2⟩
        go_wp2
        refine ⟨rfl, ?_⟩
        unfold Reads
        rw [HBAD.out]
        exact ⟨rfl, grown_below HG1.out k2⟩
      · have HOK : Hid (count s o i = .ok m k) := by
          show _ = _
          unfold count
          rw [← HD2.out]
          simp [hki]
        have hki' : ¬ (k : Int) = (i : Int) := by omega
        go_wp2_with fail
        go_ret
        unfold Reads
        rw [HOK.out]
        exact ⟨hk, _, rfl, rfl, HR1.out, HG1.out⟩
    · have hlt : k < s.size := by omega
      have hlt' : (k : Int) < (s.size : Int) := by omega
      have hend' : decide (k = s.size) = false := by simp [hend]
      rw [hend'] at HE
      clear hend'
      by_cases hf0 : f = 0
      · have HD2 : Hid ((m, k) = digits s 3 i 0) := by
          show _ = _
          rw [← hdg.out, hf0]
          rfl
        have hge : decide ((k : Int) < (i : Int) + 3) = false := by simp; omega
        go_upto_region 2 with fail
        go_cut [46] from 11 to 67 (fun b wx => b = .bool false ∧ Hid (Below wr.heap.size wr wx))
        case first =>
          refine wp_region_later (by kernel_rfl) (by kernel_rfl) ?_
          repeat (first
            | go_big_quiet_step ((go_at_call 66; exact calls_later (HE.out _)))
            | quiet_step ((go_at_call 66; exact calls_later (HE.out _))))
          refine wpQuiet_nil ?_
          intro _ hw'
          obtain ⟨u, hw''⟩ := hw'
          subst hw''
          go_wp2_with fail
          go_meet
          case rel => exact ⟨rfl, u.below⟩
        case rest =>
        obtain ⟨rfl, kc⟩ := hcut
        obtain ⟨u1, hu1⟩ : ∃ u1, u1 = wc := ⟨_, rfl⟩
        rw [← hu1] at kc ⊢
        clear hu1
        have HR1 : Hid (RB u1 B s k d) := hr.out.later kc.out
        have HG1 : Hid (w.grownBy u1 (some B)) := grown_below hg.out kc.out
        clear kc HE c0 c1 hne
        obtain ⟨c0, c1, c2⟩ := HR1.out.cells
        have f1 := HR1.out.frozen 1
        by_cases hki : k = i
        · exact absurd hki (by omega)
        · have HOK : Hid (count s o i = .ok m k) := by
            show _ = _
            unfold count
            rw [← HD2.out]
            simp [hki]
          have hki' : ¬ (k : Int) = (i : Int) := by omega
          go_wp2_with fail
          go_ret
          unfold Reads
          rw [HOK.out]
          exact ⟨hk, _, rfl, rfl, HR1.out, HG1.out⟩
      · have hlt3 : (k : Int) < (i : Int) + 3 := by omega
        have hb := byt_eq hlt
        obtain ⟨f', rfl⟩ : ∃ f', f = f' + 1 := ⟨f - 1, by omega⟩
        have hd3 : decide ((k : Int) < (i : Int) + 3) = true := by simp; omega
        clear hlt3
        obtain ⟨b, hbb⟩ : ∃ b, b = s[k].toNat := ⟨_, rfl⟩
        have hb256 : b < 256 := by rw [hbb]; exact UInt8.toNat_lt _
        by_cases h48 : 48 ≤ s[k].toNat
        · by_cases h57 : s[k].toNat ≤ 57
          · have HDG : Hid (digits s f' (k + 1) (m * 10 + (s[k].toNat - 48)) = digits s 3 i 0) := by
              show _ = _
              rw [← hdg.out, digits]
              have : isDigit s k = true := by simp [isDigit, hb, hlt, h48, h57]
              rw [this, hb]; rfl
            clear hb
            have g1 : decide (48 ≤ s[k].toNat) = true := by simp [h48]
            have g2 : decide (s[k].toNat ≤ 57) = true := by simp [h57]
            have g3 : decide ((48 : Int) ≤ (s[k].toNat : Int)) = true := by simp; omega
            have g4 : decide ((s[k].toNat : Int) ≤ (57 : Int)) = true := by simp; omega
            go_upto_region 2 with fail
            go_cut [46] from 11 to 67 (fun b wx => b = .bool true ∧ Hid (Below wr.heap.size wr wx))
            case first =>
              refine wp_region_later (by kernel_rfl) (by kernel_rfl) ?_
              repeat (first
                | go_big_quiet_step ((go_at_call 66; exact calls_later (HE.out _)))
                | quiet_step ((go_at_call 66; exact calls_later (HE.out _))))
              refine wpQuiet_nil ?_
              intro _ hw'
              obtain ⟨u, hw''⟩ := hw'
              subst hw''
              go_wp2_with fail
              go_meet
              case rel => exact ⟨rfl, u.below⟩
            case rest =>
            obtain ⟨rfl, kc⟩ := hcut
            obtain ⟨u1, hu1⟩ : ∃ u1, u1 = wc := ⟨_, rfl⟩
            rw [← hu1] at kc ⊢
            clear hu1
            have HR1 : Hid (RB u1 B s k d) := hr.out.later kc.out
            have HG1 : Hid (w.grownBy u1 (some B)) := grown_below hg.out kc.out
            clear kc HE c0 c1 hne
            obtain ⟨c0, c1, c2⟩ := HR1.out.cells
            have f1 := HR1.out.frozen 1
            clear g1 g2 g3 g4
            have hm99 : m ≤ 99 := by obtain ⟨h1, h2, h3⟩ := hm0; by_cases e1 : f' = 0 <;> by_cases e2 : f' = 1 <;> by_cases e3 : f' = 2 <;> omega
            go_wp2_with fail
            go_quiet (fail)
            go_wp2_with fail
            have HR2 : Hid (RB ((u1.drewN nq).setCell ⟨B, 1, none⟩ (.int .i64 ((k : Int) + 1))) B s (k + 1) d) := (HR1.out.later (below_drewN _ _ _)).at (k + 1)
            refine ⟨⟨f', k + 1, m * 10 + (s[k].toNat - 48), by omega, by omega, by congr 1; omega, ?_, by omega, by omega, HR2, grown_trans (grown_below HG1.out (below_drewN _ _ _)) (grown_set _ _ _ _), HDG⟩, ?_⟩
            · obtain ⟨h1, h2, h3⟩ := hm0
              refine ⟨fun e => by omega, fun e => ?_, fun e => ?_⟩
              · have := h1 (by omega); omega
              · have := h2 (by omega); omega
            · rw [HM.out, HR2.out.cells.2.1]
              simp [intOf]
              omega
          · have g1 : decide (48 ≤ s[k].toNat) = true := by simp [h48]
            have g2 : decide (s[k].toNat ≤ 57) = false := by simp; omega
            have g3 : decide ((48 : Int) ≤ (s[k].toNat : Int)) = true := by simp; omega
            have g4 : decide ((s[k].toNat : Int) ≤ (57 : Int)) = false := by simp; omega
            have HD2 : Hid ((m, k) = digits s 3 i 0) := by
              show _ = _
              rw [← hdg.out, digits]
              have : isDigit s k = false := by simp [isDigit, hb]; omega
              rw [this]; rfl
            clear hb
            go_upto_region 2 with fail
            go_cut [46] from 11 to 67 (fun b wx => b = .bool false ∧ Hid (Below wr.heap.size wr wx))
            case first =>
              refine wp_region_later (by kernel_rfl) (by kernel_rfl) ?_
              repeat (first
                | go_big_quiet_step ((go_at_call 66; exact calls_later (HE.out _)))
                | quiet_step ((go_at_call 66; exact calls_later (HE.out _))))
              refine wpQuiet_nil ?_
              intro _ hw'
              obtain ⟨u, hw''⟩ := hw'
              subst hw''
              go_wp2_with fail
              go_meet
              case rel => exact ⟨rfl, u.below⟩
            case rest =>
            obtain ⟨rfl, kc⟩ := hcut
            obtain ⟨u1, hu1⟩ : ∃ u1, u1 = wc := ⟨_, rfl⟩
            rw [← hu1] at kc ⊢
            clear hu1
            have HR1 : Hid (RB u1 B s k d) := hr.out.later kc.out
            have HG1 : Hid (w.grownBy u1 (some B)) := grown_below hg.out kc.out
            clear kc HE c0 c1 hne
            obtain ⟨c0, c1, c2⟩ := HR1.out.cells
            have f1 := HR1.out.frozen 1
            clear g1 g2 g3 g4
            by_cases hki : k = i
            · have HBAD : Hid (count s o i = .bad o 45) := by
                show _ = _
                unfold count
                rw [← HD2.out]
                simp [hki]
              subst hki
              go_wp2_with fail
              refine (giveUp_any o 45 _).mono ?_
              rintro e w2 ⟨rfl, k2⟩
              go_wp2
              refine ⟨rfl, ?_⟩
              unfold Reads
              rw [HBAD.out]
              exact ⟨rfl, grown_below HG1.out k2⟩
            · have HOK : Hid (count s o i = .ok m k) := by
                show _ = _
                unfold count
                rw [← HD2.out]
                simp [hki]
              have hki' : ¬ (k : Int) = (i : Int) := by omega
              go_wp2_with fail
              go_ret
              unfold Reads
              rw [HOK.out]
              exact ⟨hk, _, rfl, rfl, HR1.out, HG1.out⟩
        · have g1 : decide (48 ≤ s[k].toNat) = false := by simp; omega
          have g3 : decide ((48 : Int) ≤ (s[k].toNat : Int)) = false := by simp; omega
          have HD2 : Hid ((m, k) = digits s 3 i 0) := by
            show _ = _
            rw [← hdg.out, digits]
            have : isDigit s k = false := by simp [isDigit, hb]; omega
            rw [this]; rfl
          clear hb
          go_upto_region 2 with fail
          go_cut [46] from 11 to 67 (fun b wx => b = .bool false ∧ Hid (Below wr.heap.size wr wx))
          case first =>
            refine wp_region_later (by kernel_rfl) (by kernel_rfl) ?_
            repeat (first
              | go_big_quiet_step ((go_at_call 66; exact calls_later (HE.out _)))
              | quiet_step ((go_at_call 66; exact calls_later (HE.out _))))
            refine wpQuiet_nil ?_
            intro _ hw'
            obtain ⟨u, hw''⟩ := hw'
            subst hw''
            go_wp2_with fail
            go_meet
            case rel => exact ⟨rfl, u.below⟩
          case rest =>
          obtain ⟨rfl, kc⟩ := hcut
          obtain ⟨u1, hu1⟩ : ∃ u1, u1 = wc := ⟨_, rfl⟩
          rw [← hu1] at kc ⊢
          clear hu1
          have HR1 : Hid (RB u1 B s k d) := hr.out.later kc.out
          have HG1 : Hid (w.grownBy u1 (some B)) := grown_below hg.out kc.out
          clear kc HE c0 c1 hne
          obtain ⟨c0, c1, c2⟩ := HR1.out.cells
          have f1 := HR1.out.frozen 1
          clear g1 g3
          by_cases hki : k = i
          · have HBAD : Hid (count s o i = .bad o 45) := by
              show _ = _
              unfold count
              rw [← HD2.out]
              simp [hki]
            subst hki
            go_wp2_with fail
            refine (giveUp_any o 45 _).mono ?_
            rintro e w2 ⟨rfl, k2⟩
            go_wp2
            refine ⟨rfl, ?_⟩
            unfold Reads
            rw [HBAD.out]
            exact ⟨rfl, grown_below HG1.out k2⟩
          · have HOK : Hid (count s o i = .ok m k) := by
              show _ = _
              unfold count
              rw [← HD2.out]
              simp [hki]
            have hki' : ¬ (k : Int) = (i : Int) := by omega
            go_wp2_with fail
            go_ret
            unfold Reads
            rw [HOK.out]
            exact ⟨hk, _, rfl, rfl, HR1.out, HG1.out⟩
end Go.Proofs.Ytjmbimgofceanaa
