/- A drawn region of heronlaw03.OctetsLaws, operation by operation. -/
import Derived.Test.YtkgpmaclaahmbaaLawsKit
namespace Go.Proofs.Ytkgpmaclaahmbaa
open Go Go.RowKit
def specs12 (a b _c : Oct.S) : List Sp := [.v (setV a), .v (setV b), .sl [a, b], .v (setV (Oct.join a b)), .v (setV (Oct.inv (Oct.join a b))), .v (setV a), .v (setV (Oct.inv a)), .v (setV b), .v (setV (Oct.inv b)), .v (setV (Oct.meet (Oct.inv a) (Oct.inv b))), .v (.bool true), .v (.bool true), .v (setV a), .v (setV b), .sl [a, b], .v (setV (Oct.join a b)), .v (.int .i64 (cnt (Oct.join a b) : Nat)), .v (setV a), .v (setV b), .v (setV (Oct.meet a b)), .v (.int .i64 (cnt (Oct.meet a b) : Nat)), .v (.int .i64 ((cnt (Oct.join a b) : Nat) + (cnt (Oct.meet a b) : Nat) : Int)), .v (setV a), .v (.int .i64 (cnt a : Nat)), .v (setV b), .v (.int .i64 (cnt b : Nat)), .v (.int .i64 ((cnt a : Nat) + (cnt b : Nat) : Int)), .v (.bool true), .v (.bool true), .v (.bool true)]
set_option maxRecDepth 100000 in
theorem duties12 {A B C L N X : Nat} {a b c : Oct.S} {w0 : World} (HA : SB w0 A a) (HB : SB w0 B b) (HC : SB w0 C c) (HL : SB w0 L (Oct.has [10])) (HN : SB w0 N Oct.none) (HX : SB w0 X (Oct.span 0 255)) :
    AllFrom (Duty Try.prog (opsOf Try.f5 12) w0 (fun i => if i = 29 then 6 else 135 + i) (holdsAt (specs12 a b c)) (Fr A B C L N X)) 0 (opsOf Try.f5 12).toList := by
    have _ := HA
    have _ := HB
    have _ := HC
    have _ := HL
    have _ := HN
    have _ := HX
    refine ⟨duty_free rfl (by simp) rfl (fun act w hF hB hE Q => ob_load4 rfl hF.2.2.1 (HA.later hB) rfl), ?_⟩
    refine ⟨duty_free rfl (by simp) rfl (fun act w hF hB hE Q => ob_load4 rfl hF.2.2.2.1 (HB.later hB) rfl), ?_⟩
    refine ⟨duty_free rfl (by simp) rfl (fun act w hF hB hE Q => ob_slice2 rfl rfl (hE ⟨0, .data⟩ (by simp) rfl) (hE ⟨1, .data⟩ (by simp) rfl) (fun g w' h => ⟨g, rfl, h⟩)), ?_⟩
    refine ⟨duty_free rfl (by simp) rfl (fun act w hF hB hE Q => ob_join2 rfl (hE ⟨2, .data⟩ (by simp) rfl) (fun _ => rfl)), ?_⟩
    refine ⟨duty_free rfl (by simp) rfl (fun act w hF hB hE Q => ob_inv rfl (hE ⟨3, .data⟩ (by simp) rfl) (fun _ => rfl)), ?_⟩
    refine ⟨duty_free rfl (by simp) rfl (fun act w hF hB hE Q => ob_load4 rfl hF.2.2.1 (HA.later hB) rfl), ?_⟩
    refine ⟨duty_free rfl (by simp) rfl (fun act w hF hB hE Q => ob_inv rfl (hE ⟨5, .data⟩ (by simp) rfl) (fun _ => rfl)), ?_⟩
    refine ⟨duty_free rfl (by simp) rfl (fun act w hF hB hE Q => ob_load4 rfl hF.2.2.2.1 (HB.later hB) rfl), ?_⟩
    refine ⟨duty_free rfl (by simp) rfl (fun act w hF hB hE Q => ob_inv rfl (hE ⟨7, .data⟩ (by simp) rfl) (fun _ => rfl)), ?_⟩
    refine ⟨duty_free rfl (by simp) rfl (fun act w hF hB hE Q => ob_meet rfl (hE ⟨6, .data⟩ (by simp) rfl) (hE ⟨8, .data⟩ (by simp) rfl) (fun _ => rfl)), ?_⟩
    refine ⟨duty_free rfl (by simp) rfl (fun act w hF hB hE Q => ob_eql4 rfl (hE ⟨4, .data⟩ (by simp) rfl) (hE ⟨9, .data⟩ (by simp) rfl) (fun x hx => by first | rfl | (simp only [Oct.join, Oct.meet, inv_eq]; cases a x <;> cases b x <;> cases c x <;> cases Oct.has [10] x <;> rfl)) rfl), ?_⟩
    refine ⟨duty_free rfl (by simp) rfl (fun act w hF hB hE Q => ob_move rfl (hE ⟨10, .data⟩ (by simp) rfl) rfl), ?_⟩
    refine ⟨duty_met (j := 11) (b := true) rfl (by simp) rfl rfl (by simp) (fun _ _ h => h) (fun act w hF hB hE Q => ob_load4 rfl hF.2.2.1 (HA.later hB) rfl), ?_⟩
    refine ⟨duty_met (j := 11) (b := true) rfl (by simp) rfl rfl (by simp) (fun _ _ h => h) (fun act w hF hB hE Q => ob_load4 rfl hF.2.2.2.1 (HB.later hB) rfl), ?_⟩
    refine ⟨duty_met (j := 11) (b := true) rfl (by simp) rfl rfl (by simp) (fun _ _ h => h) (fun act w hF hB hE Q => ob_slice2 rfl rfl (hE ⟨12, .data⟩ (by simp) rfl) (hE ⟨13, .data⟩ (by simp) rfl) (fun g w' h => ⟨g, rfl, h⟩)), ?_⟩
    refine ⟨duty_met (j := 11) (b := true) rfl (by simp) rfl rfl (by simp) (fun _ _ h => h) (fun act w hF hB hE Q => ob_join2 rfl (hE ⟨14, .data⟩ (by simp) rfl) (fun _ => rfl)), ?_⟩
    refine ⟨duty_met (j := 11) (b := true) rfl (by simp) rfl rfl (by simp) (fun _ _ h => h) (fun act w hF hB hE Q => ob_count rfl (hE ⟨15, .data⟩ (by simp) rfl) (fun _ => rfl)), ?_⟩
    refine ⟨duty_met (j := 11) (b := true) rfl (by simp) rfl rfl (by simp) (fun _ _ h => h) (fun act w hF hB hE Q => ob_load4 rfl hF.2.2.1 (HA.later hB) rfl), ?_⟩
    refine ⟨duty_met (j := 11) (b := true) rfl (by simp) rfl rfl (by simp) (fun _ _ h => h) (fun act w hF hB hE Q => ob_load4 rfl hF.2.2.2.1 (HB.later hB) rfl), ?_⟩
    refine ⟨duty_met (j := 11) (b := true) rfl (by simp) rfl rfl (by simp) (fun _ _ h => h) (fun act w hF hB hE Q => ob_meet rfl (hE ⟨17, .data⟩ (by simp) rfl) (hE ⟨18, .data⟩ (by simp) rfl) (fun _ => rfl)), ?_⟩
    refine ⟨duty_met (j := 11) (b := true) rfl (by simp) rfl rfl (by simp) (fun _ _ h => h) (fun act w hF hB hE Q => ob_count rfl (hE ⟨19, .data⟩ (by simp) rfl) (fun _ => rfl)), ?_⟩
    refine ⟨duty_met (j := 11) (b := true) rfl (by simp) rfl rfl (by simp) (fun _ _ h => h) (fun act w hF hB hE Q => ob_add rfl (hE ⟨16, .data⟩ (by simp) rfl) (hE ⟨20, .data⟩ (by simp) rfl) (cnt_le _) (cnt_le _) rfl), ?_⟩
    refine ⟨duty_met (j := 11) (b := true) rfl (by simp) rfl rfl (by simp) (fun _ _ h => h) (fun act w hF hB hE Q => ob_load4 rfl hF.2.2.1 (HA.later hB) rfl), ?_⟩
    refine ⟨duty_met (j := 11) (b := true) rfl (by simp) rfl rfl (by simp) (fun _ _ h => h) (fun act w hF hB hE Q => ob_count rfl (hE ⟨22, .data⟩ (by simp) rfl) (fun _ => rfl)), ?_⟩
    refine ⟨duty_met (j := 11) (b := true) rfl (by simp) rfl rfl (by simp) (fun _ _ h => h) (fun act w hF hB hE Q => ob_load4 rfl hF.2.2.2.1 (HB.later hB) rfl), ?_⟩
    refine ⟨duty_met (j := 11) (b := true) rfl (by simp) rfl rfl (by simp) (fun _ _ h => h) (fun act w hF hB hE Q => ob_count rfl (hE ⟨24, .data⟩ (by simp) rfl) (fun _ => rfl)), ?_⟩
    refine ⟨duty_met (j := 11) (b := true) rfl (by simp) rfl rfl (by simp) (fun _ _ h => h) (fun act w hF hB hE Q => ob_add rfl (hE ⟨23, .data⟩ (by simp) rfl) (hE ⟨25, .data⟩ (by simp) rfl) (cnt_le _) (cnt_le _) rfl), ?_⟩
    refine ⟨duty_met (j := 11) (b := true) rfl (by simp) rfl rfl (by simp) (fun _ _ h => h) (fun act w hF hB hE Q => ob_eqli rfl ((show T act 156 = _ from hE ⟨21, .data⟩ (by simp) rfl).trans (by rw [cnt_sum])) (hE ⟨26, .data⟩ (by simp) rfl) rfl), ?_⟩
    refine ⟨duty_free rfl (by simp) rfl (fun act w hF hB hE Q => ob_pick_and rfl (hE ⟨11, .data⟩ (by simp) rfl) (hE ⟨27, .data⟩ (by simp) rfl) rfl), ?_⟩
    refine ⟨duty_free rfl (by simp) rfl (fun act w hF hB hE Q => ob_assign rfl (hE ⟨28, .data⟩ (by simp) rfl) rfl), ?_⟩
    exact trivial
set_option maxRecDepth 100000 in
theorem reg12 {A B C L N X : Nat} {a b c : Oct.S} {act : Act} {w0 : World} {Q : Exit → Act → World → Prop} (HA : SB w0 A a) (HB : SB w0 B b) (HC : SB w0 C c) (HL : SB w0 L (Oct.has [10])) (HN : SB w0 N Oct.none) (HX : SB w0 X (Oct.span 0 255))
    (HF : Fr A B C L N X act) (K : ∀ act' w', Fr A B C L N X act' → Below w0.heap.size w0 w' → T act' 6 = .bool true → Q .normal act' w') : (Code.region 12 (opsOf Try.f5 12) true).wp Try.prog Q act w0 := by
  refine wp_region_slots rfl (fun i => if i = 29 then 6 else 135 + i) (holdsAt (specs12 a b c)) (Fr A B C L N X) (fun _ _ _ _ h hb => h.up hb) (fun x i v hi h => h.put (by by_cases e : i = 29 <;> simp [e]; omega)) (fun x i hi h => by have := h.1; have h2 : i < 30 := hi; by_cases e : i = 29 <;> simp [e] <;> omega) (fun i j hi hj h => by have h2 : i < 30 := hi; have h3 : j < 30 := hj; by_cases e : i = 29 <;> by_cases f : j = 29 <;> simp [e, f] at h ⊢ <;> omega) (duties12 HA HB HC HL HN HX) (fun act' w' hF hB hR => K act' w' hF hB (hR 29 (show 29 < 30 by decide))) HF
end Go.Proofs.Ytkgpmaclaahmbaa
