/- A drawn region of heronlaw03.OctetsLaws, operation by operation. -/
import Derived.Test.YtkgpmaclaahmbaaLawsKit
namespace Go.Proofs.Ytkgpmaclaahmbaa
open Go Go.RowKit
def specs10 (a _b _c : Oct.S) : List Sp := [.v (setV a), .v (setV (Oct.inv a)), .v (.bool false), .v (.bool false), .v (setV a), .v (setV a), .v (setV (Oct.inv a)), .v (setV (Oct.meet a (Oct.inv a))), .v (setV Oct.none), .v (.bool false), .v (.bool false), .v (.bool false), .v (setV a), .v (setV a), .v (setV (Oct.inv a)), .v (setV (Oct.has [10])), .sl [a, (Oct.inv a), (Oct.has [10])], .v (setV (Oct.join a (Oct.join (Oct.inv a) (Oct.has [10])))), .v (setV (Oct.span 0 255)), .v (setV (Oct.has [10])), .sl [(Oct.span 0 255), (Oct.has [10])], .v (setV (Oct.join (Oct.span 0 255) (Oct.has [10]))), .v (.bool false), .v (.bool false), .v (.bool false), .v (setV a), .v (setV (Oct.inv a)), .v (setV (Oct.inv (Oct.inv a))), .v (setV a), .v (setV (Oct.has [10])), .v (setV (Oct.inv (Oct.has [10]))), .v (setV (Oct.meet a (Oct.inv (Oct.has [10])))), .v (.bool false), .v (.bool false)]
set_option maxRecDepth 100000 in
theorem duties10 {A B C L N X : Nat} {a b c : Oct.S} {w0 : World} (HA : SB w0 A a) (HB : SB w0 B b) (HC : SB w0 C c) (HL : SB w0 L (Oct.has [10])) (HN : SB w0 N Oct.none) (HX : SB w0 X (Oct.span 0 255)) :
    AllFrom (Duty Try.prog (opsOf Try.f5 10) w0 (fun i => 101 + i) (holdsAt (specs10 a b c)) (Fr A B C L N X)) 0 (opsOf Try.f5 10).toList := by
    have _ := HA
    have _ := HB
    have _ := HC
    have _ := HL
    have _ := HN
    have _ := HX
    refine ⟨duty_free rfl (by simp) rfl (fun act w hF hB hE Q => ob_load4 rfl hF.2.2.1 (HA.later hB) rfl), ?_⟩
    refine ⟨duty_free rfl (by simp) rfl (fun act w hF hB hE Q => ob_inv rfl (hE ⟨0, .data⟩ (by simp) rfl) (fun _ => rfl)), ?_⟩
    refine ⟨duty_free rfl (by simp) rfl (fun act w hF hB hE Q => ob_has10 rfl (hE ⟨1, .data⟩ (by simp) rfl) (fun _ => rfl)), ?_⟩
    refine ⟨duty_free rfl (by simp) rfl (fun act w hF hB hE Q => ob_move rfl (hE ⟨2, .data⟩ (by simp) rfl) rfl), ?_⟩
    refine ⟨duty_met (j := 3) (b := false) rfl (by simp) rfl rfl (by simp) (fun _ _ h => h) (fun act w hF hB hE Q => ob_load4 rfl hF.2.2.1 (HA.later hB) rfl), ?_⟩
    refine ⟨duty_met (j := 3) (b := false) rfl (by simp) rfl rfl (by simp) (fun _ _ h => h) (fun act w hF hB hE Q => ob_load4 rfl hF.2.2.1 (HA.later hB) rfl), ?_⟩
    refine ⟨duty_met (j := 3) (b := false) rfl (by simp) rfl rfl (by simp) (fun _ _ h => h) (fun act w hF hB hE Q => ob_inv rfl (hE ⟨5, .data⟩ (by simp) rfl) (fun _ => rfl)), ?_⟩
    refine ⟨duty_met (j := 3) (b := false) rfl (by simp) rfl rfl (by simp) (fun _ _ h => h) (fun act w hF hB hE Q => ob_meet rfl (hE ⟨4, .data⟩ (by simp) rfl) (hE ⟨6, .data⟩ (by simp) rfl) (fun _ => rfl)), ?_⟩
    refine ⟨duty_met (j := 3) (b := false) rfl (by simp) rfl rfl (by simp) (fun _ _ h => h) (fun act w hF hB hE Q => ob_load4 rfl hF.2.2.2.2.2.2.1 (HN.later hB) rfl), ?_⟩
    refine ⟨duty_met (j := 3) (b := false) rfl (by simp) rfl rfl (by simp) (fun _ _ h => h) (fun act w hF hB hE Q => ob_neq4 rfl (hE ⟨7, .data⟩ (by simp) rfl) (hE ⟨8, .data⟩ (by simp) rfl) (fun x hx => by first | rfl | (simp only [Oct.meet, inv_eq, Oct.none]; cases a x <;> cases b x <;> cases c x <;> cases Oct.has [10] x <;> rfl)) rfl), ?_⟩
    refine ⟨duty_free rfl (by simp) rfl (fun act w hF hB hE Q => ob_pick_or rfl (hE ⟨3, .data⟩ (by simp) rfl) (hE ⟨9, .data⟩ (by simp) rfl) rfl), ?_⟩
    refine ⟨duty_free rfl (by simp) rfl (fun act w hF hB hE Q => ob_move rfl (hE ⟨10, .data⟩ (by simp) rfl) rfl), ?_⟩
    refine ⟨duty_met (j := 11) (b := false) rfl (by simp) rfl rfl (by simp) (fun _ _ h => h) (fun act w hF hB hE Q => ob_load4 rfl hF.2.2.1 (HA.later hB) rfl), ?_⟩
    refine ⟨duty_met (j := 11) (b := false) rfl (by simp) rfl rfl (by simp) (fun _ _ h => h) (fun act w hF hB hE Q => ob_load4 rfl hF.2.2.1 (HA.later hB) rfl), ?_⟩
    refine ⟨duty_met (j := 11) (b := false) rfl (by simp) rfl rfl (by simp) (fun _ _ h => h) (fun act w hF hB hE Q => ob_inv rfl (hE ⟨13, .data⟩ (by simp) rfl) (fun _ => rfl)), ?_⟩
    refine ⟨duty_met (j := 11) (b := false) rfl (by simp) rfl rfl (by simp) (fun _ _ h => h) (fun act w hF hB hE Q => ob_load4 rfl hF.2.2.2.2.2.1 (HL.later hB) rfl), ?_⟩
    refine ⟨duty_met (j := 11) (b := false) rfl (by simp) rfl rfl (by simp) (fun _ _ h => h) (fun act w hF hB hE Q => ob_slice3 rfl rfl (hE ⟨12, .data⟩ (by simp) rfl) (hE ⟨14, .data⟩ (by simp) rfl) (hE ⟨15, .data⟩ (by simp) rfl) (fun g w' h => ⟨g, rfl, h⟩)), ?_⟩
    refine ⟨duty_met (j := 11) (b := false) rfl (by simp) rfl rfl (by simp) (fun _ _ h => h) (fun act w hF hB hE Q => ob_join3 rfl (hE ⟨16, .data⟩ (by simp) rfl) (fun _ => rfl)), ?_⟩
    refine ⟨duty_met (j := 11) (b := false) rfl (by simp) rfl rfl (by simp) (fun _ _ h => h) (fun act w hF hB hE Q => ob_load4 rfl hF.2.2.2.2.2.2.2 (HX.later hB) rfl), ?_⟩
    refine ⟨duty_met (j := 11) (b := false) rfl (by simp) rfl rfl (by simp) (fun _ _ h => h) (fun act w hF hB hE Q => ob_load4 rfl hF.2.2.2.2.2.1 (HL.later hB) rfl), ?_⟩
    refine ⟨duty_met (j := 11) (b := false) rfl (by simp) rfl rfl (by simp) (fun _ _ h => h) (fun act w hF hB hE Q => ob_slice2 rfl rfl (hE ⟨18, .data⟩ (by simp) rfl) (hE ⟨19, .data⟩ (by simp) rfl) (fun g w' h => ⟨g, rfl, h⟩)), ?_⟩
    refine ⟨duty_met (j := 11) (b := false) rfl (by simp) rfl rfl (by simp) (fun _ _ h => h) (fun act w hF hB hE Q => ob_join2 rfl (hE ⟨20, .data⟩ (by simp) rfl) (fun _ => rfl)), ?_⟩
    refine ⟨duty_met (j := 11) (b := false) rfl (by simp) rfl rfl (by simp) (fun _ _ h => h) (fun act w hF hB hE Q => ob_neq4 rfl (hE ⟨17, .data⟩ (by simp) rfl) (hE ⟨21, .data⟩ (by simp) rfl) (fun x hx => by first | rfl | (simp only [Oct.join, inv_eq, span_all x hx]; cases a x <;> cases b x <;> cases c x <;> cases Oct.has [10] x <;> rfl)) rfl), ?_⟩
    refine ⟨duty_free rfl (by simp) rfl (fun act w hF hB hE Q => ob_pick_or rfl (hE ⟨11, .data⟩ (by simp) rfl) (hE ⟨22, .data⟩ (by simp) rfl) rfl), ?_⟩
    refine ⟨duty_free rfl (by simp) rfl (fun act w hF hB hE Q => ob_move rfl (hE ⟨23, .data⟩ (by simp) rfl) rfl), ?_⟩
    refine ⟨duty_met (j := 24) (b := false) rfl (by simp) rfl rfl (by simp) (fun _ _ h => h) (fun act w hF hB hE Q => ob_load4 rfl hF.2.2.1 (HA.later hB) rfl), ?_⟩
    refine ⟨duty_met (j := 24) (b := false) rfl (by simp) rfl rfl (by simp) (fun _ _ h => h) (fun act w hF hB hE Q => ob_inv rfl (hE ⟨25, .data⟩ (by simp) rfl) (fun _ => rfl)), ?_⟩
    refine ⟨duty_met (j := 24) (b := false) rfl (by simp) rfl rfl (by simp) (fun _ _ h => h) (fun act w hF hB hE Q => ob_inv rfl (hE ⟨26, .data⟩ (by simp) rfl) (fun _ => rfl)), ?_⟩
    refine ⟨duty_met (j := 24) (b := false) rfl (by simp) rfl rfl (by simp) (fun _ _ h => h) (fun act w hF hB hE Q => ob_load4 rfl hF.2.2.1 (HA.later hB) rfl), ?_⟩
    refine ⟨duty_met (j := 24) (b := false) rfl (by simp) rfl rfl (by simp) (fun _ _ h => h) (fun act w hF hB hE Q => ob_load4 rfl hF.2.2.2.2.2.1 (HL.later hB) rfl), ?_⟩
    refine ⟨duty_met (j := 24) (b := false) rfl (by simp) rfl rfl (by simp) (fun _ _ h => h) (fun act w hF hB hE Q => ob_inv rfl (hE ⟨29, .data⟩ (by simp) rfl) (fun _ => rfl)), ?_⟩
    refine ⟨duty_met (j := 24) (b := false) rfl (by simp) rfl rfl (by simp) (fun _ _ h => h) (fun act w hF hB hE Q => ob_meet rfl (hE ⟨28, .data⟩ (by simp) rfl) (hE ⟨30, .data⟩ (by simp) rfl) (fun _ => rfl)), ?_⟩
    refine ⟨duty_met (j := 24) (b := false) rfl (by simp) rfl rfl (by simp) (fun _ _ h => h) (fun act w hF hB hE Q => ob_neq4 rfl (hE ⟨27, .data⟩ (by simp) rfl) (hE ⟨31, .data⟩ (by simp) rfl) (fun x hx => by first | rfl | (simp only [Oct.meet, inv_eq]; cases a x <;> cases b x <;> cases c x <;> cases Oct.has [10] x <;> rfl)) rfl), ?_⟩
    refine ⟨duty_free rfl (by simp) rfl (fun act w hF hB hE Q => ob_pick_or rfl (hE ⟨24, .data⟩ (by simp) rfl) (hE ⟨32, .data⟩ (by simp) rfl) rfl), ?_⟩
    exact trivial
set_option maxRecDepth 100000 in
theorem reg10 {A B C L N X : Nat} {a b c : Oct.S} {act : Act} {w0 : World} {Q : Exit → Act → World → Prop} (HA : SB w0 A a) (HB : SB w0 B b) (HC : SB w0 C c) (HL : SB w0 L (Oct.has [10])) (HN : SB w0 N Oct.none) (HX : SB w0 X (Oct.span 0 255))
    (HF : Fr A B C L N X act) (K : ∀ act' w', Fr A B C L N X act' → Below w0.heap.size w0 w' → T act' 134 = .bool false → Q .normal act' w') : (Code.region 10 (opsOf Try.f5 10) true).wp Try.prog Q act w0 := by
  refine wp_region_slots rfl (fun i => 101 + i) (holdsAt (specs10 a b c)) (Fr A B C L N X) (fun _ _ _ _ h hb => h.up hb) (fun x i v hi h => h.put (.inr (by omega))) (fun x i hi h => by have := h.1; have h2 : i < 34 := hi; omega) (fun i j _ _ h => by omega) (duties10 HA HB HC HL HN HX) (fun act' w' hF hB hR => K act' w' hF hB (hR 33 (show 33 < 34 by decide))) HF
end Go.Proofs.Ytkgpmaclaahmbaa
