/- A drawn region of heronlaw03.OctetsLaws, operation by operation. -/
import Derived.Test.YtkgpmaclaahmbaaLawsKit
namespace Go.Proofs.Ytkgpmaclaahmbaa
open Go Go.RowKit
def specs8 (a b c : Oct.S) : List Sp := [.v (setV a), .v (setV b), .v (setV c), .sl [b, c], .v (setV (Oct.join b c)), .v (setV (Oct.meet a (Oct.join b c))), .v (setV a), .v (setV b), .v (setV (Oct.meet a b)), .v (setV a), .v (setV c), .v (setV (Oct.meet a c)), .sl [(Oct.meet a b), (Oct.meet a c)], .v (setV (Oct.join (Oct.meet a b) (Oct.meet a c))), .v (.bool false), .v (.bool false), .v (setV a), .v (setV a), .sl [a, a], .v (setV (Oct.join a a)), .v (setV a), .v (.bool false), .v (.bool false), .v (.bool false), .v (setV a), .v (setV a), .v (setV (Oct.meet a a)), .v (setV a), .v (.bool false), .v (.bool false), .v (.bool false), .v (setV a), .v (setV Oct.none), .sl [a, Oct.none], .v (setV (Oct.join a Oct.none)), .v (setV a), .v (.bool false), .v (.bool false), .v (.bool false), .v (setV a), .v (setV (Oct.span 0 255)), .v (setV (Oct.meet a (Oct.span 0 255))), .v (setV a), .v (.bool false), .v (.bool false), .v (.bool false), .v (setV Oct.none), .v (setV Oct.none), .v (.bool false), .v (.bool false)]
set_option maxRecDepth 100000 in
theorem duties8 {A B C L N X : Nat} {a b c : Oct.S} {w0 : World} (HA : SB w0 A a) (HB : SB w0 B b) (HC : SB w0 C c) (HL : SB w0 L (Oct.has [10])) (HN : SB w0 N Oct.none) (HX : SB w0 X (Oct.span 0 255)) :
    AllFrom (Duty Try.prog (opsOf Try.f5 8) w0 (fun i => 51 + i) (holdsAt (specs8 a b c)) (Fr A B C L N X)) 0 (opsOf Try.f5 8).toList := by
    have _ := HA
    have _ := HB
    have _ := HC
    have _ := HL
    have _ := HN
    have _ := HX
    refine ⟨duty_free rfl (by simp) rfl (fun act w hF hB hE Q => ob_load4 rfl hF.2.2.1 (HA.later hB) rfl), ?_⟩
    refine ⟨duty_free rfl (by simp) rfl (fun act w hF hB hE Q => ob_load4 rfl hF.2.2.2.1 (HB.later hB) rfl), ?_⟩
    refine ⟨duty_free rfl (by simp) rfl (fun act w hF hB hE Q => ob_load4 rfl hF.2.2.2.2.1 (HC.later hB) rfl), ?_⟩
    refine ⟨duty_free rfl (by simp) rfl (fun act w hF hB hE Q => ob_slice2 rfl rfl (hE ⟨1, .data⟩ (by simp) rfl) (hE ⟨2, .data⟩ (by simp) rfl) (fun g w' h => ⟨g, rfl, h⟩)), ?_⟩
    refine ⟨duty_free rfl (by simp) rfl (fun act w hF hB hE Q => ob_join2 rfl (hE ⟨3, .data⟩ (by simp) rfl) (fun _ => rfl)), ?_⟩
    refine ⟨duty_free rfl (by simp) rfl (fun act w hF hB hE Q => ob_meet rfl (hE ⟨0, .data⟩ (by simp) rfl) (hE ⟨4, .data⟩ (by simp) rfl) (fun _ => rfl)), ?_⟩
    refine ⟨duty_free rfl (by simp) rfl (fun act w hF hB hE Q => ob_load4 rfl hF.2.2.1 (HA.later hB) rfl), ?_⟩
    refine ⟨duty_free rfl (by simp) rfl (fun act w hF hB hE Q => ob_load4 rfl hF.2.2.2.1 (HB.later hB) rfl), ?_⟩
    refine ⟨duty_free rfl (by simp) rfl (fun act w hF hB hE Q => ob_meet rfl (hE ⟨6, .data⟩ (by simp) rfl) (hE ⟨7, .data⟩ (by simp) rfl) (fun _ => rfl)), ?_⟩
    refine ⟨duty_free rfl (by simp) rfl (fun act w hF hB hE Q => ob_load4 rfl hF.2.2.1 (HA.later hB) rfl), ?_⟩
    refine ⟨duty_free rfl (by simp) rfl (fun act w hF hB hE Q => ob_load4 rfl hF.2.2.2.2.1 (HC.later hB) rfl), ?_⟩
    refine ⟨duty_free rfl (by simp) rfl (fun act w hF hB hE Q => ob_meet rfl (hE ⟨9, .data⟩ (by simp) rfl) (hE ⟨10, .data⟩ (by simp) rfl) (fun _ => rfl)), ?_⟩
    refine ⟨duty_free rfl (by simp) rfl (fun act w hF hB hE Q => ob_slice2 rfl rfl (hE ⟨8, .data⟩ (by simp) rfl) (hE ⟨11, .data⟩ (by simp) rfl) (fun g w' h => ⟨g, rfl, h⟩)), ?_⟩
    refine ⟨duty_free rfl (by simp) rfl (fun act w hF hB hE Q => ob_join2 rfl (hE ⟨12, .data⟩ (by simp) rfl) (fun _ => rfl)), ?_⟩
    refine ⟨duty_free rfl (by simp) rfl (fun act w hF hB hE Q => ob_neq4 rfl (hE ⟨5, .data⟩ (by simp) rfl) (hE ⟨13, .data⟩ (by simp) rfl) (fun x hx => by first | rfl | (simp only [Oct.join, Oct.meet]; cases a x <;> cases b x <;> cases c x <;> cases Oct.has [10] x <;> rfl)) rfl), ?_⟩
    refine ⟨duty_free rfl (by simp) rfl (fun act w hF hB hE Q => ob_move rfl (hE ⟨14, .data⟩ (by simp) rfl) rfl), ?_⟩
    refine ⟨duty_met (j := 15) (b := false) rfl (by simp) rfl rfl (by simp) (fun _ _ h => h) (fun act w hF hB hE Q => ob_load4 rfl hF.2.2.1 (HA.later hB) rfl), ?_⟩
    refine ⟨duty_met (j := 15) (b := false) rfl (by simp) rfl rfl (by simp) (fun _ _ h => h) (fun act w hF hB hE Q => ob_load4 rfl hF.2.2.1 (HA.later hB) rfl), ?_⟩
    refine ⟨duty_met (j := 15) (b := false) rfl (by simp) rfl rfl (by simp) (fun _ _ h => h) (fun act w hF hB hE Q => ob_slice2 rfl rfl (hE ⟨16, .data⟩ (by simp) rfl) (hE ⟨17, .data⟩ (by simp) rfl) (fun g w' h => ⟨g, rfl, h⟩)), ?_⟩
    refine ⟨duty_met (j := 15) (b := false) rfl (by simp) rfl rfl (by simp) (fun _ _ h => h) (fun act w hF hB hE Q => ob_join2 rfl (hE ⟨18, .data⟩ (by simp) rfl) (fun _ => rfl)), ?_⟩
    refine ⟨duty_met (j := 15) (b := false) rfl (by simp) rfl rfl (by simp) (fun _ _ h => h) (fun act w hF hB hE Q => ob_load4 rfl hF.2.2.1 (HA.later hB) rfl), ?_⟩
    refine ⟨duty_met (j := 15) (b := false) rfl (by simp) rfl rfl (by simp) (fun _ _ h => h) (fun act w hF hB hE Q => ob_neq4 rfl (hE ⟨19, .data⟩ (by simp) rfl) (hE ⟨20, .data⟩ (by simp) rfl) (fun x hx => by first | rfl | (simp only [Oct.join]; cases a x <;> cases b x <;> cases c x <;> cases Oct.has [10] x <;> rfl)) rfl), ?_⟩
    refine ⟨duty_free rfl (by simp) rfl (fun act w hF hB hE Q => ob_pick_or rfl (hE ⟨15, .data⟩ (by simp) rfl) (hE ⟨21, .data⟩ (by simp) rfl) rfl), ?_⟩
    refine ⟨duty_free rfl (by simp) rfl (fun act w hF hB hE Q => ob_move rfl (hE ⟨22, .data⟩ (by simp) rfl) rfl), ?_⟩
    refine ⟨duty_met (j := 23) (b := false) rfl (by simp) rfl rfl (by simp) (fun _ _ h => h) (fun act w hF hB hE Q => ob_load4 rfl hF.2.2.1 (HA.later hB) rfl), ?_⟩
    refine ⟨duty_met (j := 23) (b := false) rfl (by simp) rfl rfl (by simp) (fun _ _ h => h) (fun act w hF hB hE Q => ob_load4 rfl hF.2.2.1 (HA.later hB) rfl), ?_⟩
    refine ⟨duty_met (j := 23) (b := false) rfl (by simp) rfl rfl (by simp) (fun _ _ h => h) (fun act w hF hB hE Q => ob_meet rfl (hE ⟨24, .data⟩ (by simp) rfl) (hE ⟨25, .data⟩ (by simp) rfl) (fun _ => rfl)), ?_⟩
    refine ⟨duty_met (j := 23) (b := false) rfl (by simp) rfl rfl (by simp) (fun _ _ h => h) (fun act w hF hB hE Q => ob_load4 rfl hF.2.2.1 (HA.later hB) rfl), ?_⟩
    refine ⟨duty_met (j := 23) (b := false) rfl (by simp) rfl rfl (by simp) (fun _ _ h => h) (fun act w hF hB hE Q => ob_neq4 rfl (hE ⟨26, .data⟩ (by simp) rfl) (hE ⟨27, .data⟩ (by simp) rfl) (fun x hx => by first | rfl | (simp only [Oct.meet]; cases a x <;> cases b x <;> cases c x <;> cases Oct.has [10] x <;> rfl)) rfl), ?_⟩
    refine ⟨duty_free rfl (by simp) rfl (fun act w hF hB hE Q => ob_pick_or rfl (hE ⟨23, .data⟩ (by simp) rfl) (hE ⟨28, .data⟩ (by simp) rfl) rfl), ?_⟩
    refine ⟨duty_free rfl (by simp) rfl (fun act w hF hB hE Q => ob_move rfl (hE ⟨29, .data⟩ (by simp) rfl) rfl), ?_⟩
    refine ⟨duty_met (j := 30) (b := false) rfl (by simp) rfl rfl (by simp) (fun _ _ h => h) (fun act w hF hB hE Q => ob_load4 rfl hF.2.2.1 (HA.later hB) rfl), ?_⟩
    refine ⟨duty_met (j := 30) (b := false) rfl (by simp) rfl rfl (by simp) (fun _ _ h => h) (fun act w hF hB hE Q => ob_load4 rfl hF.2.2.2.2.2.2.1 (HN.later hB) rfl), ?_⟩
    refine ⟨duty_met (j := 30) (b := false) rfl (by simp) rfl rfl (by simp) (fun _ _ h => h) (fun act w hF hB hE Q => ob_slice2 rfl rfl (hE ⟨31, .data⟩ (by simp) rfl) (hE ⟨32, .data⟩ (by simp) rfl) (fun g w' h => ⟨g, rfl, h⟩)), ?_⟩
    refine ⟨duty_met (j := 30) (b := false) rfl (by simp) rfl rfl (by simp) (fun _ _ h => h) (fun act w hF hB hE Q => ob_join2 rfl (hE ⟨33, .data⟩ (by simp) rfl) (fun _ => rfl)), ?_⟩
    refine ⟨duty_met (j := 30) (b := false) rfl (by simp) rfl rfl (by simp) (fun _ _ h => h) (fun act w hF hB hE Q => ob_load4 rfl hF.2.2.1 (HA.later hB) rfl), ?_⟩
    refine ⟨duty_met (j := 30) (b := false) rfl (by simp) rfl rfl (by simp) (fun _ _ h => h) (fun act w hF hB hE Q => ob_neq4 rfl (hE ⟨34, .data⟩ (by simp) rfl) (hE ⟨35, .data⟩ (by simp) rfl) (fun x hx => by first | rfl | (simp only [Oct.join, Oct.none]; cases a x <;> cases b x <;> cases c x <;> cases Oct.has [10] x <;> rfl)) rfl), ?_⟩
    refine ⟨duty_free rfl (by simp) rfl (fun act w hF hB hE Q => ob_pick_or rfl (hE ⟨30, .data⟩ (by simp) rfl) (hE ⟨36, .data⟩ (by simp) rfl) rfl), ?_⟩
    refine ⟨duty_free rfl (by simp) rfl (fun act w hF hB hE Q => ob_move rfl (hE ⟨37, .data⟩ (by simp) rfl) rfl), ?_⟩
    refine ⟨duty_met (j := 38) (b := false) rfl (by simp) rfl rfl (by simp) (fun _ _ h => h) (fun act w hF hB hE Q => ob_load4 rfl hF.2.2.1 (HA.later hB) rfl), ?_⟩
    refine ⟨duty_met (j := 38) (b := false) rfl (by simp) rfl rfl (by simp) (fun _ _ h => h) (fun act w hF hB hE Q => ob_load4 rfl hF.2.2.2.2.2.2.2 (HX.later hB) rfl), ?_⟩
    refine ⟨duty_met (j := 38) (b := false) rfl (by simp) rfl rfl (by simp) (fun _ _ h => h) (fun act w hF hB hE Q => ob_meet rfl (hE ⟨39, .data⟩ (by simp) rfl) (hE ⟨40, .data⟩ (by simp) rfl) (fun _ => rfl)), ?_⟩
    refine ⟨duty_met (j := 38) (b := false) rfl (by simp) rfl rfl (by simp) (fun _ _ h => h) (fun act w hF hB hE Q => ob_load4 rfl hF.2.2.1 (HA.later hB) rfl), ?_⟩
    refine ⟨duty_met (j := 38) (b := false) rfl (by simp) rfl rfl (by simp) (fun _ _ h => h) (fun act w hF hB hE Q => ob_neq4 rfl (hE ⟨41, .data⟩ (by simp) rfl) (hE ⟨42, .data⟩ (by simp) rfl) (fun x hx => by first | rfl | (simp only [Oct.meet, span_all x hx]; cases a x <;> cases b x <;> cases c x <;> cases Oct.has [10] x <;> rfl)) rfl), ?_⟩
    refine ⟨duty_free rfl (by simp) rfl (fun act w hF hB hE Q => ob_pick_or rfl (hE ⟨38, .data⟩ (by simp) rfl) (hE ⟨43, .data⟩ (by simp) rfl) rfl), ?_⟩
    refine ⟨duty_free rfl (by simp) rfl (fun act w hF hB hE Q => ob_move rfl (hE ⟨44, .data⟩ (by simp) rfl) rfl), ?_⟩
    refine ⟨duty_met (j := 45) (b := false) rfl (by simp) rfl rfl (by simp) (fun _ _ h => h) (fun act w hF hB hE Q => ob_join0 rfl (fun _ => rfl)), ?_⟩
    refine ⟨duty_met (j := 45) (b := false) rfl (by simp) rfl rfl (by simp) (fun _ _ h => h) (fun act w hF hB hE Q => ob_load4 rfl hF.2.2.2.2.2.2.1 (HN.later hB) rfl), ?_⟩
    refine ⟨duty_met (j := 45) (b := false) rfl (by simp) rfl rfl (by simp) (fun _ _ h => h) (fun act w hF hB hE Q => ob_neq4 rfl (hE ⟨46, .data⟩ (by simp) rfl) (hE ⟨47, .data⟩ (by simp) rfl) (fun x hx => by first | rfl | (simp only [Oct.none]; cases a x <;> cases b x <;> cases c x <;> cases Oct.has [10] x <;> rfl)) rfl), ?_⟩
    refine ⟨duty_free rfl (by simp) rfl (fun act w hF hB hE Q => ob_pick_or rfl (hE ⟨45, .data⟩ (by simp) rfl) (hE ⟨48, .data⟩ (by simp) rfl) rfl), ?_⟩
    exact trivial
set_option maxRecDepth 100000 in
theorem reg8 {A B C L N X : Nat} {a b c : Oct.S} {act : Act} {w0 : World} {Q : Exit → Act → World → Prop} (HA : SB w0 A a) (HB : SB w0 B b) (HC : SB w0 C c) (HL : SB w0 L (Oct.has [10])) (HN : SB w0 N Oct.none) (HX : SB w0 X (Oct.span 0 255))
    (HF : Fr A B C L N X act) (K : ∀ act' w', Fr A B C L N X act' → Below w0.heap.size w0 w' → T act' 100 = .bool false → Q .normal act' w') : (Code.region 8 (opsOf Try.f5 8) true).wp Try.prog Q act w0 := by
  refine wp_region_slots rfl (fun i => 51 + i) (holdsAt (specs8 a b c)) (Fr A B C L N X) (fun _ _ _ _ h hb => h.up hb) (fun x i v hi h => h.put (.inr (by omega))) (fun x i hi h => by have := h.1; have h2 : i < 50 := hi; omega) (fun i j _ _ h => by omega) (duties8 HA HB HC HL HN HX) (fun act' w' hF hB hR => K act' w' hF hB (hR 49 (show 49 < 50 by decide))) HF
end Go.Proofs.Ytkgpmaclaahmbaa
