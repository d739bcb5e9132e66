/- Contracts of the document's Class of layer 3 and of octets.Class at a text that names no class; both at every text. -/
import Derived.Test.YtkgpmaclaahmbaaMember
import Derived.Test.YtkgpmaclaahmbaaClassA
import Derived.Test.YtkgpmaclaahmbaaClassB
import Derived.Test.YtkgpmaclaahmbaaClassC
import Derived.Test.YtkgpmaclaahmbaaClassD
import Derived.Test.YtkgpmaclaahmbaaClassE
import Derived.Deep.DeepCutAuto
namespace Go.Proofs.Ytkgpmaclaahmbaa
open Go.RowKit

theorem word_zero (i : Nat) : ((Oct.word Oct.none i : Nat) : Int) = 0 := by rw [show Oct.none = fun _ => false from rfl, Oct.word_none]; rfl
theorem St.put4_ret2 {w u : World} {R V : Nat} {s : Oct.S} (h : St w u R V s) (f : Func) (hf : f.results = #[.cell 2 24, .tmp 3]) {a : Act} {x : Value} (hd : a.defers = []) (ha : a.tmps[2]?.getD undef = .pointer (some ⟨R, 0, none⟩)) (hx : a.tmps[3]?.getD undef = x) (hR : w.heap.size ≤ R) :
    bodyPost Try.prog f (fun e w' => e = .returned (.tuple #[setV Oct.none, x]) ∧ Below w.heap.size w w') .ret a ((((u.setCell ⟨R, 0, none⟩ (.int .u64 0)).setCell ⟨R, 1, none⟩ (.int .u64 0)).setCell ⟨R, 2, none⟩ (.int .u64 0)).setCell ⟨R, 3, none⟩ (.int .u64 0)) := by
  have h2 := h.ret2 f hf hd ha hx hR Oct.none Oct.none (fun _ _ => rfl)
  unfold put4 at h2
  rw [word_zero, word_zero, word_zero, word_zero] at h2
  exact h2

set_option maxRecDepth 4000 in
set_option maxHeartbeats 1000000 in
theorem rclass_yes (n : ByteArray) (x : Oct.S) (w : World) (hm : ∀ b w, Calls Try.prog 35 #[.string n, .int .i64 (b : Nat)] w fun e w' => e = .returned (.int .i64 (told (x b))) ∧ w' = w) :
    Calls Try.prog 26 #[.string n] w fun e w' => e = .returned (.tuple #[setV x, .int .i64 0]) ∧ Below w.heap.size w w' := by
  have HM : Hid (∀ (b : Nat) w, Calls Try.prog 35 #[.string n, .int .i64 (b : Nat)] w fun e w' => e = .returned (.int .i64 (told (x b))) ∧ w' = w) := fun b w => hm b w
  clear hm
  have H0 := start2_hid w
  go_enter Try.func26, Try.ntmps26
  go_wp2
  go_loopw [5] (fun i u => ∃ k : Nat, k ≤ 256 ∧ i = .int .i64 k ∧ Hid (St w u w.heap.size (w.heap.size + 1) (Oct.below k x))) (fun i _ => 256 - (intOf i).toNat)
  case atStart => exact ⟨0, Nat.zero_le _, rfl, by rw [Oct.below_zero]; exact H0⟩
  case round =>
    clear H0
    obtain ⟨k, hk, rfl, hs⟩ := hrel
    obtain ⟨q, hq⟩ : ∃ q, q = Oct.below k x := ⟨_, rfl⟩
    have HQ : Hid (q = Oct.below k x) := hq
    rw [← hq] at hs
    clear hq
    obtain ⟨⟨c0, c1, c2, c3⟩, ⟨f0, f1, f2, f3⟩, ⟨d0, d1, d2, d3⟩, ⟨g0, g1, g2, g3⟩⟩ := hs.out.facts
    by_cases hlt : k < 256
    · cases hx : x k with
      | true =>
        have HT : Hid (x k = true) := hx
        clear hx
        go_wp2_with fail
        refine (HM.out k _).mono ?_
        rw [HT.out]
        rintro e w4 ⟨rfl, rfl⟩
        rw [show told true = 1 from rfl]
        go_wp2_with fail
        refine (rwith_any q k _ hlt).mono ?_
        rintro e w5 ⟨rfl, hb5⟩
        have HS5 : Hid (St w w5 w.heap.size (w.heap.size + 1) q) := hs.out.later hb5
        clear hs hb5 c0 c1 c2 c3 f0 f1 f2 f3 d0 d1 d2 d3 g0 g1 g2 g3
        obtain ⟨⟨c0, c1, c2, c3⟩, ⟨f0, f1, f2, f3⟩, _, _⟩ := HS5.out.facts
        unfold setV
        go_wp2
        go_roundw
        case rel => exact ⟨k + 1, by omega, by go_num, (HS5.out.put (by omega) (by omega) (Oct.ins q k)).as (fun c _ => by rw [HQ.out]; exact Oct.below_yes k _ HT.out c)⟩
        case measure => simp [intOf]; omega
      | false =>
        have HT : Hid (x k = false) := hx
        clear hx
        go_wp2_with fail
        refine (HM.out k _).mono ?_
        rw [HT.out]
        rintro e w4 ⟨rfl, rfl⟩
        rw [show told false = 0 from rfl]
        go_wp2
        go_roundw
        case rel => exact ⟨k + 1, by omega, by go_num, hs.out.as (fun c _ => by rw [HQ.out]; exact Oct.below_no k _ HT.out c)⟩
        case measure => simp [intOf]; omega
    · have HK : Hid (k = 256) := by show k = 256; omega
      go_wp2
      exact hs.out.ret2 Try.f26 rfl rfl rfl rfl (Nat.le_refl _) _ x (fun c hc => by rw [HQ.out, HK.out]; exact Oct.below_all _ c hc)
set_option maxRecDepth 4000 in
set_option maxHeartbeats 1000000 in
theorem rclass_no (n : ByteArray) (w : World) (hm : ∀ b w, Calls Try.prog 35 #[.string n, .int .i64 (b : Nat)] w fun e w' => e = .returned (.int .i64 (-1)) ∧ w' = w) :
    Calls Try.prog 26 #[.string n] w fun e w' => e = .returned (.tuple #[setV Oct.none, .int .i64 30]) ∧ Below w.heap.size w w' := by
  have HM : Hid (∀ (b : Nat) w, Calls Try.prog 35 #[.string n, .int .i64 (b : Nat)] w fun e w' => e = .returned (.int .i64 (-1)) ∧ w' = w) := fun b w => hm b w
  clear hm
  have H0 := start2_hid w
  go_enter Try.func26, Try.ntmps26
  go_wp2
  go_loopw [5] (fun i u => i = .int .i64 0 ∧ Hid (St w u w.heap.size (w.heap.size + 1) Oct.none)) (fun _ _ => 0)
  case atStart => exact ⟨rfl, H0⟩
  case round =>
    clear H0
    obtain ⟨rfl, hs⟩ := hrel
    obtain ⟨⟨c0, c1, c2, c3⟩, ⟨f0, f1, f2, f3⟩, ⟨d0, d1, d2, d3⟩, ⟨g0, g1, g2, g3⟩⟩ := hs.out.facts
    go_wp2_with fail
    refine (HM.out 0 _).mono ?_
    rintro e w4 ⟨rfl, rfl⟩
    go_wp2
    exact hs.out.put4_ret2 Try.f26 rfl rfl rfl rfl (Nat.le_refl _)
set_option maxRecDepth 4000 in
set_option maxHeartbeats 1000000 in
theorem class_no (n : ByteArray) (w : World) (halpha : (n.toList == [97, 108, 112, 104, 97]) = false) (hdigit : (n.toList == [100, 105, 103, 105, 116]) = false) (halnum : (n.toList == [97, 108, 110, 117, 109]) = false) (hupper : (n.toList == [117, 112, 112, 101, 114]) = false) (hlower : (n.toList == [108, 111, 119, 101, 114]) = false) (hxdigit : (n.toList == [120, 100, 105, 103, 105, 116]) = false) (hblank : (n.toList == [98, 108, 97, 110, 107]) = false) (hspace : (n.toList == [115, 112, 97, 99, 101]) = false) (hcntrl : (n.toList == [99, 110, 116, 114, 108]) = false) (hgraph : (n.toList == [103, 114, 97, 112, 104]) = false) (hprint : (n.toList == [112, 114, 105, 110, 116]) = false) (hpunct : (n.toList == [112, 117, 110, 99, 116]) = false) :
    Calls Try.prog 25 #[.string n] w fun e w' => e = .returned (.tuple #[setV Oct.none, .int .i64 30]) ∧ Below w.heap.size w w' := by
  obtain ⟨u0, hu0⟩ : ∃ u0, u0 = (w.alloc (.cells #[.int .u64 0, .int .u64 0, .int .u64 0, .int .u64 0] 24)).alloc (.cells #[.int .u64 0, .int .u64 0, .int .u64 0, .int .u64 0] 24) := ⟨_, rfl⟩
  have HS : Hid (St w u0 w.heap.size (w.heap.size + 1) Oct.none) := by rw [hu0]; exact start2 w
  have HU : Hid (u0 = _) := hu0
  clear hu0
  go_enter Try.func25, Try.ntmps25
  go_upto_region 27 with fail
  rw [← HU.out]
  clear HU
  obtain ⟨⟨c0, c1, c2, c3⟩, ⟨f0, f1, f2, f3⟩, ⟨d0, d1, d2, d3⟩, ⟨g0, g1, g2, g3⟩⟩ := HS.out.facts
  go_wp2
  exact HS.out.put4_ret2 Try.f25 rfl rfl rfl rfl (Nat.le_refl _)
theorem name_of {n : ByteArray} {l : List UInt8} (h : (n.toList == l) = true) : n = ⟨l.toArray⟩ := by
  have e := eq_of_beq h
  rw [ByteArray.toList_eq] at e
  cases n
  simp at e
  subst e
  simp
/-- BOTH SAY THE SAME OF EVERY TEXT. -/
theorem class_both (n : ByteArray) : ∃ (x : Oct.S) (z : Int), (∀ w, Calls Try.prog 25 #[.string n] w fun e w' => e = .returned (.tuple #[setV x, .int .i64 z]) ∧ Below w.heap.size w w') ∧ (∀ w, Calls Try.prog 26 #[.string n] w fun e w' => e = .returned (.tuple #[setV x, .int .i64 z]) ∧ Below w.heap.size w w') := by
  cases halpha : (n.toList == [97, 108, 112, 104, 97]) with
  | true =>
    obtain rfl := name_of halpha
    exact ⟨alpha, 0, fun w => class_alpha w, fun w => rclass_yes _ alpha w (fun b w => member_alpha b w)⟩
  | false =>
  cases hdigit : (n.toList == [100, 105, 103, 105, 116]) with
  | true =>
    obtain rfl := name_of hdigit
    exact ⟨digit, 0, fun w => class_digit w, fun w => rclass_yes _ digit w (fun b w => member_digit b w)⟩
  | false =>
  cases halnum : (n.toList == [97, 108, 110, 117, 109]) with
  | true =>
    obtain rfl := name_of halnum
    exact ⟨alnum, 0, fun w => class_alnum w, fun w => rclass_yes _ alnum w (fun b w => member_alnum b w)⟩
  | false =>
  cases hupper : (n.toList == [117, 112, 112, 101, 114]) with
  | true =>
    obtain rfl := name_of hupper
    exact ⟨upper, 0, fun w => class_upper w, fun w => rclass_yes _ upper w (fun b w => member_upper b w)⟩
  | false =>
  cases hlower : (n.toList == [108, 111, 119, 101, 114]) with
  | true =>
    obtain rfl := name_of hlower
    exact ⟨lower, 0, fun w => class_lower w, fun w => rclass_yes _ lower w (fun b w => member_lower b w)⟩
  | false =>
  cases hxdigit : (n.toList == [120, 100, 105, 103, 105, 116]) with
  | true =>
    obtain rfl := name_of hxdigit
    exact ⟨xdigit, 0, fun w => class_xdigit w, fun w => rclass_yes _ xdigit w (fun b w => member_xdigit b w)⟩
  | false =>
  cases hblank : (n.toList == [98, 108, 97, 110, 107]) with
  | true =>
    obtain rfl := name_of hblank
    exact ⟨blank, 0, fun w => class_blank w, fun w => rclass_yes _ blank w (fun b w => member_blank b w)⟩
  | false =>
  cases hspace : (n.toList == [115, 112, 97, 99, 101]) with
  | true =>
    obtain rfl := name_of hspace
    exact ⟨space, 0, fun w => class_space w, fun w => rclass_yes _ space w (fun b w => member_space b w)⟩
  | false =>
  cases hcntrl : (n.toList == [99, 110, 116, 114, 108]) with
  | true =>
    obtain rfl := name_of hcntrl
    exact ⟨cntrl, 0, fun w => class_cntrl w, fun w => rclass_yes _ cntrl w (fun b w => member_cntrl b w)⟩
  | false =>
  cases hgraph : (n.toList == [103, 114, 97, 112, 104]) with
  | true =>
    obtain rfl := name_of hgraph
    exact ⟨graph, 0, fun w => class_graph w, fun w => rclass_yes _ graph w (fun b w => member_graph b w)⟩
  | false =>
  cases hprint : (n.toList == [112, 114, 105, 110, 116]) with
  | true =>
    obtain rfl := name_of hprint
    exact ⟨print, 0, fun w => class_print w, fun w => rclass_yes _ print w (fun b w => member_print b w)⟩
  | false =>
  cases hpunct : (n.toList == [112, 117, 110, 99, 116]) with
  | true =>
    obtain rfl := name_of hpunct
    exact ⟨punct, 0, fun w => class_punct w, fun w => rclass_yes _ punct w (fun b w => member_punct b w)⟩
  | false =>
  exact ⟨Oct.none, 30, fun w => class_no n w halpha hdigit halnum hupper hlower hxdigit hblank hspace hcntrl hgraph hprint hpunct, fun w => rclass_no n w (fun b w => member_no n b w halpha hdigit halnum hupper hlower hxdigit hblank hspace hcntrl hgraph hprint hpunct)⟩
end Go.Proofs.Ytkgpmaclaahmbaa
