/- heronlaw04.set: a node of some bytes. -/
import Derived.Test.YtlcnmfgmgiijpaaG24
namespace Go.Proofs.Ytlcnmfgmgiijpaa
open Go.RowKit
attribute [local go_sem ↓] Go.wp_at_zero Go.wp_at_succ

def FrS (act a : Act) : Prop := a.tmps.size = 30 ∧ a.defers = act.defers ∧ ∀ k, k < 11 ∨ 28 ≤ k → a.tmps[k]? = act.tmps[k]?
theorem FrS.put {act a : Act} (h : FrS act a) {k : Nat} (hd : 11 ≤ k) (hd2 : k < 28) (v : Value) : FrS act (a.put (some k) v) := by
  obtain ⟨h1, h2, h3⟩ := h
  refine ⟨by simp [Act.put, h1], by simp [Act.put, h2], fun j hj => ?_⟩
  simp only [Act.put]
  rw [Array.getElem?_setIfInBounds_ne (by omega)]
  exact h3 j hj
theorem frS_T {act a : Act} (h : FrS act a) {k : Nat} (hk : k < 11 ∨ 28 ≤ k) : T a k = T act k := by unfold T; rw [h.2.2 k hk]
theorem frS_lit {act a : Act} (h : FrS act a) (hs : act.tmps.size = 30) : a = (((((((((((((((((act.put (some 11) (T a 11)).put (some 12) (T a 12)).put (some 13) (T a 13)).put (some 14) (T a 14)).put (some 15) (T a 15)).put (some 16) (T a 16)).put (some 17) (T a 17)).put (some 18) (T a 18)).put (some 19) (T a 19)).put (some 20) (T a 20)).put (some 21) (T a 21)).put (some 22) (T a 22)).put (some 23) (T a 23)).put (some 24) (T a 24)).put (some 25) (T a 25)).put (some 26) (T a 26)).put (some 27) (T a 27)) := by
  obtain ⟨h1, h2, h3⟩ := h
  obtain ⟨tmps, defers⟩ := a
  simp only at h1 h2 h3
  simp only [Act.put, Act.mk.injEq]
  refine ⟨?_, h2⟩
  apply Array.ext_getElem?
  intro k
  have hT : ∀ j, j < 30 → tmps[j]? = some (T ⟨tmps, defers⟩ j) := fun j hj => by
    have : j < tmps.size := by omega
    simp [T, this]
  by_cases hk : k < 11 ∨ 28 ≤ k
  · rw [h3 k hk, Array.getElem?_setIfInBounds_ne (by omega), Array.getElem?_setIfInBounds_ne (by omega), Array.getElem?_setIfInBounds_ne (by omega), Array.getElem?_setIfInBounds_ne (by omega), Array.getElem?_setIfInBounds_ne (by omega), Array.getElem?_setIfInBounds_ne (by omega), Array.getElem?_setIfInBounds_ne (by omega), Array.getElem?_setIfInBounds_ne (by omega), Array.getElem?_setIfInBounds_ne (by omega), Array.getElem?_setIfInBounds_ne (by omega), Array.getElem?_setIfInBounds_ne (by omega), Array.getElem?_setIfInBounds_ne (by omega), Array.getElem?_setIfInBounds_ne (by omega), Array.getElem?_setIfInBounds_ne (by omega), Array.getElem?_setIfInBounds_ne (by omega), Array.getElem?_setIfInBounds_ne (by omega), Array.getElem?_setIfInBounds_ne (by omega)]
  · have hk' : k = 11 ∨ k = 12 ∨ k = 13 ∨ k = 14 ∨ k = 15 ∨ k = 16 ∨ k = 17 ∨ k = 18 ∨ k = 19 ∨ k = 20 ∨ k = 21 ∨ k = 22 ∨ k = 23 ∨ k = 24 ∨ k = 25 ∨ k = 26 ∨ k = 27 := by omega
    rcases hk' with rfl | rfl | rfl | rfl | rfl | rfl | rfl | rfl | rfl | rfl | rfl | rfl | rfl | rfl | rfl | rfl | rfl <;> rw [hT _ (by decide)] <;> simp [hs]
def RS (V k i : Nat) (s : ByteArray) (b : Nat) (x : Oct.S) : Nat → Value → World → Prop
  | 0, v, _ => v = .string s
  | 1, v, _ => v = .int .i64 (k : Nat)
  | 2, v, _ => v = .int .u8 (b : Nat)
  | 3, v, _ => v = .int .u8 (i : Nat)
  | 4, v, _ => v = .string s
  | 5, v, _ => v = .int .i64 (k : Nat)
  | 6, v, _ => v = .int .u8 (b : Nat)
  | 7, v, _ => v = .int .u8 (i : Nat)
  | 8, v, _ => v = .pointer (some ⟨V, i, none⟩)
  | 9, v, _ => v = .int .u64 (Oct.word x i : Nat)
  | 10, v, _ => v = .string s
  | 11, v, _ => v = .int .i64 (k : Nat)
  | 12, v, _ => v = .int .u8 (b : Nat)
  | 13, v, _ => v = .int .u8 ((b % 64 : Nat) : Int)
  | 14, v, _ => v = .int .u64 (IntKind.u64.wrap (2 ^ (b % 64)))
  | 15, v, _ => v = .int .u64 (Oct.word (Oct.ins x b) i : Nat)
  | 16, v, _ => v = .pointer (some ⟨V, i, none⟩)
  | _, _, _ => True
set_option maxRecDepth 100000 in
set_option maxHeartbeats 4000000 in
theorem regS {act : Act} {s : ByteArray} {V : Nat} {W : World} {k b : Nat} {x : Oct.S} {Q : Exit → Act → World → Prop} (hT0 : T act 0 = .string s) (hT4 : T act 4 = .int .i64 (k : Nat)) (hT3 : T act 3 = .pointer (some ⟨V, 0, none⟩)) (hsz : act.tmps.size = 30)
    (hS : SB W V x) (hk : k < s.size) (hb : s[k].toNat = b) (hi : b / 64 = 1) (hq : ((b : Nat) : Int).tdiv 64 = 1)
    (K : ∀ a' u, FrS act a' → Below W.heap.size W u → Q .normal a' (u.setCell ⟨V, 1, none⟩ (.int .u64 (Oct.word (Oct.ins x b) 1 : Nat)))) : (Code.region 5 (opsOf Try.f22 5) true).wp Try.prog Q act W := by
  have hbl : b < 256 := by rw [← hb]; exact UInt8.toNat_lt _
  refine wp_region_last (by kernel_rfl) 17 (by kernel_rfl) (fun i => 11 + i) (RS V k 1 s b x) (FrS act) ?up ?f0 ?sz ?inj (by kernel_rfl) ?duty ⟨hsz, rfl, fun _ _ => rfl⟩
  case up =>
    intro i v w w' h hb
    match i, h with
    | 0, h => exact h
    | 1, h => exact h
    | 2, h => exact h
    | 3, h => exact h
    | 4, h => exact h
    | 5, h => exact h
    | 6, h => exact h
    | 7, h => exact h
    | 8, h => exact h
    | 9, h => exact h
    | 10, h => exact h
    | 11, h => exact h
    | 12, h => exact h
    | 13, h => exact h
    | 14, h => exact h
    | 15, h => exact h
    | 16, h => exact h
    | _ + 17, _ => trivial
  case f0 =>
    intro a i v hi h
    exact h.put (by omega) (by omega) v
  case sz =>
    intro a i hi h
    rw [h.1]
    show 11 + i < 30
    omega
  case inj =>
    intro i j _ _ h
    exact Nat.add_left_cancel h
  case duty =>
    have hTa : ∀ {a : Act}, FrS act a → T a 0 = .string s := fun h => (frS_T h (.inl (by decide))).trans hT0
    have hTb : ∀ {a : Act}, FrS act a → T a 4 = .int .i64 (k : Nat) := fun h => (frS_T h (.inl (by decide))).trans hT4
    have hTc : ∀ {a : Act}, FrS act a → T a 3 = .pointer (some ⟨V, 0, none⟩) := fun h => (frS_T h (.inl (by decide))).trans hT3
    refine ⟨⟨fun _ => ⟨rfl, duty_free rfl (by simp) rfl fun a u hF hB hE Q => ?s0⟩, fun h => absurd h (by decide)⟩, ⟨fun _ => ⟨rfl, duty_free rfl (by simp) rfl fun a u hF hB hE Q => ?s1⟩, fun h => absurd h (by decide)⟩, ⟨fun _ => ⟨rfl, duty_free rfl (by simp) rfl fun a u hF hB hE Q => ?s2⟩, fun h => absurd h (by decide)⟩, ⟨fun _ => ⟨rfl, duty_free rfl (by simp) rfl fun a u hF hB hE Q => ?s3⟩, fun h => absurd h (by decide)⟩, ⟨fun _ => ⟨rfl, duty_free rfl (by simp) rfl fun a u hF hB hE Q => ?s4⟩, fun h => absurd h (by decide)⟩, ⟨fun _ => ⟨rfl, duty_free rfl (by simp) rfl fun a u hF hB hE Q => ?s5⟩, fun h => absurd h (by decide)⟩, ⟨fun _ => ⟨rfl, duty_free rfl (by simp) rfl fun a u hF hB hE Q => ?s6⟩, fun h => absurd h (by decide)⟩, ⟨fun _ => ⟨rfl, duty_free rfl (by simp) rfl fun a u hF hB hE Q => ?s7⟩, fun h => absurd h (by decide)⟩, ⟨fun _ => ⟨rfl, duty_free rfl (by simp) rfl fun a u hF hB hE Q => ?s8⟩, fun h => absurd h (by decide)⟩, ⟨fun _ => ⟨rfl, duty_free rfl (by simp) rfl fun a u hF hB hE Q => ?s9⟩, fun h => absurd h (by decide)⟩, ⟨fun _ => ⟨rfl, duty_free rfl (by simp) rfl fun a u hF hB hE Q => ?s10⟩, fun h => absurd h (by decide)⟩, ⟨fun _ => ⟨rfl, duty_free rfl (by simp) rfl fun a u hF hB hE Q => ?s11⟩, fun h => absurd h (by decide)⟩, ⟨fun _ => ⟨rfl, duty_free rfl (by simp) rfl fun a u hF hB hE Q => ?s12⟩, fun h => absurd h (by decide)⟩, ⟨fun _ => ⟨rfl, duty_free rfl (by simp) rfl fun a u hF hB hE Q => ?s13⟩, fun h => absurd h (by decide)⟩, ⟨fun _ => ⟨rfl, duty_free rfl (by simp) rfl fun a u hF hB hE Q => ?s14⟩, fun h => absurd h (by decide)⟩, ⟨fun _ => ⟨rfl, duty_free rfl (by simp) rfl fun a u hF hB hE Q => ?s15⟩, fun h => absurd h (by decide)⟩, ⟨fun _ => ⟨rfl, duty_free rfl (by simp) rfl fun a u hF hB hE Q => ?s16⟩, fun h => absurd h (by decide)⟩, ⟨fun h => absurd h (by decide), fun _ => ⟨rfl, by simp, fun a u hF hB hR => ?last⟩⟩, trivial⟩
    case s0 => exact ob_move rfl (hTa hF) rfl
    case s1 => exact ob_move rfl (hTb hF) rfl
    case s2 => exact ob_index9 rfl (hE ⟨0, .data⟩ (by simp) rfl) (hE ⟨1, .data⟩ (by simp) rfl) hk (by show _ = _; rw [hb])
    case s3 =>
      have hx : T a 13 = .int .u8 (b : Nat) := hE ⟨2, .data⟩ (by simp) rfl
      refine ob_value (v := .int .u8 1) (w' := u) ?_ (Below.refl _ _) rfl
      unfold T at hx
      simp [execOp, Act.eval, hx, go_sem, hq, IntKind.wrap_u8]
    case s4 => exact ob_move rfl (hTa hF) rfl
    case s5 => exact ob_move rfl (hTb hF) rfl
    case s6 => exact ob_index9 rfl (hE ⟨4, .data⟩ (by simp) rfl) (hE ⟨5, .data⟩ (by simp) rfl) hk (by show _ = _; rw [hb])
    case s7 =>
      have hx : T a 17 = .int .u8 (b : Nat) := hE ⟨6, .data⟩ (by simp) rfl
      refine ob_value (v := .int .u8 1) (w' := u) ?_ (Below.refl _ _) rfl
      unfold T at hx
      simp [execOp, Act.eval, hx, go_sem, hq, IntKind.wrap_u8]
    case s8 =>
      have hx : T a 18 = .int .u8 ((1 : Nat) : Int) := hE ⟨7, .data⟩ (by simp) rfl
      have hy := hTc hF
      refine ob_value (v := .pointer (some ⟨V, 1, none⟩)) (w' := u) ?_ (Below.refl _ _) rfl
      unfold T at hx hy
      simp [execOp, Act.eval, hx, hy, go_sem]
    case s9 =>
      have hx : T a 19 = .pointer (some ⟨V, 1, none⟩) := hE ⟨8, .data⟩ (by simp) rfl
      have c1 := (hS.later hB).cells.2.1
      refine ob_value (v := .int .u64 (Oct.word x 1 : Nat)) (w' := u) ?_ (Below.refl _ _) rfl
      unfold T at hx
      simp [execOp, Act.eval, hx, go_sem, c1]
    case s10 => exact ob_move rfl (hTa hF) rfl
    case s11 => exact ob_move rfl (hTb hF) rfl
    case s12 => exact ob_index9 rfl (hE ⟨10, .data⟩ (by simp) rfl) (hE ⟨11, .data⟩ (by simp) rfl) hk (by show _ = _; rw [hb])
    case s13 =>
      have hx : T a 23 = .int .u8 (b : Nat) := hE ⟨12, .data⟩ (by simp) rfl
      refine ob_value (v := .int .u8 ((b % 64 : Nat) : Int)) (w' := u) ?_ (Below.refl _ _) rfl
      unfold T at hx
      simp [execOp, Act.eval, hx, go_sem]
      rw [Int.tmod_eq_emod_of_nonneg (by omega)]
    case s14 =>
      have hx : T a 24 = .int .u8 ((b % 64 : Nat) : Int) := hE ⟨13, .data⟩ (by simp) rfl
      refine ob_value (v := .int .u64 (IntKind.u64.wrap (2 ^ (b % 64)))) (w' := u) ?_ (Below.refl _ _) rfl
      unfold T at hx
      simp [execOp, Act.eval, hx, go_sem]
      rw [show ((b : Int) % 64).toNat = b % 64 by omega]
    case s15 =>
      have hx : T a 20 = .int .u64 (Oct.word x 1 : Nat) := hE ⟨9, .data⟩ (by simp) rfl
      have hy : T a 25 = .int .u64 (IntKind.u64.wrap (2 ^ (b % 64))) := hE ⟨14, .data⟩ (by simp) rfl
      have ob := or_bit x b 1 hi
      refine ob_value (v := .int .u64 (Oct.word (Oct.ins x b) 1 : Nat)) (w' := u) ?_ (Below.refl _ _) rfl
      rw [← ob]
      unfold T at hx hy
      simp [execOp, Act.eval, hx, hy, go_sem]
    case s16 =>
      have hx : T a 14 = .int .u8 ((1 : Nat) : Int) := hE ⟨3, .data⟩ (by simp) rfl
      have hy := hTc hF
      refine ob_value (v := .pointer (some ⟨V, 1, none⟩)) (w' := u) ?_ (Below.refl _ _) rfl
      unfold T at hx hy
      simp [execOp, Act.eval, hx, hy, go_sem]
    case last =>
      have hS0 := hS.later hB
      have hv : T a 26 = .int .u64 (Oct.word (Oct.ins x b) 1 : Nat) := hR 15 (by decide)
      have hp : T a 27 = .pointer (some ⟨V, 1, none⟩) := hR 16 (by decide)
      have c1 := hS0.cells.2.1
      have f1 := hS0.frozen 1
      refine ob_skip (w' := u.setCell ⟨V, 1, none⟩ (.int .u64 (Oct.word (Oct.ins x b) 1 : Nat))) ?_ ?_
      · unfold T at hv hp
        simp [execOp, Act.eval, hv, hp, go_sem, c1, f1]
      · exact K _ _ hF hB
end Go.Proofs.Ytlcnmfgmgiijpaa

/- heronlaw04.set, walked; num; what the document gives, computed. -/
namespace Go.Proofs.Ytlcnmfgmgiijpaa
open Go.RowKit
attribute [local go_sem ↓] Go.wp_at_zero Go.wp_at_succ

def insTo (s : ByteArray) : Nat → Oct.S
  | 0 => Oct.none
  | k + 1 => Oct.ins (insTo s k) (byt s k)
theorem num_any (e : Int) (w : World) : Calls Try.prog 10 #[.int .i64 e] w fun r w' => r = .returned (.int .i64 e) ∧ w' = w := by
  go_enter Try.func10, Try.ntmps10
  go_wp2
  go_ret
  exact ⟨rfl, rfl⟩
theorem sb_ins {u : World} {V b : Nat} {x : Oct.S} (h : SB u V x) (hi : b / 64 = 1) : SB (u.setCell ⟨V, 1, none⟩ (.int .u64 (Oct.word (Oct.ins x b) 1 : Nat))) V (Oct.ins x b) :=
  h.set 1 (by decide) _ rfl (fun i hi4 hne => by
    have := ins_oth x b 1 i hi (Ne.symm hne)
    omega)
/-- THE STATE -/
structure Sw (w : World) (s : ByteArray) (R V : Nat) (u : World) (k : Nat) : Prop where
  res : NB u R zeroNd
  box : SB u V (insTo s k)
  be : Below w.heap.size w u
  hR : w.heap.size ≤ R
  hV : w.heap.size ≤ V
  hne : R ≠ V
theorem Sw.later {w : World} {s : ByteArray} {R V : Nat} {u u' : World} {k : Nat} (h : Sw w s R V u k) (hb : Below u.heap.size u u') : Sw w s R V u' k := ⟨h.res.later hb, h.box.later hb, below_step h.be hb, h.hR, h.hV, h.hne⟩
theorem Sw.step {w : World} {s : ByteArray} {R V : Nat} {u : World} {k : Nat} (h : Sw w s R V u k) (hi : byt s k / 64 = 1) : Sw w s R V (u.setCell ⟨V, 1, none⟩ (.int .u64 (Oct.word (Oct.ins (insTo s k) (byt s k)) 1 : Nat))) (k + 1) :=
  ⟨h.res.set h.hne _ _, sb_ins h.box hi, h.be.setCell (p := ⟨V, 1, none⟩) h.hV _, h.hR, h.hV, h.hne⟩
set_option maxRecDepth 4000 in
set_option maxHeartbeats 800000 in
theorem set_law (s : ByteArray) (w : World) (hs : s.size ≤ 1024) (hb : ∀ k, k < s.size → byt s k / 64 = 1) : Calls Try.prog 22 #[.string s] w fun e w' => e = .returned (Nd.val ⟨(2 : Nat), insTo s s.size, none, 0, 0, 0, 0⟩) ∧ Below w.heap.size w w' := by
  have HBY : Hid (∀ k, k < s.size → byt s k / 64 = 1) := hb
  obtain ⟨X, hX⟩ : ∃ X, insTo s s.size = X := ⟨_, rfl⟩
  rw [hX]
  have HXE : Hid (insTo s s.size = X) := hX
  clear hX
  obtain ⟨w0, hw0⟩ : ∃ w0, w0 = w.alloc (.cells #[.int .i64 0, .int .u64 0, .int .u64 0, .int .u64 0, .int .u64 0, .slice none 0 0, .int .i64 0, .int .i64 0] 28) := ⟨_, rfl⟩
  obtain ⟨w1, hw1⟩ : ∃ w1, w1 = w0.alloc (.cells #[.int .u64 0, .int .u64 0, .int .u64 0, .int .u64 0] 25) := ⟨_, rfl⟩
  have z0 : w0.heap.size = w.heap.size + 1 := by rw [hw0]; simp
  have k0 : Below w.heap.size w w0 := by rw [hw0]; exact (Below.refl _ _).alloc (Nat.le_refl _) _
  have k1 : Below w0.heap.size w0 w1 := by rw [hw1]; exact (Below.refl _ _).alloc (Nat.le_refl _) _
  have HS1 : Hid (Sw w s w.heap.size (w.heap.size + 1) w1 0) :=
    ⟨by have hb0 : NB w0 w.heap.size zeroNd := (by rw [hw0]; exact nb_zero w); exact hb0.later k1, by have hb1 : SB w1 w0.heap.size Oct.none := (by rw [hw1]; exact sb_zero w0); rw [z0] at hb1; exact hb1, below_step k0 k1, Nat.le_refl _, by omega, by omega⟩
  have HW1 : Hid (w0.alloc (.cells #[.int .u64 0, .int .u64 0, .int .u64 0, .int .u64 0] 25) = w1) := hw1.symm
  have HW0 : Hid (w.alloc (.cells #[.int .i64 0, .int .u64 0, .int .u64 0, .int .u64 0, .int .u64 0, .slice none 0 0, .int .i64 0, .int .i64 0] 28) = w0) := hw0.symm
  obtain ⟨R, hR⟩ : ∃ R, w.heap.size = R := ⟨_, rfl⟩
  obtain ⟨V, hV⟩ : ∃ V, w.heap.size + 1 = V := ⟨_, rfl⟩
  have HS2 : Hid (Sw w s R V w1 0) := by have := HS1.out; rw [hV] at this; rw [hR] at this; exact this
  have HRR : Hid (w.heap.size = R) := hR
  have HVV : Hid (w.heap.size + 1 = V) := hV
  clear hw0 hw1 z0 k0 k1 hb hR hV HS1
  go_enter Try.func22, Try.ntmps22
  go_upto_region 2 with fail
  rw [HW0.out, HW1.out, HVV.out, HRR.out]
  clear HW0 HW1 HRR HVV
  go_wp2_with fail
  go_loopw [4] (fun i u => ∃ k : Nat, i = .int .i64 (k : Nat) ∧ k ≤ s.size ∧ Hid (Sw w s R V u k)) (fun i _ => s.size - (intOf i).toNat)
  case atStart => exact ⟨0, rfl, Nat.zero_le _, HS2⟩
  case round =>
    clear HS2
    obtain ⟨k, rfl, hk, hsw⟩ := hrel
    by_cases hlt : k < s.size
    · have hbk := HBY.out k hlt
      have HBK : Hid (byt s k / 64 = 1) := hbk
      have hbq : ((byt s k : Nat) : Int).tdiv 64 = 1 := by rw [Int.tdiv_eq_ediv_of_nonneg (by omega)]; omega
      have HBQ : Hid (((byt s k : Nat) : Int).tdiv 64 = 1) := hbq
      clear hbk hbq
      go_upto_region 5 with fail
      refine regS (s := s) (V := V) (k := k) (b := byt s k) (x := insTo s k) rfl rfl rfl rfl hsw.out.box hlt (byt_eq hlt).symm HBK.out HBQ.out ?_
      intro a' u hfr hbe
      rw [frS_lit hfr rfl]
      have HS3 : Hid (Sw w s R V (u.setCell ⟨V, 1, none⟩ (.int .u64 (Oct.word (Oct.ins (insTo s k) (byt s k)) 1 : Nat))) (k + 1)) := (hsw.out.later hbe).step HBK.out
      obtain ⟨w5, hw5⟩ : ∃ w5, w5 = u.setCell ⟨V, 1, none⟩ (.int .u64 (Oct.word (Oct.ins (insTo s k) (byt s k)) 1 : Nat)) := ⟨_, rfl⟩
      rw [← hw5] at HS3 ⊢
      obtain ⟨v11, e11⟩ : ∃ v, v = T a' 11 := ⟨_, rfl⟩
      obtain ⟨v12, e12⟩ : ∃ v, v = T a' 12 := ⟨_, rfl⟩
      obtain ⟨v13, e13⟩ : ∃ v, v = T a' 13 := ⟨_, rfl⟩
      obtain ⟨v14, e14⟩ : ∃ v, v = T a' 14 := ⟨_, rfl⟩
      obtain ⟨v15, e15⟩ : ∃ v, v = T a' 15 := ⟨_, rfl⟩
      obtain ⟨v16, e16⟩ : ∃ v, v = T a' 16 := ⟨_, rfl⟩
      obtain ⟨v17, e17⟩ : ∃ v, v = T a' 17 := ⟨_, rfl⟩
      obtain ⟨v18, e18⟩ : ∃ v, v = T a' 18 := ⟨_, rfl⟩
      obtain ⟨v19, e19⟩ : ∃ v, v = T a' 19 := ⟨_, rfl⟩
      obtain ⟨v20, e20⟩ : ∃ v, v = T a' 20 := ⟨_, rfl⟩
      obtain ⟨v21, e21⟩ : ∃ v, v = T a' 21 := ⟨_, rfl⟩
      obtain ⟨v22, e22⟩ : ∃ v, v = T a' 22 := ⟨_, rfl⟩
      obtain ⟨v23, e23⟩ : ∃ v, v = T a' 23 := ⟨_, rfl⟩
      obtain ⟨v24, e24⟩ : ∃ v, v = T a' 24 := ⟨_, rfl⟩
      obtain ⟨v25, e25⟩ : ∃ v, v = T a' 25 := ⟨_, rfl⟩
      obtain ⟨v26, e26⟩ : ∃ v, v = T a' 26 := ⟨_, rfl⟩
      obtain ⟨v27, e27⟩ : ∃ v, v = T a' 27 := ⟨_, rfl⟩
      rw [← e11, ← e12, ← e13, ← e14, ← e15, ← e16, ← e17, ← e18, ← e19, ← e20, ← e21, ← e22, ← e23, ← e24, ← e25, ← e26, ← e27]
      clear e11 e12 e13 e14 e15 e16 e17 e18 e19 e20 e21 e22 e23 e24 e25 e26 e27
      clear hfr hbe hw5
      go_wp2_with fail
      go_roundw
      case rel => exact ⟨k + 1, by go_num, by omega, HS3⟩
      case measure => simp [intOf]; omega
    · have hke : k = s.size := by omega
      have HSE : Hid (Sw w s R V wr s.size) := by rw [← hke]; exact hsw.out
      clear hsw hke
      have HBX : Hid (SB wr V X) := by have := HSE.out.box; rw [HXE.out] at this; exact this
      obtain ⟨b0, b1, b2, b3⟩ := HBX.out.cells
      obtain ⟨z0, z1, z2, z3, z4, z5, z6, z7⟩ := HSE.out.res.cells
      have y0 := HSE.out.res.frozen 0
      have y1 := HSE.out.res.frozen 1
      have y2 := HSE.out.res.frozen 2
      have y3 := HSE.out.res.frozen 3
      have y4 := HSE.out.res.frozen 4
      have y5 := HSE.out.res.frozen 5
      have y6 := HSE.out.res.frozen 6
      have y7 := HSE.out.res.frozen 7
      go_wp2
      refine post_node Try.f22 2 rfl rfl rfl (HSE.out.res.put8 ⟨(2 : Nat), X, none, 0, 0, 0, 0⟩) ?_
      exact ⟨rfl, below_put8 HSE.out.be HSE.out.hR ⟨(2 : Nat), X, none, 0, 0, 0, 0⟩⟩
end Go.Proofs.Ytlcnmfgmgiijpaa
