/- Contracts of the calls on one set and one byte: octets.Has, with, without; the document's Has and with: by walking their bodies. -/
import Derived.Test.YtemmicnhnaafmaaG00
import Derived.Test.YtemmicnhnaafmaaRows
import Derived.WalkKit
import Derived.WalkLawsBesides
import Derived.WalkSpells
import Derived.OwnWalk
import Derived.Laws.BitsAllLaws
import Derived.Deep.QuietTactic
import Derived.BigQuiet
namespace Go.Proofs.Ytemmicnhnaafmaa
open Go.RowKit

theorem ret_int {k : IntKind} {a b : Int} (h : a = b) : Ending.returned (.int k a) = .returned (.int k b) := by rw [h]
theorem ret_bool {a b : Bool} (h : a = b) : Ending.returned (.bool a) = .returned (.bool b) := by rw [h]
theorem below_trans {w w1 w2 : World} {B : Nat} (h1 : Below B w w1) (h2 : Below w1.heap.size w1 w2) (hB : B ≤ w1.heap.size) : Below B w w2 := h1.trans (h2.mono hB)
/-- a set as a value -/
def setV (s : Oct.S) : Value := .agg #[.int .u64 (Oct.word s 0 : Nat), .int .u64 (Oct.word s 1 : Nat), .int .u64 (Oct.word s 2 : Nat), .int .u64 (Oct.word s 3 : Nat)]
theorem setV_congr {s t : Oct.S} (h : ∀ b, b < 256 → s b = t b) : setV s = setV t := by
  unfold setV
  rw [Oct.word_congr (s := s) (t := t) (i := 0) (fun k hk => h _ (by omega)), Oct.word_congr (s := s) (t := t) (i := 1) (fun k hk => h _ (by omega)), Oct.word_congr (s := s) (t := t) (i := 2) (fun k hk => h _ (by omega)), Oct.word_congr (s := s) (t := t) (i := 3) (fun k hk => h _ (by omega))]

theorem has_bit (s : Oct.S) (b i : Nat) (h : b / 64 = i) : (bits .and .u64 ((Oct.word s i : Nat) / 2 ^ (b % 64)) 1 == 1) = s b := by
  have hw := Oct.word_has s b
  rw [h] at hw
  have e : ((Oct.word s i : Nat) : Int) / 2 ^ (b % 64) = ((Oct.word s i / 2 ^ (b % 64) : Nat) : Int) := by simp
  have hl : Oct.word s i / 2 ^ (b % 64) < 18446744073709551616 := Nat.lt_of_le_of_lt (Nat.div_le_self _ _) (Oct.word_lt s i)
  rw [e, show (1 : Int) = ((1 : Nat) : Int) from rfl, u64_and_nat _ _ hl (by decide), nat_mask1, hw]
  cases s b <;> simp
theorem quo4 {b : Nat} (hb : b < 256) : (b / 64 = 0 ∧ (b : Int) / 64 = 0) ∨ (b / 64 = 1 ∧ (b : Int) / 64 = 1) ∨ (b / 64 = 2 ∧ (b : Int) / 64 = 2) ∨ (b / 64 = 3 ∧ (b : Int) / 64 = 3) := by omega
theorem has_any (s : Oct.S) (b : Nat) (w : World) (hb : b < 256) : Calls Try.prog 14 #[setV s, .int .u8 b] w fun e w' => e = .returned (.bool (s b)) ∧ Below w.heap.size w w' := by
  unfold setV
  rcases quo4 hb with ⟨hn, hq⟩ | ⟨hn, hq⟩ | ⟨hn, hq⟩ | ⟨hn, hq⟩
  all_goals
    have HN : Hid (b / 64 = _) := hn
    clear hn
    go_enter Try.func14, Try.ntmps14
    go_wp2
    go_ret
    exact ⟨ret_bool (has_bit s b _ HN.out), (Below.refl _ _).alloc (Nat.le_refl _) _⟩
theorem ret4 {a0 a1 a2 a3 b0 b1 b2 b3 : Int} (h0 : a0 = b0) (h1 : a1 = b1) (h2 : a2 = b2) (h3 : a3 = b3) : Ending.returned (.agg #[.int .u64 a0, .int .u64 a1, .int .u64 a2, .int .u64 a3]) = .returned (.agg #[.int .u64 b0, .int .u64 b1, .int .u64 b2, .int .u64 b3]) := by rw [h0, h1, h2, h3]
theorem pow_lt64 {k : Nat} (hk : k < 64) : 2 ^ k < 18446744073709551616 := by
  show 2 ^ k < 2 ^ 64
  exact Nat.pow_lt_pow_right (by decide) hk
theorem wrap_pow {k : Nat} (hk : k < 64) : IntKind.u64.wrap (2 ^ k) = ((2 ^ k : Nat) : Int) := by
  have h := pow_lt64 hk
  have e : (2 : Int) ^ k = ((2 ^ k : Nat) : Int) := by simp
  generalize 2 ^ k = x at h e
  rw [e, IntKind.wrap_u64]
  omega
theorem or_bit (s : Oct.S) (b i : Nat) (h : b / 64 = i) : bits .or .u64 (Oct.word s i : Nat) (IntKind.u64.wrap (2 ^ (b % 64))) = (Oct.word (Oct.ins s b) i : Nat) := by
  have hk : b % 64 < 64 := by omega
  rw [wrap_pow hk, u64_or_nat _ _ (Oct.word_lt s i) (pow_lt64 hk), Oct.word_ins_same s i _ hk]
  congr 3
  omega
theorem ins_oth (s : Oct.S) (b i j : Nat) (h : b / 64 = i) (hne : i ≠ j) : ((Oct.word s j : Nat) : Int) = (Oct.word (Oct.ins s b) j : Nat) := by
  have hk : b % 64 < 64 := by omega
  rw [Oct.word_ins_other s i j _ hk hne]
  congr 3
  omega
theorem del_bit (s : Oct.S) (b i : Nat) (h : b / 64 = i) : bits .andNot .u64 (Oct.word s i : Nat) (IntKind.u64.wrap (2 ^ (b % 64))) = (Oct.word (Oct.del s b) i : Nat) := by
  have hk : b % 64 < 64 := by omega
  rw [wrap_pow hk, u64_andNot_nat _ _ (Oct.word_lt s i) (pow_lt64 hk), Oct.word_del_same s i _ hk]
  congr 3
  omega
theorem del_oth (s : Oct.S) (b i j : Nat) (h : b / 64 = i) (hne : i ≠ j) : ((Oct.word s j : Nat) : Int) = (Oct.word (Oct.del s b) j : Nat) := by
  have hk : b % 64 < 64 := by omega
  rw [Oct.word_del_other s i j _ hk hne]
  congr 3
  omega
theorem with_any (s : Oct.S) (b : Nat) (w : World) (hb : b < 256) : Calls Try.prog 30 #[setV s, .int .u8 b] w fun e w' => e = .returned (setV (Oct.ins s b)) ∧ Below w.heap.size w w' := by
  unfold setV
  rcases quo4 hb with ⟨hn, hq⟩ | ⟨hn, hq⟩ | ⟨hn, hq⟩ | ⟨hn, hq⟩
  all_goals
    have HN : Hid (b / 64 = _) := hn
    clear hn
    go_enter Try.func30, Try.ntmps30
    go_wp2
    refine bodyPost_ret (by simp [results, Try.results30, go_sem]; exact ⟨rfl, rfl, rfl, rfl⟩) rfl ⟨ret4 ?_ ?_ ?_ ?_, ((Below.refl _ _).alloc (Nat.le_refl _) _).alloc (by simp) _⟩
    all_goals (first | exact or_bit s b _ HN.out | exact ins_oth s b _ _ HN.out (by decide))
/-! ### the document's -/
theorem rhas_bit (s : Oct.S) (b i : Nat) (h : b / 64 = i) : ((((Oct.word s i / 2 ^ (b % 64) : Nat) : Int) % 2) == 1) = s b := by
  have hw := Oct.word_has s b
  rw [h] at hw
  have e : (((Oct.word s i / 2 ^ (b % 64) : Nat) : Int) % 2) = ((Oct.word s i / 2 ^ (b % 64) % 2 : Nat) : Int) := by simp
  rw [e, hw]
  cases s b <;> simp
theorem rhas_any (s : Oct.S) (b : Nat) (w : World) (hb : b < 256) : Calls Try.prog 31 #[setV s, .int .i64 b] w fun e w' => e = .returned (.bool (s b)) ∧ Below w.heap.size w w' := by
  unfold setV
  rcases quo4 hb with ⟨hn, hq⟩ | ⟨hn, hq⟩ | ⟨hn, hq⟩ | ⟨hn, hq⟩
  all_goals
    have HN : Hid (b / 64 = _) := hn
    clear hn
    go_enter Try.func31, Try.ntmps31
    go_wp2
    go_loop [5, 6] (fun x i => ∃ k : Nat, k ≤ b % 64 ∧ i = .int .i64 k ∧ x = .int .u64 (Oct.word s (b / 64) / 2 ^ k : Nat)) (fun _ i => 64 - (intOf i).toNat)
    case atStart => exact ⟨0, Nat.zero_le _, rfl, by rw [HN.out]; simp⟩
    case round =>
      obtain ⟨k, hk, rfl, rfl⟩ := hrel
      have hl : Oct.word s (b / 64) / 2 ^ k < 18446744073709551616 := Nat.lt_of_le_of_lt (Nat.div_le_self _ _) (Oct.word_lt s _)
      have HS : Hid (Oct.word s (b / 64) / 2 ^ (k + 1) = Oct.word s (b / 64) / 2 ^ k / 2) := by
        show _ = _
        rw [Nat.div_div_eq_div_mul, Nat.pow_succ]
      have HR : Hid (k = b % 64 → ((((Oct.word s (b / 64) / 2 ^ k : Nat) : Int) % 2) == 1) = s b) := fun e => by rw [e]; exact rhas_bit s b _ rfl
      obtain ⟨x, hx⟩ : ∃ x, x = Oct.word s (b / 64) / 2 ^ k := ⟨_, rfl⟩
      rw [← hx] at hl HS HR ⊢
      clear hx
      by_cases hlt : k < b % 64
      · go_wp2
        go_round
        case rel => exact ⟨k + 1, by omega, by go_num, by rw [HS.out]; simp⟩
        case measure => simp [intOf]; omega
      · go_wp2
        go_ret
        exact ⟨ret_bool (HR.out (by omega)), (Below.refl _ _).alloc (Nat.le_refl _) _⟩
theorem add_bit (s : Oct.S) (b i : Nat) (h : b / 64 = i) (hs : s b = false) : IntKind.u64.wrap (((Oct.word s i : Nat) : Int) + ((2 ^ (b % 64) : Nat) : Int)) = (Oct.word (Oct.ins s b) i : Nat) := by
  have hk : b % 64 < 64 := by omega
  have e : 64 * i + b % 64 = b := by omega
  have h1 := Oct.word_ins_same s i _ hk
  rw [e] at h1
  have h2 : Oct.word s i ||| 2 ^ (b % 64) = Oct.word s i + 2 ^ (b % 64) := by
    have hb : (Oct.word s i).testBit (b % 64) = false := by rw [Oct.word_bit, e, hs]; simp
    have h4 := Nat.testBit_or (Oct.word s i) (2 ^ (b % 64))
    apply Oct.or_add hb
  have h3 := Oct.word_lt (Oct.ins s b) i
  rw [h2] at h1
  rw [IntKind.wrap_u64, ← h1]
  rw [← h1] at h3
  omega
/-- a set's block -/
def SB (w : World) (A : Nat) (s : Oct.S) : Prop := w.heap[A]? = some (.cells #[.int .u64 (Oct.word s 0 : Nat), .int .u64 (Oct.word s 1 : Nat), .int .u64 (Oct.word s 2 : Nat), .int .u64 (Oct.word s 3 : Nat)] 31 (0, 0))
theorem SB.later {w w' : World} {A : Nat} {s : Oct.S} (h : SB w A s) (hb : Below w.heap.size w w') : SB w' A s := (hb.block A (Array.getElem?_eq_some_iff.1 h).1).trans h
theorem SB.lt {w : World} {A : Nat} {s : Oct.S} (h : SB w A s) : A < w.heap.size := (Array.getElem?_eq_some_iff.1 h).1
theorem SB.cells {w : World} {A : Nat} {s : Oct.S} (h : SB w A s) : w.cell? ⟨A, 0, none⟩ = some (.int .u64 (Oct.word s 0 : Nat)) ∧ w.cell? ⟨A, 1, none⟩ = some (.int .u64 (Oct.word s 1 : Nat)) ∧ w.cell? ⟨A, 2, none⟩ = some (.int .u64 (Oct.word s 2 : Nat)) ∧ w.cell? ⟨A, 3, none⟩ = some (.int .u64 (Oct.word s 3 : Nat)) := by
  unfold SB at h
  refine ⟨?_, ?_, ?_, ?_⟩ <;> simp [World.cell?, h]
theorem SB.frozen {w : World} {A : Nat} {s : Oct.S} (h : SB w A s) (j : Nat) : w.frozen? ⟨A, j, none⟩ = false := by
  unfold SB at h
  simp [World.frozen?, h]
theorem SB.other {w : World} {s : Oct.S} {A B : Nat} (h : SB w A s) (hne : A ≠ B) (j : Nat) (v : Value) : SB (w.setCell ⟨B, j, none⟩ v) A s := by
  unfold SB at h ⊢
  rw [Below.heap_setCell w ⟨B, j, none⟩ v A hne]
  exact h
theorem sb_new (w : World) (s : Oct.S) : SB (w.alloc (.cells #[.int .u64 (Oct.word s 0 : Nat), .int .u64 (Oct.word s 1 : Nat), .int .u64 (Oct.word s 2 : Nat), .int .u64 (Oct.word s 3 : Nat)] 31)) w.heap.size s := heap_alloc_new w _
theorem sb_zero (w : World) : SB (w.alloc (.cells #[.int .u64 0, .int .u64 0, .int .u64 0, .int .u64 0] 31)) w.heap.size Oct.none := by
  have h := sb_new w Oct.none
  rw [show Oct.none = fun _ => false from rfl, Oct.word_none, Oct.word_none, Oct.word_none, Oct.word_none] at h
  exact h

/-- a set stored over a set's block, as the walk leaves it -/
def put4 (w : World) (A : Nat) (s : Oct.S) : World := (((w.setCell ⟨A, 0, none⟩ (.int .u64 (Oct.word s 0 : Nat))).setCell ⟨A, 1, none⟩ (.int .u64 (Oct.word s 1 : Nat))).setCell ⟨A, 2, none⟩ (.int .u64 (Oct.word s 2 : Nat))).setCell ⟨A, 3, none⟩ (.int .u64 (Oct.word s 3 : Nat))
theorem SB.put4 {w : World} {A : Nat} {s : Oct.S} (h : SB w A s) (t : Oct.S) : SB (put4 w A t) A t := by
  unfold SB at h ⊢
  unfold Ytemmicnhnaafmaa.put4
  simp only [World.setCell, Array.getElem?_modify, h]
  rfl
theorem SB.put4_other {w : World} {A B : Nat} {s : Oct.S} (h : SB w A s) (hne : A ≠ B) (t : Oct.S) : SB (Ytemmicnhnaafmaa.put4 w B t) A s :=
  (((h.other hne _ _).other hne _ _).other hne _ _).other hne _ _
theorem below_put4 {w u : World} {A B : Nat} (h : Below B w u) (hA : B ≤ A) (t : Oct.S) : Below B w (put4 u A t) :=
  (((h.setCell (p := ⟨A, 0, none⟩) hA _).setCell (p := ⟨A, 1, none⟩) hA _).setCell (p := ⟨A, 2, none⟩) hA _).setCell (p := ⟨A, 3, none⟩) hA _
theorem put4_size (w : World) (A : Nat) (t : Oct.S) : (put4 w A t).heap.size = w.heap.size := by simp [put4]

/-- a function whose one result is a set in a cell -/
theorem post_set (f : Func) (slot : Nat) (hf : f.results = #[.cell slot 31]) {Q : Ending → World → Prop} {a : Act} {w : World} {R : Nat} {s : Oct.S} (hd : a.defers = []) (ha : a.tmps[slot]?.getD undef = .pointer (some ⟨R, 0, none⟩)) (hR : SB w R s) (hQ : Q (.returned (setV s)) w) : bodyPost Try.prog f Q .ret a w := by
  obtain ⟨c0, c1, c2, c3⟩ := hR.cells
  exact bodyPost_ret (by simp only [results, hf]; simp [ha, go_sem, c0, c1, c2, c3, setV]) hd hQ

theorem rwith_any (s : Oct.S) (b : Nat) (w : World) (hb : b < 256) : Calls Try.prog 27 #[setV s, .int .i64 b] w fun e w' => e = .returned (setV (Oct.ins s b)) ∧ Below w.heap.size w w' := by
  have hsame : Hid (s b = true → setV s = setV (Oct.ins s b)) := fun h => setV_congr (fun c hc => by
    by_cases e : c = b
    · subst e; simp [Oct.ins, h]
    · simp [Oct.ins, e])
  have hal : Hid (Below w.heap.size w ((w.alloc (.cells #[.int .u64 (Oct.word s 0 : Nat), .int .u64 (Oct.word s 1 : Nat), .int .u64 (Oct.word s 2 : Nat), .int .u64 (Oct.word s 3 : Nat)] 31)).alloc (.cells #[.int .u64 0, .int .u64 0, .int .u64 0, .int .u64 0] 31))) := ((Below.refl _ _).alloc (Nat.le_refl _) _).alloc (by simp) _
  have hsA : Hid (SB ((w.alloc (.cells #[.int .u64 (Oct.word s 0 : Nat), .int .u64 (Oct.word s 1 : Nat), .int .u64 (Oct.word s 2 : Nat), .int .u64 (Oct.word s 3 : Nat)] 31)).alloc (.cells #[.int .u64 0, .int .u64 0, .int .u64 0, .int .u64 0] 31)) w.heap.size s) := (sb_new w s).later ((Below.refl _ _).alloc (Nat.le_refl _) _)
  have hsR : Hid (SB ((w.alloc (.cells #[.int .u64 (Oct.word s 0 : Nat), .int .u64 (Oct.word s 1 : Nat), .int .u64 (Oct.word s 2 : Nat), .int .u64 (Oct.word s 3 : Nat)] 31)).alloc (.cells #[.int .u64 0, .int .u64 0, .int .u64 0, .int .u64 0] 31)) (w.heap.size + 1) Oct.none) := by
    have h := sb_zero (w.alloc (.cells #[.int .u64 (Oct.word s 0 : Nat), .int .u64 (Oct.word s 1 : Nat), .int .u64 (Oct.word s 2 : Nat), .int .u64 (Oct.word s 3 : Nat)] 31))
    rw [World.size_alloc] at h
    exact h
  go_enter Try.func27, Try.ntmps27
  unfold setV
  go_wp2_with fail
  refine (rhas_any s b _ hb).mono ?_
  rintro e w1 ⟨rfl, hb1⟩
  have HB1 : Hid (Below w.heap.size w w1) := below_trans hal.out hb1 hal.out.size
  have HA1 : Hid (SB w1 w.heap.size s) := hsA.out.later hb1
  have HR1 : Hid (SB w1 (w.heap.size + 1) Oct.none) := hsR.out.later hb1
  clear hb1 hal hsA hsR
  obtain ⟨c0, c1, c2, c3⟩ := HA1.out.cells
  obtain ⟨d0, d1, d2, d3⟩ := HR1.out.cells
  have f0 := HA1.out.frozen 0
  have f1 := HA1.out.frozen 1
  have f2 := HA1.out.frozen 2
  have f3 := HA1.out.frozen 3
  have g0 := HR1.out.frozen 0
  have g1 := HR1.out.frozen 1
  have g2 := HR1.out.frozen 2
  have g3 := HR1.out.frozen 3
  cases hs : s b with
  | true =>
    go_wp2
    exact post_set Try.f27 4 rfl rfl rfl (HR1.out.put4 s) ⟨by rw [hsame.out hs]; rfl, below_put4 HB1.out (by omega) s⟩
  | false =>
    clear hsame
    have HS : Hid (s b = false) := hs
    clear hs c0 c1 c2 c3 d0 d1 d2 d3 f0 f1 f2 f3 g0 g1 g2 g3
    go_wp2
    go_loop [6, 7] (fun x i => ∃ k : Nat, k ≤ b % 64 ∧ i = .int .i64 k ∧ x = .int .u64 (2 ^ k : Nat)) (fun _ i => 64 - (intOf i).toNat)
    case atStart => exact ⟨0, Nat.zero_le _, rfl, rfl⟩
    case round =>
      obtain ⟨k, hk, rfl, rfl⟩ := hrel
      have HP : Hid (2 ^ (k + 1) = 2 ^ k * 2) := by show _ = _; rw [Nat.pow_succ]
      have HK : Hid (k = b % 64 → 2 ^ k = 2 ^ (b % 64)) := fun e => by rw [e]
      have hp1 : k < b % 64 → 2 ^ k * 2 < 18446744073709551616 := fun h => by rw [← HP.out]; exact pow_lt64 (by omega)
      have hp0 : 2 ^ k < 18446744073709551616 := pow_lt64 (by omega)
      obtain ⟨x, hx⟩ : ∃ x, x = 2 ^ k := ⟨_, rfl⟩
      rw [← hx] at HP HK hp1 hp0 ⊢
      clear hx
      by_cases hlt : k < b % 64
      · have hp2 := hp1 hlt
        clear hp1
        go_wp2
        go_round
        case rel => exact ⟨k + 1, by omega, by go_num, by rw [HP.out]; simp⟩
        case measure => simp [intOf]; omega
      · have he : k = b % 64 := by omega
        have hx : x = 2 ^ (b % 64) := HK.out he
        clear hp1
        have HX : Hid (x = 2 ^ (b % 64)) := hx
        clear hx HK HP he
        rcases quo4 hb with ⟨hn, hq⟩ | ⟨hn, hq⟩ | ⟨hn, hq⟩ | ⟨hn, hq⟩
        · have HN : Hid (b / 64 = 0) := hn
          clear hn
          obtain ⟨c0, c1, c2, c3⟩ := HA1.out.cells
          obtain ⟨d0, d1, d2, d3⟩ := HR1.out.cells
          have f0 := HA1.out.frozen 0
          have f1 := HA1.out.frozen 1
          have f2 := HA1.out.frozen 2
          have f3 := HA1.out.frozen 3
          have g0 := HR1.out.frozen 0
          have g1 := HR1.out.frozen 1
          have g2 := HR1.out.frozen 2
          have g3 := HR1.out.frozen 3
          have HX2 : Hid (IntKind.u64.wrap (((Oct.word s 0 : Nat) : Int) + (x : Int)) = (Oct.word (Oct.ins s b) 0 : Nat)) := by
            rw [HX.out]
            exact add_bit s b 0 HN.out HS.out
          go_wp2
          rw [HX2.out, ins_oth s b 0 1 HN.out (by decide), ins_oth s b 0 2 HN.out (by decide), ins_oth s b 0 3 HN.out (by decide)]
          exact post_set Try.f27 4 rfl rfl rfl ((HR1.out.other (by omega) _ _).put4 (Oct.ins s b)) ⟨rfl, below_put4 (HB1.out.setCell (p := ⟨w.heap.size, 0, none⟩) (Nat.le_refl _) _) (by omega) _⟩
        · have HN : Hid (b / 64 = 1) := hn
          clear hn
          obtain ⟨c0, c1, c2, c3⟩ := HA1.out.cells
          obtain ⟨d0, d1, d2, d3⟩ := HR1.out.cells
          have f0 := HA1.out.frozen 0
          have f1 := HA1.out.frozen 1
          have f2 := HA1.out.frozen 2
          have f3 := HA1.out.frozen 3
          have g0 := HR1.out.frozen 0
          have g1 := HR1.out.frozen 1
          have g2 := HR1.out.frozen 2
          have g3 := HR1.out.frozen 3
          have HX2 : Hid (IntKind.u64.wrap (((Oct.word s 1 : Nat) : Int) + (x : Int)) = (Oct.word (Oct.ins s b) 1 : Nat)) := by
            rw [HX.out]
            exact add_bit s b 1 HN.out HS.out
          go_wp2
          rw [HX2.out, ins_oth s b 1 0 HN.out (by decide), ins_oth s b 1 2 HN.out (by decide), ins_oth s b 1 3 HN.out (by decide)]
          exact post_set Try.f27 4 rfl rfl rfl ((HR1.out.other (by omega) _ _).put4 (Oct.ins s b)) ⟨rfl, below_put4 (HB1.out.setCell (p := ⟨w.heap.size, 1, none⟩) (Nat.le_refl _) _) (by omega) _⟩
        · have HN : Hid (b / 64 = 2) := hn
          clear hn
          obtain ⟨c0, c1, c2, c3⟩ := HA1.out.cells
          obtain ⟨d0, d1, d2, d3⟩ := HR1.out.cells
          have f0 := HA1.out.frozen 0
          have f1 := HA1.out.frozen 1
          have f2 := HA1.out.frozen 2
          have f3 := HA1.out.frozen 3
          have g0 := HR1.out.frozen 0
          have g1 := HR1.out.frozen 1
          have g2 := HR1.out.frozen 2
          have g3 := HR1.out.frozen 3
          have HX2 : Hid (IntKind.u64.wrap (((Oct.word s 2 : Nat) : Int) + (x : Int)) = (Oct.word (Oct.ins s b) 2 : Nat)) := by
            rw [HX.out]
            exact add_bit s b 2 HN.out HS.out
          go_wp2
          rw [HX2.out, ins_oth s b 2 0 HN.out (by decide), ins_oth s b 2 1 HN.out (by decide), ins_oth s b 2 3 HN.out (by decide)]
          exact post_set Try.f27 4 rfl rfl rfl ((HR1.out.other (by omega) _ _).put4 (Oct.ins s b)) ⟨rfl, below_put4 (HB1.out.setCell (p := ⟨w.heap.size, 2, none⟩) (Nat.le_refl _) _) (by omega) _⟩
        · have HN : Hid (b / 64 = 3) := hn
          clear hn
          obtain ⟨c0, c1, c2, c3⟩ := HA1.out.cells
          obtain ⟨d0, d1, d2, d3⟩ := HR1.out.cells
          have f0 := HA1.out.frozen 0
          have f1 := HA1.out.frozen 1
          have f2 := HA1.out.frozen 2
          have f3 := HA1.out.frozen 3
          have g0 := HR1.out.frozen 0
          have g1 := HR1.out.frozen 1
          have g2 := HR1.out.frozen 2
          have g3 := HR1.out.frozen 3
          have HX2 : Hid (IntKind.u64.wrap (((Oct.word s 3 : Nat) : Int) + (x : Int)) = (Oct.word (Oct.ins s b) 3 : Nat)) := by
            rw [HX.out]
            exact add_bit s b 3 HN.out HS.out
          go_wp2
          rw [HX2.out, ins_oth s b 3 0 HN.out (by decide), ins_oth s b 3 1 HN.out (by decide), ins_oth s b 3 2 HN.out (by decide)]
          exact post_set Try.f27 4 rfl rfl rfl ((HR1.out.other (by omega) _ _).put4 (Oct.ins s b)) ⟨rfl, below_put4 (HB1.out.setCell (p := ⟨w.heap.size, 3, none⟩) (Nat.le_refl _) _) (by omega) _⟩
end Go.Proofs.Ytemmicnhnaafmaa
