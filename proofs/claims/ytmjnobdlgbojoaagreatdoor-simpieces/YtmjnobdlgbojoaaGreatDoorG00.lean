
import Derived.Test.YtmjnobdlgbojoaaGreatDoorRows
import Derived.WalkKit
import Derived.WalkLawsBesides
import Derived.WalkSpells
import Derived.OwnWalk
import Derived.Laws.BitsAllLaws
import Derived.Deep.QuietTactic
import Derived.BigQuiet
import Derived.Laws.StructEq
namespace Oct
abbrev S := Nat → Bool
def wd (s : S) (o : Nat) : Nat → Nat
  | 0 => 0
  | n + 1 => wd s o n ||| (if s (o + n) then 2 ^ n else 0)
theorem wd_bit (s : S) (o n k : Nat) : (wd s o n).testBit k = (decide (k < n) && s (o + k)) := by
  induction n with
  | zero => simp [wd]
  | succ n ih =>
    rw [wd, Nat.testBit_or, ih]
    by_cases h : s (o + n) = true
    · rw [if_pos h, Nat.testBit_two_pow]
      by_cases e : n = k
      · subst e; simp [h]
      · have : (k < n + 1) ↔ (k < n) := by omega
        simp [e, this]
    · rw [if_neg h]
      by_cases e : n = k
      · subst e; simp at h; simp [h]
      · have : (k < n + 1) ↔ (k < n) := by omega
        simp [this]
theorem wd_lt (s : S) (o n : Nat) : wd s o n < 2 ^ n := by
  apply Nat.lt_pow_two_of_testBit
  intro i hi
  rw [wd_bit]
  have : ¬ i < n := by omega
  simp [this]
def word (s : S) (i : Nat) : Nat := wd s (64 * i) 64
theorem word_bit (s : S) (i k : Nat) : (word s i).testBit k = (decide (k < 64) && s (64 * i + k)) := wd_bit s (64 * i) 64 k
theorem word_lt (s : S) (i : Nat) : word s i < 18446744073709551616 := wd_lt s (64 * i) 64
theorem bits_above {x k : Nat} (hx : x < 18446744073709551616) (hk : 64 ≤ k) : x.testBit k = false := by
  apply Nat.testBit_lt_two_pow
  exact Nat.lt_of_lt_of_le hx (Nat.pow_le_pow_right (n := 2) (by decide) hk)
theorem word_eq {s : S} {i x : Nat} (hx : x < 18446744073709551616) (h : ∀ k, k < 64 → x.testBit k = s (64 * i + k)) : x = word s i := by
  apply Nat.eq_of_testBit_eq
  intro k
  rw [word_bit]
  by_cases hk : k < 64
  · rw [h k hk]; simp [hk]
  · rw [bits_above hx (by omega)]; simp [hk]
theorem word_congr {s t : S} {i : Nat} (h : ∀ k, k < 64 → s (64 * i + k) = t (64 * i + k)) : word s i = word t i :=
  word_eq (word_lt s i) (fun k hk => by rw [word_bit]; simp [hk, h k hk])
theorem word_none (i : Nat) : word (fun _ => false) i = 0 := (word_eq (by decide) (by simp)).symm
def none : S := fun _ => false
def ins (s : S) (b : Nat) : S := fun c => c == b || s c
def del (s : S) (b : Nat) : S := fun c => s c && !(c == b)
def has (bs : List Nat) : S := fun c => bs.contains c
def span (f t : Nat) : S := fun c => decide (f ≤ c) && decide (c ≤ t)
def join (s t : S) : S := fun c => s c || t c
def meet (s t : S) : S := fun c => s c && t c
def inv (s : S) : S := fun c => !(s c) && !(c == 10)
def joins (l : List S) : S := fun c => l.any (fun s => s c)
def count (s : S) (n : Nat) : Nat := ((List.range n).filter s).length
theorem word_ins_same (s : S) (i k : Nat) (hk : k < 64) : word s i ||| 2 ^ k = word (ins s (64 * i + k)) i := by
  refine word_eq (Nat.or_lt_two_pow (n := 64) (word_lt s i) (Nat.pow_lt_pow_right (by decide) hk)) (fun j hj => ?_)
  rw [Nat.testBit_or, word_bit, Nat.testBit_two_pow]
  by_cases e : k = j
  · subst e; simp [ins]
  · have h1 : ¬ (64 * i + j = 64 * i + k) := by omega
    have h2 : ¬ j = k := by omega
    simp [ins, hj, e, h2]
theorem word_ins_other (s : S) (i j k : Nat) (hk : k < 64) (h : i ≠ j) : word s j = word (ins s (64 * i + k)) j := word_congr (fun m hm => by
  have h1 : ¬ (64 * j + m = 64 * i + k) := by omega
  simp [ins, h1])
theorem word_del_same (s : S) (i k : Nat) (hk : k < 64) : word s i &&& (18446744073709551615 - 2 ^ k) = word (del s (64 * i + k)) i := by
  have hp : 2 ^ k < 2 ^ 64 := Nat.pow_lt_pow_right (by decide) hk
  refine word_eq (Nat.lt_of_le_of_lt Nat.and_le_left (word_lt s i)) (fun j hj => ?_)
  rw [Nat.testBit_and, word_bit]
  have h3 : (18446744073709551615 - 2 ^ k).testBit j = (decide (j < 64) && !(2 ^ k).testBit j) := by
    have h4 : 18446744073709551615 - 2 ^ k = 2 ^ 64 - (2 ^ k + 1) := by have : (18446744073709551615 : Nat) = 2 ^ 64 - 1 := by decide
                                                                        omega
    rw [h4]
    exact Nat.testBit_two_pow_sub_succ hp j
  rw [h3, Nat.testBit_two_pow]
  by_cases e : k = j
  · subst e; simp [del]
  · have h2 : ¬ j = k := by omega
    simp [del, hj, e, h2]
theorem word_del_other (s : S) (i j k : Nat) (hk : k < 64) (h : i ≠ j) : word s j = word (del s (64 * i + k)) j := word_congr (fun m hm => by
  have h1 : ¬ (64 * j + m = 64 * i + k) := by omega
  simp [del, h1])
theorem word_join (s t : S) (i : Nat) : word s i ||| word t i = word (join s t) i :=
  word_eq (Nat.or_lt_two_pow (n := 64) (word_lt s i) (word_lt t i)) (fun j hj => by rw [Nat.testBit_or, word_bit, word_bit]; simp [join, hj])
theorem word_meet (s t : S) (i : Nat) : word s i &&& word t i = word (meet s t) i :=
  word_eq (Nat.lt_of_le_of_lt Nat.and_le_left (word_lt s i)) (fun j hj => by rw [Nat.testBit_and, word_bit, word_bit]; simp [meet, hj])
theorem word_has (s : S) (b : Nat) : word s (b / 64) / 2 ^ (b % 64) % 2 = if s b then 1 else 0 := by
  have h := word_bit s (b / 64) (b % 64)
  have e : 64 * (b / 64) + b % 64 = b := by omega
  have hm : b % 64 < 64 := by omega
  rw [e, Nat.testBit_eq_decide_div_mod_eq] at h
  simp only [hm, decide_true, Bool.true_and] at h
  by_cases hs : s b = true
  · rw [hs] at h; simp only [decide_eq_true_eq] at h; rw [h, if_pos hs]
  · rw [if_neg hs]; simp at hs; rw [hs] at h; simp only [decide_eq_false_iff_not] at h; omega
def upto (j : Nat) (f g : S) : S := fun c => if c < 64 * j then f c else g c
theorem word_upto_lt (f g : S) (i j : Nat) (h : i < j) : word (upto j f g) i = word f i := word_congr (fun k hk => by
  have : 64 * i + k < 64 * j := by omega
  simp [upto, this])
theorem word_upto_ge (f g : S) (i j : Nat) (h : j ≤ i) : word (upto j f g) i = word g i := word_congr (fun k hk => by
  have : ¬ 64 * i + k < 64 * j := by omega
  simp [upto, this])
theorem word_upto_step (f g : S) (i j : Nat) (h : i ≠ j) : word (upto j f g) i = word (upto (j + 1) f g) i := by
  rcases Nat.lt_or_ge i j with h1 | h1
  · rw [word_upto_lt _ _ _ _ h1, word_upto_lt _ _ _ _ (by omega)]
  · rw [word_upto_ge _ _ _ _ h1, word_upto_ge _ _ _ _ (by omega)]
theorem upto_all (f g : S) (b : Nat) (h : b < 256) : upto 4 f g b = f b := by
  have : b < 64 * 4 := by omega
  simp [upto, this]
theorem upto_zero (f g : S) : upto 0 f g = g := by
  funext b
  simp [upto]
theorem has_snoc (bs : List Nat) (b c : Nat) : ins (has bs) b c = has (bs ++ [b]) c := by
  simp only [ins, has, List.contains_eq_mem, List.mem_append, List.mem_singleton]
  by_cases h : c = b <;> simp [h]
theorem has_take_succ (bs : List Nat) (k : Nat) (h : k < bs.length) (c : Nat) : ins (has (bs.take k)) (bs.getD k 0) c = has (bs.take (k + 1)) c := by
  rw [has_snoc, List.take_succ_eq_append_getElem h]
  simp [List.getD, h]
def run (f k : Nat) : S := fun c => decide (f ≤ c) && decide (c < f + k)
theorem run_succ (f k c : Nat) : ins (run f k) (f + k) c = run f (k + 1) c := by
  simp only [ins, run]
  by_cases h : c = f + k
  · subst h; simp
  · have : c < f + (k + 1) ↔ c < f + k := by omega
    simp [h, this]
theorem joins_snoc (l : List S) (s : S) (c : Nat) : join (joins l) s c = joins (l ++ [s]) c := by simp [join, joins]
theorem joins_take_succ (l : List S) (k : Nat) (s : S) (h : l[k]? = some s) (c : Nat) : join (joins (l.take k)) s c = joins (l.take (k + 1)) c := by
  obtain ⟨hk, e⟩ := List.getElem?_eq_some_iff.1 h
  rw [joins_snoc, List.take_succ_eq_append_getElem hk, e]
def below (n : Nat) (f : S) : S := fun c => decide (c < n) && f c
end Oct


namespace Go.Proofs.YtmjnobdlgbojoaaGreatDoor
open Go.RowKit
theorem ret_int {k : IntKind} {a b : Int} (h : a = b) : Ending.returned (.int k a) = .returned (.int k b) := by rw [h]
theorem ret_bool {a b : Bool} (h : a = b) : Ending.returned (.bool a) = .returned (.bool b) := by rw [h]
theorem below_trans {w w1 w2 : World} {B : Nat} (h1 : Below B w w1) (h2 : Below w1.heap.size w1 w2) (hB : B ≤ w1.heap.size) : Below B w w2 := h1.trans (h2.mono hB)
def setV (s : Oct.S) : Value := .agg #[.int .u64 (Oct.word s 0 : Nat), .int .u64 (Oct.word s 1 : Nat), .int .u64 (Oct.word s 2 : Nat), .int .u64 (Oct.word s 3 : Nat)]
theorem setV_congr {s t : Oct.S} (h : ∀ b, b < 256 → s b = t b) : setV s = setV t := by
  unfold setV
  rw [Oct.word_congr (s := s) (t := t) (i := 0) (fun k hk => h _ (by omega)), Oct.word_congr (s := s) (t := t) (i := 1) (fun k hk => h _ (by omega)), Oct.word_congr (s := s) (t := t) (i := 2) (fun k hk => h _ (by omega)), Oct.word_congr (s := s) (t := t) (i := 3) (fun k hk => h _ (by omega))]
theorem has_bit (s : Oct.S) (b i : Nat) (h : b / 64 = i) : (bits .and .u64 ((Oct.word s i : Nat) / 2 ^ (b % 64)) 1 == 1) = s b := by
  have hw := Oct.word_has s b
  rw [h] at hw
  have e : ((Oct.word s i : Nat) : Int) / 2 ^ (b % 64) = ((Oct.word s i / 2 ^ (b % 64) : Nat) : Int) := by simp
  have hl : Oct.word s i / 2 ^ (b % 64) < 18446744073709551616 := Nat.lt_of_le_of_lt (Nat.div_le_self _ _) (Oct.word_lt s i)
  rw [e, show (1 : Int) = ((1 : Nat) : Int) from rfl, u64_and_nat _ _ hl (by decide), nat_mask1, hw]
  cases s b <;> simp
theorem quo4 {b : Nat} (hb : b < 256) : (b / 64 = 0 ∧ (b : Int) / 64 = 0) ∨ (b / 64 = 1 ∧ (b : Int) / 64 = 1) ∨ (b / 64 = 2 ∧ (b : Int) / 64 = 2) ∨ (b / 64 = 3 ∧ (b : Int) / 64 = 3) := by omega
theorem has_any (s : Oct.S) (b : Nat) (w : World) (hb : b < 256) : Calls Tryz.prog 32 #[setV s, .int .u8 b] w fun e w' => e = .returned (.bool (s b)) ∧ Below w.heap.size w w' := by
  unfold setV
  rcases quo4 hb with ⟨hn, hq⟩ | ⟨hn, hq⟩ | ⟨hn, hq⟩ | ⟨hn, hq⟩
  all_goals
    have HN : Hid (b / 64 = _) := hn
    clear hn
    go_enter Tryz.func32, Tryz.ntmps32
    go_wp2
    go_ret
    exact ⟨ret_bool (has_bit s b _ HN.out), (Below.refl _ _).alloc (Nat.le_refl _) _⟩
theorem ret4 {a0 a1 a2 a3 b0 b1 b2 b3 : Int} (h0 : a0 = b0) (h1 : a1 = b1) (h2 : a2 = b2) (h3 : a3 = b3) : Ending.returned (.agg #[.int .u64 a0, .int .u64 a1, .int .u64 a2, .int .u64 a3]) = .returned (.agg #[.int .u64 b0, .int .u64 b1, .int .u64 b2, .int .u64 b3]) := by rw [h0, h1, h2, h3]
theorem pow_lt64 {k : Nat} (hk : k < 64) : 2 ^ k < 18446744073709551616 := by
  show 2 ^ k < 2 ^ 64
  exact Nat.pow_lt_pow_right (by decide) hk
theorem wrap_pow {k : Nat} (hk : k < 64) : IntKind.u64.wrap (2 ^ k) = ((2 ^ k : Nat) : Int) := by
  have h := pow_lt64 hk
  have e : (2 : Int) ^ k = ((2 ^ k : Nat) : Int) := by simp
  generalize 2 ^ k = x at h e
  rw [e, IntKind.wrap_u64]
  omega
theorem or_bit (s : Oct.S) (b i : Nat) (h : b / 64 = i) : bits .or .u64 (Oct.word s i : Nat) (IntKind.u64.wrap (2 ^ (b % 64))) = (Oct.word (Oct.ins s b) i : Nat) := by
  have hk : b % 64 < 64 := by omega
  rw [wrap_pow hk, u64_or_nat _ _ (Oct.word_lt s i) (pow_lt64 hk), Oct.word_ins_same s i _ hk]
  congr 3
  omega
theorem ins_oth (s : Oct.S) (b i j : Nat) (h : b / 64 = i) (hne : i ≠ j) : ((Oct.word s j : Nat) : Int) = (Oct.word (Oct.ins s b) j : Nat) := by
  have hk : b % 64 < 64 := by omega
  rw [Oct.word_ins_other s i j _ hk hne]
  congr 3
  omega
theorem del_bit (s : Oct.S) (b i : Nat) (h : b / 64 = i) : bits .andNot .u64 (Oct.word s i : Nat) (IntKind.u64.wrap (2 ^ (b % 64))) = (Oct.word (Oct.del s b) i : Nat) := by
  have hk : b % 64 < 64 := by omega
  rw [wrap_pow hk, u64_andNot_nat _ _ (Oct.word_lt s i) (pow_lt64 hk), Oct.word_del_same s i _ hk]
  congr 3
  omega
theorem del_oth (s : Oct.S) (b i j : Nat) (h : b / 64 = i) (hne : i ≠ j) : ((Oct.word s j : Nat) : Int) = (Oct.word (Oct.del s b) j : Nat) := by
  have hk : b % 64 < 64 := by omega
  rw [Oct.word_del_other s i j _ hk hne]
  congr 3
  omega
theorem with_any (s : Oct.S) (b : Nat) (w : World) (hb : b < 256) : Calls Tryz.prog 98 #[setV s, .int .u8 b] w fun e w' => e = .returned (setV (Oct.ins s b)) ∧ Below w.heap.size w w' := by
  unfold setV
  rcases quo4 hb with ⟨hn, hq⟩ | ⟨hn, hq⟩ | ⟨hn, hq⟩ | ⟨hn, hq⟩
  all_goals
    have HN : Hid (b / 64 = _) := hn
    clear hn
    go_enter Tryz.func98, Tryz.ntmps98
    go_wp2
    refine bodyPost_ret (by simp [results, Tryz.results98, go_sem]; exact ⟨rfl, rfl, rfl, rfl⟩) rfl ⟨ret4 ?_ ?_ ?_ ?_, ((Below.refl _ _).alloc (Nat.le_refl _) _).alloc (by simp) _⟩
    all_goals (first | exact or_bit s b _ HN.out | exact ins_oth s b _ _ HN.out (by decide))
theorem without_any (s : Oct.S) (b : Nat) (w : World) (hb : b < 256) : Calls Tryz.prog 103 #[setV s, .int .u8 b] w fun e w' => e = .returned (setV (Oct.del s b)) ∧ Below w.heap.size w w' := by
  unfold setV
  rcases quo4 hb with ⟨hn, hq⟩ | ⟨hn, hq⟩ | ⟨hn, hq⟩ | ⟨hn, hq⟩
  all_goals
    have HN : Hid (b / 64 = _) := hn
    clear hn
    go_enter Tryz.func103, Tryz.ntmps103
    go_wp2
    refine bodyPost_ret (by simp [results, Tryz.results103, go_sem]; exact ⟨rfl, rfl, rfl, rfl⟩) rfl ⟨ret4 ?_ ?_ ?_ ?_, ((Below.refl _ _).alloc (Nat.le_refl _) _).alloc (by simp) _⟩
    all_goals (first | exact del_bit s b _ HN.out | exact del_oth s b _ _ HN.out (by decide))
def SB (w : World) (A : Nat) (s : Oct.S) : Prop := w.heap[A]? = some (.cells #[.int .u64 (Oct.word s 0 : Nat), .int .u64 (Oct.word s 1 : Nat), .int .u64 (Oct.word s 2 : Nat), .int .u64 (Oct.word s 3 : Nat)] 28 (0, 0))
theorem SB.later {w w' : World} {A : Nat} {s : Oct.S} (h : SB w A s) (hb : Below w.heap.size w w') : SB w' A s := (hb.block A (Array.getElem?_eq_some_iff.1 h).1).trans h
theorem SB.lt {w : World} {A : Nat} {s : Oct.S} (h : SB w A s) : A < w.heap.size := (Array.getElem?_eq_some_iff.1 h).1
theorem SB.cells {w : World} {A : Nat} {s : Oct.S} (h : SB w A s) : w.cell? ⟨A, 0, none⟩ = some (.int .u64 (Oct.word s 0 : Nat)) ∧ w.cell? ⟨A, 1, none⟩ = some (.int .u64 (Oct.word s 1 : Nat)) ∧ w.cell? ⟨A, 2, none⟩ = some (.int .u64 (Oct.word s 2 : Nat)) ∧ w.cell? ⟨A, 3, none⟩ = some (.int .u64 (Oct.word s 3 : Nat)) := by
  unfold SB at h
  refine ⟨?_, ?_, ?_, ?_⟩ <;> simp [World.cell?, h]
theorem SB.frozen {w : World} {A : Nat} {s : Oct.S} (h : SB w A s) (j : Nat) : w.frozen? ⟨A, j, none⟩ = false := by
  unfold SB at h
  simp [World.frozen?, h]
theorem SB.other {w : World} {s : Oct.S} {A B : Nat} (h : SB w A s) (hne : A ≠ B) (j : Nat) (v : Value) : SB (w.setCell ⟨B, j, none⟩ v) A s := by
  unfold SB at h ⊢
  rw [Below.heap_setCell w ⟨B, j, none⟩ v A hne]
  exact h
theorem sb_new (w : World) (s : Oct.S) : SB (w.alloc (.cells #[.int .u64 (Oct.word s 0 : Nat), .int .u64 (Oct.word s 1 : Nat), .int .u64 (Oct.word s 2 : Nat), .int .u64 (Oct.word s 3 : Nat)] 28)) w.heap.size s := heap_alloc_new w _
theorem sb_zero (w : World) : SB (w.alloc (.cells #[.int .u64 0, .int .u64 0, .int .u64 0, .int .u64 0] 28)) w.heap.size Oct.none := by
  have h := sb_new w Oct.none
  rw [show Oct.none = fun _ => false from rfl, Oct.word_none, Oct.word_none, Oct.word_none, Oct.word_none] at h
  exact h
def put4 (w : World) (A : Nat) (s : Oct.S) : World := (((w.setCell ⟨A, 0, none⟩ (.int .u64 (Oct.word s 0 : Nat))).setCell ⟨A, 1, none⟩ (.int .u64 (Oct.word s 1 : Nat))).setCell ⟨A, 2, none⟩ (.int .u64 (Oct.word s 2 : Nat))).setCell ⟨A, 3, none⟩ (.int .u64 (Oct.word s 3 : Nat))
theorem SB.put4 {w : World} {A : Nat} {s : Oct.S} (h : SB w A s) (t : Oct.S) : SB (put4 w A t) A t := by
  unfold SB at h ⊢
  unfold YtmjnobdlgbojoaaGreatDoor.put4
  simp only [World.setCell, Array.getElem?_modify, h]
  rfl
theorem SB.put4_other {w : World} {A B : Nat} {s : Oct.S} (h : SB w A s) (hne : A ≠ B) (t : Oct.S) : SB (YtmjnobdlgbojoaaGreatDoor.put4 w B t) A s :=
  (((h.other hne _ _).other hne _ _).other hne _ _).other hne _ _
theorem below_put4 {w u : World} {A B : Nat} (h : Below B w u) (hA : B ≤ A) (t : Oct.S) : Below B w (put4 u A t) :=
  (((h.setCell (p := ⟨A, 0, none⟩) hA _).setCell (p := ⟨A, 1, none⟩) hA _).setCell (p := ⟨A, 2, none⟩) hA _).setCell (p := ⟨A, 3, none⟩) hA _
theorem post_set (f : Func) (slot : Nat) (hf : f.results = #[.cell slot 28]) {Q : Ending → World → Prop} {a : Act} {w : World} {R : Nat} {s : Oct.S} (hd : a.defers = []) (ha : a.tmps[slot]?.getD undef = .pointer (some ⟨R, 0, none⟩)) (hR : SB w R s) (hQ : Q (.returned (setV s)) w) : bodyPost Tryz.prog f Q .ret a w := by
  obtain ⟨c0, c1, c2, c3⟩ := hR.cells
  exact bodyPost_ret (by simp only [results, hf]; simp [ha, go_sem, c0, c1, c2, c3, setV]) hd hQ
end Go.Proofs.YtmjnobdlgbojoaaGreatDoor


namespace Go.Proofs.YtmjnobdlgbojoaaGreatDoor
open Go.RowKit
def BytesAt (w : World) (a : Option Addr) (bs : List Nat) : Prop :=
  bs = [] ∨ ∃ b off, a = some ⟨b, off, none⟩ ∧ ∀ k, k < bs.length → w.cell? ⟨b, off + k, none⟩ = some (.int .u8 (bs.getD k 0 : Nat))
theorem bytesAt_later {w w' : World} {a : Option Addr} {bs : List Nat} (h : Below w.heap.size w w') (hT : BytesAt w a bs) : BytesAt w' a bs := by
  rcases hT with h0 | ⟨b, off, rfl, hc⟩
  · exact Or.inl h0
  · exact Or.inr ⟨b, off, rfl, fun k hk => by rw [h.cell (p := ⟨b, off + k, none⟩) (World.block_lt_of_cell? w _ (hc k hk))]; exact hc k hk⟩
theorem bytesAt_cell {w w' : World} {a : Option Addr} {bs : List Nat} (hT : BytesAt w a bs) (h : Below w.heap.size w w') {k : Nat} (hk : k < bs.length) : ∃ b off, a = some ⟨b, off, none⟩ ∧ w'.cell? ⟨b, off + k, none⟩ = some (.int .u8 (bs.getD k 0 : Nat)) := by
  rcases bytesAt_later h hT with rfl | ⟨b, off, rfl, hc⟩
  · simp at hk
  · exact ⟨b, off, rfl, hc k hk⟩
theorem bytesAt_new (w : World) (bs : List Nat) (t : TypeId) (fr : Nat × Nat) : BytesAt (w.alloc (.cells (bs.map (fun z => Value.int .u8 (z : Nat))).toArray t fr)) (some ⟨w.heap.size, 0, none⟩) bs := by
  refine Or.inr ⟨_, 0, rfl, fun k hk => ?_⟩
  rw [World.cell?_alloc_mark]
  simp [hk]
def SetsAt (w : World) (a : Option Addr) (l : List Oct.S) : Prop :=
  l = [] ∨ ∃ b off, a = some ⟨b, off, none⟩ ∧ ∀ k s, l[k]? = some s →
    w.cell? ⟨b, off + k * 4, none⟩ = some (.int .u64 (Oct.word s 0 : Nat)) ∧ w.cell? ⟨b, off + k * 4 + 1, none⟩ = some (.int .u64 (Oct.word s 1 : Nat)) ∧ w.cell? ⟨b, off + k * 4 + 2, none⟩ = some (.int .u64 (Oct.word s 2 : Nat)) ∧ w.cell? ⟨b, off + k * 4 + 3, none⟩ = some (.int .u64 (Oct.word s 3 : Nat))
theorem setsAt_later {w w' : World} {a : Option Addr} {l : List Oct.S} (hb : Below w.heap.size w w') (h : SetsAt w a l) : SetsAt w' a l := by
  rcases h with h0 | ⟨b, off, rfl, hc⟩
  · exact Or.inl h0
  · refine Or.inr ⟨b, off, rfl, fun k s hk => ?_⟩
    obtain ⟨h0, h1, h2, h3⟩ := hc k s hk
    have hlt := World.block_lt_of_cell? w _ h0
    exact ⟨(hb.cell (p := ⟨b, off + k * 4, none⟩) hlt).trans h0, (hb.cell (p := ⟨b, off + k * 4 + 1, none⟩) hlt).trans h1, (hb.cell (p := ⟨b, off + k * 4 + 2, none⟩) hlt).trans h2, (hb.cell (p := ⟨b, off + k * 4 + 3, none⟩) hlt).trans h3⟩
theorem setsAt_cell {w w' : World} {a : Option Addr} {l : List Oct.S} (h : SetsAt w a l) (hb : Below w.heap.size w w') {k : Nat} {s : Oct.S} (hk : l[k]? = some s) :
    ∃ b off, a = some ⟨b, off, none⟩ ∧ w'.cell? ⟨b, off + k * 4, none⟩ = some (.int .u64 (Oct.word s 0 : Nat)) ∧ w'.cell? ⟨b, off + k * 4 + 1, none⟩ = some (.int .u64 (Oct.word s 1 : Nat)) ∧ w'.cell? ⟨b, off + k * 4 + 2, none⟩ = some (.int .u64 (Oct.word s 2 : Nat)) ∧ w'.cell? ⟨b, off + k * 4 + 3, none⟩ = some (.int .u64 (Oct.word s 3 : Nat)) := by
  rcases setsAt_later hb h with rfl | ⟨b, off, rfl, hc⟩
  · simp at hk
  · exact ⟨b, off, rfl, hc k s hk⟩
theorem SB.set {w : World} {A : Nat} {s t : Oct.S} (h : SB w A s) (j : Nat) (hj : j < 4) (x : Int) (hx : x = (Oct.word t j : Nat)) (ho : ∀ i, i < 4 → i ≠ j → Oct.word s i = Oct.word t i) : SB (w.setCell ⟨A, j, none⟩ (.int .u64 x)) A t := by
  unfold SB at h ⊢
  simp only [World.setCell, Array.getElem?_modify, h]
  have h4 : j = 0 ∨ j = 1 ∨ j = 2 ∨ j = 3 := by omega
  rcases h4 with rfl | rfl | rfl | rfl
  · rw [hx, ho 1 (by decide) (by decide), ho 2 (by decide) (by decide), ho 3 (by decide) (by decide)]; rfl
  · rw [hx, ho 0 (by decide) (by decide), ho 2 (by decide) (by decide), ho 3 (by decide) (by decide)]; rfl
  · rw [hx, ho 0 (by decide) (by decide), ho 1 (by decide) (by decide), ho 3 (by decide) (by decide)]; rfl
  · rw [hx, ho 0 (by decide) (by decide), ho 1 (by decide) (by decide), ho 2 (by decide) (by decide)]; rfl
def St (w u : World) (R V : Nat) (s : Oct.S) : Prop := SB u R Oct.none ∧ SB u V s ∧ Below w.heap.size w u
theorem St.later {w u u' : World} {R V : Nat} {s : Oct.S} (h : St w u R V s) (hb : Below u.heap.size u u') : St w u' R V s := ⟨h.1.later hb, h.2.1.later hb, below_trans h.2.2 hb h.2.2.size⟩
theorem St.put {w u : World} {R V : Nat} {s : Oct.S} (h : St w u R V s) (hne : R ≠ V) (hV : w.heap.size ≤ V) (t : Oct.S) : St w (put4 u V t) R V t := ⟨h.1.put4_other hne t, h.2.1.put4 t, below_put4 h.2.2 hV t⟩
theorem St.set {w u : World} {R V : Nat} {s t : Oct.S} (h : St w u R V s) (hne : R ≠ V) (hV : w.heap.size ≤ V) (j : Nat) (hj : j < 4) (x : Int) (hx : x = (Oct.word t j : Nat)) (ho : ∀ i, i < 4 → i ≠ j → Oct.word s i = Oct.word t i) : St w (u.setCell ⟨V, j, none⟩ (.int .u64 x)) R V t :=
  ⟨h.1.other hne _ _, h.2.1.set j hj x hx ho, h.2.2.setCell (p := ⟨V, j, none⟩) hV _⟩
theorem St.as {w u : World} {R V : Nat} {s t : Oct.S} (h : St w u R V s) (e : ∀ b, b < 256 → s b = t b) : St w u R V t := by
  refine ⟨h.1, ?_, h.2.2⟩
  have h2 := h.2.1
  unfold SB at h2 ⊢
  rw [Oct.word_congr (s := s) (t := t) (i := 0) (fun k hk => e _ (by omega)), Oct.word_congr (s := s) (t := t) (i := 1) (fun k hk => e _ (by omega)), Oct.word_congr (s := s) (t := t) (i := 2) (fun k hk => e _ (by omega)), Oct.word_congr (s := s) (t := t) (i := 3) (fun k hk => e _ (by omega))] at h2
  exact h2
theorem St.facts {w u : World} {R V : Nat} {s : Oct.S} (h : St w u R V s) :
    (u.cell? ⟨V, 0, none⟩ = some (.int .u64 (Oct.word s 0 : Nat)) ∧ u.cell? ⟨V, 1, none⟩ = some (.int .u64 (Oct.word s 1 : Nat)) ∧ u.cell? ⟨V, 2, none⟩ = some (.int .u64 (Oct.word s 2 : Nat)) ∧ u.cell? ⟨V, 3, none⟩ = some (.int .u64 (Oct.word s 3 : Nat))) ∧
    (u.frozen? ⟨V, 0, none⟩ = false ∧ u.frozen? ⟨V, 1, none⟩ = false ∧ u.frozen? ⟨V, 2, none⟩ = false ∧ u.frozen? ⟨V, 3, none⟩ = false) ∧
    (u.cell? ⟨R, 0, none⟩ = some (.int .u64 (Oct.word Oct.none 0 : Nat)) ∧ u.cell? ⟨R, 1, none⟩ = some (.int .u64 (Oct.word Oct.none 1 : Nat)) ∧ u.cell? ⟨R, 2, none⟩ = some (.int .u64 (Oct.word Oct.none 2 : Nat)) ∧ u.cell? ⟨R, 3, none⟩ = some (.int .u64 (Oct.word Oct.none 3 : Nat))) ∧
    (u.frozen? ⟨R, 0, none⟩ = false ∧ u.frozen? ⟨R, 1, none⟩ = false ∧ u.frozen? ⟨R, 2, none⟩ = false ∧ u.frozen? ⟨R, 3, none⟩ = false) :=
  ⟨h.2.1.cells, ⟨h.2.1.frozen 0, h.2.1.frozen 1, h.2.1.frozen 2, h.2.1.frozen 3⟩, h.1.cells, ⟨h.1.frozen 0, h.1.frozen 1, h.1.frozen 2, h.1.frozen 3⟩⟩
theorem start2 (w : World) : St w ((w.alloc (.cells #[.int .u64 0, .int .u64 0, .int .u64 0, .int .u64 0] 28)).alloc (.cells #[.int .u64 0, .int .u64 0, .int .u64 0, .int .u64 0] 28)) w.heap.size (w.heap.size + 1) Oct.none := by
  have h := sb_zero (w.alloc (.cells #[.int .u64 0, .int .u64 0, .int .u64 0, .int .u64 0] 28))
  rw [World.size_alloc] at h
  exact ⟨(sb_zero w).later ((Below.refl _ _).alloc (Nat.le_refl _) _), h, ((Below.refl _ _).alloc (Nat.le_refl _) _).alloc (by simp) _⟩
theorem start2_hid (w : World) : Hid (St w ((w.alloc (.cells #[.int .u64 0, .int .u64 0, .int .u64 0, .int .u64 0] 28)).alloc (.cells #[.int .u64 0, .int .u64 0, .int .u64 0, .int .u64 0] 28)) w.heap.size (w.heap.size + 1) Oct.none) := start2 w
theorem start2' (w0 w : World) (hb : Below w0.heap.size w0 w) : St w0 ((w.alloc (.cells #[.int .u64 0, .int .u64 0, .int .u64 0, .int .u64 0] 28)).alloc (.cells #[.int .u64 0, .int .u64 0, .int .u64 0, .int .u64 0] 28)) w.heap.size (w.heap.size + 1) Oct.none :=
  ⟨(start2 w).1, (start2 w).2.1, below_trans hb (start2 w).2.2 hb.size⟩
theorem St.ret {w u : World} {R V : Nat} {s : Oct.S} (h : St w u R V s) (f : Func) (slot : Nat) (hf : f.results = #[.cell slot 28]) {a : Act} (hd : a.defers = []) (ha : a.tmps[slot]?.getD undef = .pointer (some ⟨R, 0, none⟩)) (hR : w.heap.size ≤ R) (t : Oct.S) (e : ∀ b, b < 256 → s b = t b) :
    bodyPost Tryz.prog f (fun e w' => e = .returned (setV t) ∧ Below w.heap.size w w') .ret a (put4 u R s) :=
  post_set f slot hf hd ha (h.1.put4 s) ⟨by rw [setV_congr e], below_put4 h.2.2 hR s⟩
theorem St.put4_ret {w u : World} {R V : Nat} {s : Oct.S} (h : St w u R V s) (x : Oct.S) (f : Func) (slot : Nat) (hf : f.results = #[.cell slot 28]) {a : Act} (hd : a.defers = []) (ha : a.tmps[slot]?.getD undef = .pointer (some ⟨R, 0, none⟩)) (hR : w.heap.size ≤ R) (t : Oct.S) (e : ∀ b, b < 256 → x b = t b) :
    bodyPost Tryz.prog f (fun e w' => e = .returned (setV t) ∧ Below w.heap.size w w') .ret a (put4 u R x) :=
  post_set f slot hf hd ha (h.1.put4 x) ⟨by rw [setV_congr e], below_put4 h.2.2 hR x⟩
theorem info26 : (Tryz.prog.info? 26).map (fun i => (i.zero, i.size, i.bytes)) = some (some (.int .u64 0), 1, 8) := by kernel_rfl
theorem idx0 (a b c d : Value) (w : World) : (Instr.index 28 (.agg #[a, b, c, d]) (.int .i64 0)).run Tryz.prog w = .ok a w := by
  obtain ⟨i0, hi, hz0, hz1, hz2⟩ := info_parts info26
  simp [Instr.index, asIntOf, run_underlying Tryz.underlying28, sizeOf, typeInfo, hi, hz1, part, Tryz.isAgg26]
theorem idx1 (a b c d : Value) (w : World) : (Instr.index 28 (.agg #[a, b, c, d]) (.int .i64 1)).run Tryz.prog w = .ok b w := by
  obtain ⟨i0, hi, hz0, hz1, hz2⟩ := info_parts info26
  simp [Instr.index, asIntOf, run_underlying Tryz.underlying28, sizeOf, typeInfo, hi, hz1, part, Tryz.isAgg26]
theorem idx2 (a b c d : Value) (w : World) : (Instr.index 28 (.agg #[a, b, c, d]) (.int .i64 2)).run Tryz.prog w = .ok c w := by
  obtain ⟨i0, hi, hz0, hz1, hz2⟩ := info_parts info26
  simp [Instr.index, asIntOf, run_underlying Tryz.underlying28, sizeOf, typeInfo, hi, hz1, part, Tryz.isAgg26]
theorem idx3 (a b c d : Value) (w : World) : (Instr.index 28 (.agg #[a, b, c, d]) (.int .i64 3)).run Tryz.prog w = .ok d w := by
  obtain ⟨i0, hi, hz0, hz1, hz2⟩ := info_parts info26
  simp [Instr.index, asIntOf, run_underlying Tryz.underlying28, sizeOf, typeInfo, hi, hz1, part, Tryz.isAgg26]
theorem getD_mem {bs : List Nat} {k : Nat} (h : k < bs.length) : bs.getD k 0 ∈ bs := by
  simp [List.getD, h]
theorem with_sum (s : Oct.S) (f k : Nat) (w : World) (hb : f + k < 256) : Calls Tryz.prog 98 #[setV s, .int .u8 ((f : Int) + (k : Int))] w fun e w' => e = .returned (setV (Oct.ins s (f + k))) ∧ Below w.heap.size w w' := by
  have h := with_any s (f + k) w hb
  rw [Int.natCast_add] at h
  exact h
end Go.Proofs.YtmjnobdlgbojoaaGreatDoor


namespace Go.Proofs.YtmjnobdlgbojoaaGreatDoor
open Go.RowKit
set_option maxHeartbeats 400000 in
theorem of_any (a : Option Addr) (n cap : Nat) (bs : List Nat) (w : World) (hn : n = bs.length) (hl : n ≤ maxLen) (hat : BytesAt w a bs) (hb : ∀ b ∈ bs, b < 256) :
    Calls Tryz.prog 92 #[.slice a n cap] w fun e w' => e = .returned (setV (Oct.has bs)) ∧ Below w.heap.size w w' := by
  unfold maxLen at hl
  have HN : Hid (n = bs.length) := hn
  have HAT : Hid (BytesAt w a bs) := hat
  have HBS : Hid (∀ b ∈ bs, b < 256) := hb
  clear hn hat hb
  have H0 := start2_hid w
  go_enter Tryz.func92, Tryz.ntmps92
  go_wp2
  go_loopw [8] (fun i u => ∃ k : Nat, k ≤ n ∧ i = .int .i64 k ∧ Hid (St w u w.heap.size (w.heap.size + 1) (Oct.has (bs.take k)))) (fun i _ => n - (intOf i).toNat)
  case atStart => exact ⟨0, Nat.zero_le _, rfl, H0.out.as (fun b _ => by simp [Oct.has, Oct.none])⟩
  case round =>
    clear H0
    obtain ⟨k, hk, rfl, hs⟩ := hrel
    obtain ⟨s, hS⟩ : ∃ s, s = Oct.has (bs.take k) := ⟨_, rfl⟩
    have HS : Hid (s = Oct.has (bs.take k)) := hS
    rw [← hS] at hs
    clear hS
    obtain ⟨⟨c0, c1, c2, c3⟩, ⟨f0, f1, f2, f3⟩, ⟨d0, d1, d2, d3⟩, ⟨g0, g1, g2, g3⟩⟩ := hs.out.facts
    by_cases hlt : k < n
    · have hkl : k < bs.length := by rw [← HN.out]; exact hlt
      obtain ⟨g, o, rfl, h1⟩ := bytesAt_cell HAT.out hs.out.2.2 hkl
      have h2 : bs.getD k 0 < 256 := HBS.out _ (getD_mem hkl)
      obtain ⟨b, hbe⟩ : ∃ b, b = bs.getD k 0 := ⟨_, rfl⟩
      rw [← hbe] at h1 h2
      have HBE : Hid (b = bs.getD k 0) := hbe
      have HKL : Hid (k < bs.length) := hkl
      clear hbe hkl
      go_wp2_with fail
      refine (with_any s b _ h2).mono ?_
      rintro e w3 ⟨rfl, hb3⟩
      have HS3 : Hid (St w w3 w.heap.size (w.heap.size + 1) s) := hs.out.later hb3
      clear hs hb3 c0 c1 c2 c3 f0 f1 f2 f3 d0 d1 d2 d3 g0 g1 g2 g3 h1
      obtain ⟨⟨c0, c1, c2, c3⟩, ⟨f0, f1, f2, f3⟩, _, _⟩ := HS3.out.facts
      unfold setV
      go_wp2
      go_roundw
      case rel => exact ⟨k + 1, by omega, by go_num, (HS3.out.put (by omega) (by omega) (Oct.ins s b)).as (fun c _ => by rw [HS.out, HBE.out]; exact Oct.has_take_succ bs k HKL.out c)⟩
      case measure => simp [intOf]; omega
    · go_wp2
      exact hs.out.ret Tryz.f92 2 rfl rfl rfl (Nat.le_refl _) _ (fun c _ => by rw [HS.out, List.take_of_length_le (by rw [← HN.out]; omega)])
set_option maxHeartbeats 400000 in
theorem span_any (f t : Nat) (w : World) (hf : f < 256) (ht : t < 256) :
    Calls Tryz.prog 107 #[.int .u8 f, .int .u8 t] w fun e w' => e = .returned (setV (Oct.span f t)) ∧ Below w.heap.size w w' := by
  have H0 := start2_hid w
  go_enter Tryz.func107, Tryz.ntmps107
  go_wp2
  go_loopw [13] (fun i u => ∃ k : Nat, (k = 0 ∨ f + k ≤ t + 1) ∧ i = .int .i64 k ∧ Hid (St w u w.heap.size (w.heap.size + 1) (Oct.run f k))) (fun i _ => 256 - (intOf i).toNat)
  case atStart => exact ⟨0, Or.inl rfl, rfl, H0.out.as (fun b _ => by simp [Oct.run, Oct.none])⟩
  case round =>
    clear H0
    obtain ⟨k, hk, rfl, hs⟩ := hrel
    have hk2 : k ≤ 256 := by omega
    have HK : Hid (k = 0 ∨ f + k ≤ t + 1) := hk
    obtain ⟨s, hS⟩ : ∃ s, s = Oct.run f k := ⟨_, rfl⟩
    have HS : Hid (s = Oct.run f k) := hS
    rw [← hS] at hs
    clear hS
    obtain ⟨⟨c0, c1, c2, c3⟩, ⟨f0, f1, f2, f3⟩, ⟨d0, d1, d2, d3⟩, ⟨g0, g1, g2, g3⟩⟩ := hs.out.facts
    by_cases hlt : (k : Int) < (t : Int) - (f : Int) + 1
    · have h256 : f + k < 256 := by omega
      clear hk
      go_wp2_with fail
      refine (with_sum s f k _ h256).mono ?_
      rintro e w3 ⟨rfl, hb3⟩
      have HS3 : Hid (St w w3 w.heap.size (w.heap.size + 1) s) := hs.out.later hb3
      clear hs hb3 c0 c1 c2 c3 f0 f1 f2 f3 d0 d1 d2 d3 g0 g1 g2 g3
      obtain ⟨⟨c0, c1, c2, c3⟩, ⟨f0, f1, f2, f3⟩, _, _⟩ := HS3.out.facts
      unfold setV
      go_wp2
      go_roundw
      case rel => exact ⟨k + 1, by omega, by go_num, (HS3.out.put (by omega) (by omega) (Oct.ins s (f + k))).as (fun c _ => by rw [HS.out]; exact Oct.run_succ f k c)⟩
      case measure => simp [intOf]; omega
    · clear hk
      go_wp2
      exact hs.out.ret Tryz.f107 4 rfl rfl rfl (Nat.le_refl _) _ (fun c _ => by
        have := HK.out
        rw [HS.out]
        simp only [Oct.run, Oct.span]
        rw [Bool.eq_iff_iff]
        simp only [Bool.and_eq_true, decide_eq_true_eq]
        omega)
end Go.Proofs.YtmjnobdlgbojoaaGreatDoor


namespace Go.Proofs.YtmjnobdlgbojoaaGreatDoor
open Go.RowKit
theorem or_words (s t : Oct.S) (i : Nat) : bits .or .u64 (Oct.word s i : Nat) (Oct.word t i : Nat) = (Oct.word (Oct.join s t) i : Nat) := by
  rw [u64_or_nat _ _ (Oct.word_lt s i) (Oct.word_lt t i), Oct.word_join]
theorem and_words (s t : Oct.S) (i : Nat) : bits .and .u64 (Oct.word s i : Nat) (Oct.word t i : Nat) = (Oct.word (Oct.meet s t) i : Nat) := by
  rw [u64_and_nat _ _ (Oct.word_lt s i) (Oct.word_lt t i), Oct.word_meet]
set_option maxHeartbeats 1000000 in
theorem join_any (a : Option Addr) (n cap : Nat) (l : List Oct.S) (w : World) (hn : n = l.length) (hl : n ≤ maxLen) (hat : SetsAt w a l) :
    Calls Tryz.prog 95 #[.slice a n cap] w fun e w' => e = .returned (setV (Oct.joins l)) ∧ Below w.heap.size w w' := by
  unfold maxLen at hl
  have HN : Hid (n = l.length) := hn
  have HAT : Hid (SetsAt w a l) := hat
  clear hn hat
  have H0 := start2_hid w
  go_enter Tryz.func95, Tryz.ntmps95
  go_wp2
  go_loopw [10] (fun i u => ∃ k : Nat, k ≤ n ∧ i = .int .i64 k ∧ Hid (St w u w.heap.size (w.heap.size + 1) (Oct.joins (l.take k)))) (fun i _ => n - (intOf i).toNat)
  case atStart => exact ⟨0, Nat.zero_le _, rfl, H0.out.as (fun b _ => by simp [Oct.joins, Oct.none])⟩
  case round =>
    clear H0
    obtain ⟨k, hk, rfl, hs⟩ := hrel
    obtain ⟨s, hS⟩ : ∃ s, s = Oct.joins (l.take k) := ⟨_, rfl⟩
    have HS : Hid (s = Oct.joins (l.take k)) := hS
    rw [← hS] at hs
    clear hS
    obtain ⟨⟨c0, c1, c2, c3⟩, ⟨f0, f1, f2, f3⟩, ⟨d0, d1, d2, d3⟩, ⟨g0, g1, g2, g3⟩⟩ := hs.out.facts
    by_cases hlt : k < n
    · have hkl : k < l.length := by rw [← HN.out]; exact hlt
      obtain ⟨x, hx⟩ : ∃ x, l[k]? = some x := ⟨_, List.getElem?_eq_getElem hkl⟩
      obtain ⟨g, o, rfl, h0, h1, h2, h3⟩ := setsAt_cell HAT.out hs.out.2.2 hx
      have HX : Hid (l[k]? = some x) := hx
      clear hx hkl
      have H2 : Hid (St w (wr.alloc (.cells #[.int .u64 (Oct.word x 0 : Nat), .int .u64 (Oct.word x 1 : Nat), .int .u64 (Oct.word x 2 : Nat), .int .u64 (Oct.word x 3 : Nat)] 28)) w.heap.size (w.heap.size + 1) s) := hs.out.later ((Below.refl _ _).alloc (Nat.le_refl _) _)
      go_wp2
      go_loopw [15] (fun i u => ∃ j : Nat, j ≤ 4 ∧ i = .int .i64 j ∧ Hid (St w u w.heap.size (w.heap.size + 1) (Oct.upto j (Oct.join s x) s))) (fun i _ => 4 - (intOf i).toNat)
      case atStart => exact ⟨0, Nat.zero_le _, rfl, by rw [Oct.upto_zero]; exact H2⟩
      case round =>
        obtain ⟨j, hj, rfl, hs2⟩ := hrel
        clear c0 c1 c2 c3 f0 f1 f2 f3 d0 d1 d2 d3 g0 g1 g2 g3 h0 h1 h2 h3 hs H2
        obtain ⟨⟨c0, c1, c2, c3⟩, ⟨f0, f1, f2, f3⟩, ⟨d0, d1, d2, d3⟩, ⟨g0, g1, g2, g3⟩⟩ := hs2.out.facts
        by_cases hj4 : j < 4
        · have hcases : j = 0 ∨ j = 1 ∨ j = 2 ∨ j = 3 := by omega
          clear hj4 hj
          rcases hcases with rfl | rfl | rfl | rfl
          all_goals
            have i0 := idx0
            have i1 := idx1
            have i2 := idx2
            have i3 := idx3
            go_wp2
            go_roundw
            case rel => exact ⟨_, by decide, rfl, hs2.out.set (by omega) (by omega) _ (by decide) _ (by rw [Oct.word_upto_ge _ _ _ _ (Nat.le_refl _), or_words, Oct.word_upto_lt _ _ _ _ (by decide)]) (fun i _ hne => Oct.word_upto_step _ _ i _ hne)⟩
            case measure => simp [intOf]
        · obtain rfl : j = 4 := by omega
          go_wp2
          go_roundw
          case rel => exact ⟨k + 1, by omega, by go_num, hs2.out.as (fun c hc => by rw [Oct.upto_all _ _ _ hc, HS.out]; exact Oct.joins_take_succ l k x HX.out c)⟩
          case measure => simp [intOf]; omega
    · go_wp2
      exact hs.out.ret Tryz.f95 2 rfl rfl rfl (Nat.le_refl _) _ (fun c _ => by rw [HS.out, List.take_of_length_le (by rw [← HN.out]; omega)])
theorem start_meet (w : World) (s t : Oct.S) : ∃ u, u = (((w.alloc (.cells #[.int .u64 (Oct.word s 0 : Nat), .int .u64 (Oct.word s 1 : Nat), .int .u64 (Oct.word s 2 : Nat), .int .u64 (Oct.word s 3 : Nat)] 28)).alloc (.cells #[.int .u64 (Oct.word t 0 : Nat), .int .u64 (Oct.word t 1 : Nat), .int .u64 (Oct.word t 2 : Nat), .int .u64 (Oct.word t 3 : Nat)] 28)).alloc (.cells #[.int .u64 0, .int .u64 0, .int .u64 0, .int .u64 0] 28)).alloc (.cells #[.int .u64 0, .int .u64 0, .int .u64 0, .int .u64 0] 28) ∧
    SB u w.heap.size s ∧ SB u (w.heap.size + 1) t ∧ St w u (w.heap.size + 2) (w.heap.size + 3) Oct.none := by
  refine ⟨_, rfl, ?_⟩
  obtain ⟨w1, h1⟩ : ∃ w1, w1 = w.alloc (.cells #[.int .u64 (Oct.word s 0 : Nat), .int .u64 (Oct.word s 1 : Nat), .int .u64 (Oct.word s 2 : Nat), .int .u64 (Oct.word s 3 : Nat)] 28) := ⟨_, rfl⟩
  have b1 : Below w.heap.size w w1 := by rw [h1]; exact (Below.refl _ _).alloc (Nat.le_refl _) _
  have z1 : w1.heap.size = w.heap.size + 1 := by rw [h1]; simp
  have a1 : SB w1 w.heap.size s := by rw [h1]; exact sb_new w s
  rw [← h1]
  clear h1
  obtain ⟨w2, h2⟩ : ∃ w2, w2 = w1.alloc (.cells #[.int .u64 (Oct.word t 0 : Nat), .int .u64 (Oct.word t 1 : Nat), .int .u64 (Oct.word t 2 : Nat), .int .u64 (Oct.word t 3 : Nat)] 28) := ⟨_, rfl⟩
  have b2 : Below w1.heap.size w1 w2 := by rw [h2]; exact (Below.refl _ _).alloc (Nat.le_refl _) _
  have z2 : w2.heap.size = w.heap.size + 2 := by rw [h2]; simp [z1]
  have a2 : SB w2 (w.heap.size + 1) t := by rw [h2, ← z1]; exact sb_new w1 t
  rw [← h2]
  clear h2
  have h3 := start2' w w2 (below_trans b1 b2 b1.size)
  rw [z2] at h3
  exact ⟨(a1.later b2).later (start2 w2).2.2, a2.later (start2 w2).2.2, h3⟩
set_option maxHeartbeats 1000000 in
theorem meet_any (s t : Oct.S) (w : World) : Calls Tryz.prog 97 #[setV s, setV t] w fun e w' => e = .returned (setV (Oct.meet s t)) ∧ Below w.heap.size w w' := by
  obtain ⟨u0, hu0, hA, hB, hst⟩ := start_meet w s t
  have HB0 : Hid (SB u0 (w.heap.size + 1) t) := hB
  have H0 : Hid (St w u0 (w.heap.size + 2) (w.heap.size + 3) Oct.none) := hst
  have HU : Hid (u0 = _) := hu0
  clear hA hB hst
  clear hu0
  unfold setV
  go_enter Tryz.func97, Tryz.ntmps97
  go_wp2
  rw [← HU.out]
  clear HU
  go_loopw [9] (fun i u => ∃ j : Nat, j ≤ 4 ∧ i = .int .i64 j ∧ Hid (SB u (w.heap.size + 1) t) ∧ Hid (St w u (w.heap.size + 2) (w.heap.size + 3) (Oct.upto j (Oct.meet s t) Oct.none))) (fun i _ => 4 - (intOf i).toNat)
  case atStart => exact ⟨0, Nat.zero_le _, rfl, HB0, by rw [Oct.upto_zero]; exact H0⟩
  case round =>
    clear HB0 H0
    obtain ⟨j, hj, rfl, hb, hs⟩ := hrel
    obtain ⟨⟨c0, c1, c2, c3⟩, ⟨f0, f1, f2, f3⟩, ⟨d0, d1, d2, d3⟩, ⟨g0, g1, g2, g3⟩⟩ := hs.out.facts
    obtain ⟨e0, e1, e2, e3⟩ := hb.out.cells
    by_cases hj4 : j < 4
    · have hcases : j = 0 ∨ j = 1 ∨ j = 2 ∨ j = 3 := by omega
      clear hj4 hj
      rcases hcases with rfl | rfl | rfl | rfl
      all_goals
        have i0 := idx0
        have i1 := idx1
        have i2 := idx2
        have i3 := idx3
        go_wp2
        go_roundw
        case rel => exact ⟨_, by decide, rfl, hb.out.other (by omega) _ _, hs.out.set (by omega) (by omega) _ (by decide) _ (by rw [and_words, Oct.word_upto_lt _ _ _ _ (by decide)]) (fun i _ hne => Oct.word_upto_step _ _ i _ hne)⟩
        case measure => simp [intOf]
    · obtain rfl : j = 4 := by omega
      go_wp2
      exact hs.out.ret Tryz.f97 4 rfl rfl rfl (by omega) _ (fun c hc => Oct.upto_all _ _ _ hc)
theorem start_not (w : World) (s : Oct.S) : ∃ u, u = ((w.alloc (.cells #[.int .u64 (Oct.word s 0 : Nat), .int .u64 (Oct.word s 1 : Nat), .int .u64 (Oct.word s 2 : Nat), .int .u64 (Oct.word s 3 : Nat)] 28)).alloc (.cells #[.int .u64 0, .int .u64 0, .int .u64 0, .int .u64 0] 28)).alloc (.cells #[.int .u64 0, .int .u64 0, .int .u64 0, .int .u64 0] 28) ∧
    SB u w.heap.size s ∧ St w u (w.heap.size + 1) (w.heap.size + 2) Oct.none := by
  refine ⟨_, rfl, ?_⟩
  obtain ⟨w1, h1⟩ : ∃ w1, w1 = w.alloc (.cells #[.int .u64 (Oct.word s 0 : Nat), .int .u64 (Oct.word s 1 : Nat), .int .u64 (Oct.word s 2 : Nat), .int .u64 (Oct.word s 3 : Nat)] 28) := ⟨_, rfl⟩
  have b1 : Below w.heap.size w w1 := by rw [h1]; exact (Below.refl _ _).alloc (Nat.le_refl _) _
  have z1 : w1.heap.size = w.heap.size + 1 := by rw [h1]; simp
  have a1 : SB w1 w.heap.size s := by rw [h1]; exact sb_new w s
  rw [← h1]
  clear h1
  have h3 := start2' w w1 b1
  rw [z1] at h3
  exact ⟨a1.later (start2 w1).2.2, h3⟩
theorem xor_word (s : Oct.S) (i : Nat) : bits .xor .u64 (if IntKind.u64.signed = true then -1 else IntKind.u64.max) (Oct.word s i : Nat) = (Oct.word (fun c => !(s c)) i : Nat) := by
  have e : (if IntKind.u64.signed = true then (-1 : Int) else IntKind.u64.max) = ((18446744073709551615 : Nat) : Int) := by simp [IntKind.signed, IntKind.max, IntKind.bits]
  rw [e, u64_xor_nat _ _ (by decide) (Oct.word_lt s i)]
  congr 1
  refine Oct.word_eq (Nat.xor_lt_two_pow (n := 64) (by decide) (Oct.word_lt s i)) (fun k hk => ?_)
  rw [Nat.testBit_xor, show (18446744073709551615 : Nat) = 2 ^ 64 - 1 from rfl, Nat.testBit_two_pow_sub_one, Oct.word_bit]
  simp [hk]
set_option maxHeartbeats 1000000 in
theorem not_any (s : Oct.S) (w : World) : Calls Tryz.prog 96 #[setV s] w fun e w' => e = .returned (setV (Oct.inv s)) ∧ Below w.heap.size w w' := by
  obtain ⟨u0, hu0, hA, hst⟩ := start_not w s
  have H0 : Hid (St w u0 (w.heap.size + 1) (w.heap.size + 2) Oct.none) := hst
  have HU : Hid (u0 = _) := hu0
  clear hA hst
  clear hu0
  unfold setV
  go_enter Tryz.func96, Tryz.ntmps96
  go_wp2
  rw [← HU.out]
  clear HU
  go_loopw [7] (fun i u => ∃ j : Nat, j ≤ 4 ∧ i = .int .i64 j ∧ Hid (St w u (w.heap.size + 1) (w.heap.size + 2) (Oct.upto j (fun c => !(s c)) Oct.none))) (fun i _ => 4 - (intOf i).toNat)
  case atStart => exact ⟨0, Nat.zero_le _, rfl, by rw [Oct.upto_zero]; exact H0⟩
  case round =>
    clear H0
    obtain ⟨j, hj, rfl, hs⟩ := hrel
    obtain ⟨⟨c0, c1, c2, c3⟩, ⟨f0, f1, f2, f3⟩, ⟨d0, d1, d2, d3⟩, ⟨g0, g1, g2, g3⟩⟩ := hs.out.facts
    by_cases hj4 : j < 4
    · have hcases : j = 0 ∨ j = 1 ∨ j = 2 ∨ j = 3 := by omega
      clear hj4 hj
      rcases hcases with rfl | rfl | rfl | rfl
      all_goals
        have i0 := idx0
        have i1 := idx1
        have i2 := idx2
        have i3 := idx3
        go_wp2
        go_roundw
        case rel => exact ⟨_, by decide, rfl, hs.out.set (by omega) (by omega) _ (by decide) _ (by rw [xor_word, Oct.word_upto_lt _ _ _ _ (by decide)]) (fun i _ hne => Oct.word_upto_step _ _ i _ hne)⟩
        case measure => simp [intOf]
    · obtain rfl : j = 4 := by omega
      obtain ⟨x, hx⟩ : ∃ x, x = Oct.upto 4 (fun c => !(s c)) Oct.none := ⟨_, rfl⟩
      have HX : Hid (x = Oct.upto 4 (fun c => !(s c)) Oct.none) := hx
      rw [← hx] at hs c0 c1 c2 c3
      clear hx
      go_wp2_with fail
      refine (without_any x 10 _ (by decide)).mono ?_
      rintro e w3 ⟨rfl, hb3⟩
      have HS3 : Hid (St w w3 (w.heap.size + 1) (w.heap.size + 2) x) := hs.out.later hb3
      clear hs hb3 c0 c1 c2 c3 f0 f1 f2 f3 d0 d1 d2 d3 g0 g1 g2 g3
      obtain ⟨_, _, ⟨d0, d1, d2, d3⟩, ⟨g0, g1, g2, g3⟩⟩ := HS3.out.facts
      unfold setV
      go_wp2
      have HS4 := HS3.out.put4_ret (Oct.del x 10)
      exact HS4 Tryz.f96 2 rfl rfl rfl (by omega) _ (fun c hc => by rw [HX.out]; simp only [Oct.del, Oct.inv]; rw [Oct.upto_all _ _ _ hc])
end Go.Proofs.YtmjnobdlgbojoaaGreatDoor
