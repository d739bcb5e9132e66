/- Contracts of octets.marks and octets.Class: by walking their bodies, name by name. -/
import Derived.Test.YtkgpmaclaahmbaaGen
import Derived.Deep.RegionHeld3
import Derived.Deep.DrawnRows
import Derived.Deep.DeepCutAuto
namespace Go.Proofs.Ytkgpmaclaahmbaa
open Go.RowKit
attribute [local go_sem ↓] Go.wp_at_zero Go.wp_at_succ

theorem sl4_new (w : World) (s t r q : Oct.S) (g : Nat) (hg : g = w.heap.size) : SL (w.alloc (.cells #[.int .u64 (Oct.word s 0 : Nat), .int .u64 (Oct.word s 1 : Nat), .int .u64 (Oct.word s 2 : Nat), .int .u64 (Oct.word s 3 : Nat), .int .u64 (Oct.word t 0 : Nat), .int .u64 (Oct.word t 1 : Nat), .int .u64 (Oct.word t 2 : Nat), .int .u64 (Oct.word t 3 : Nat), .int .u64 (Oct.word r 0 : Nat), .int .u64 (Oct.word r 1 : Nat), .int .u64 (Oct.word r 2 : Nat), .int .u64 (Oct.word r 3 : Nat), .int .u64 (Oct.word q 0 : Nat), .int .u64 (Oct.word q 1 : Nat), .int .u64 (Oct.word q 2 : Nat), .int .u64 (Oct.word q 3 : Nat)] 24)) g [s, t, r, q] := by
  subst hg
  exact ⟨heap_alloc_new w _⟩
theorem span_gen (f t : Nat) (w : World) (hf : f < 256) (ht : t < 256) : Calls Try.prog 10 #[.int .u8 f, .int .u8 t] w fun e w' => e = .returned (.agg #[.int .u64 (Oct.word (Oct.span f t) 0 : Nat), .int .u64 (Oct.word (Oct.span f t) 1 : Nat), .int .u64 (Oct.word (Oct.span f t) 2 : Nat), .int .u64 (Oct.word (Oct.span f t) 3 : Nat)]) ∧ Below w.heap.size w w' := span_any f t w hf ht
theorem join4_gen {w : World} {g : Nat} {s t r q x : Oct.S} (h : SL w g [s, t, r, q]) (hx : ∀ b, b < 256 → Oct.joins [s, t, r, q] b = x b) : Calls Try.prog 12 #[.slice (some ⟨g, 0, none⟩) 4 4] w fun e w' => e = .returned (.agg #[.int .u64 (Oct.word x 0 : Nat), .int .u64 (Oct.word x 1 : Nat), .int .u64 (Oct.word x 2 : Nat), .int .u64 (Oct.word x 3 : Nat)]) ∧ Below w.heap.size w w' := by
  refine (join_any _ 4 4 [s, t, r, q] w rfl (by simp [maxLen]) h.at).mono ?_
  rintro e w' ⟨rfl, hb⟩
  exact ⟨by rw [setV_congr hx]; rfl, hb⟩

/-! ### the classes -/
def upper : Oct.S := Oct.span 65 90
def lower : Oct.S := Oct.span 97 122
def digit : Oct.S := Oct.span 48 57
def graph : Oct.S := Oct.span 33 126
def print : Oct.S := Oct.span 32 126
def alpha : Oct.S := fun c => upper c || lower c
def alnum : Oct.S := fun c => upper c || lower c || digit c
def xdigit : Oct.S := fun c => digit c || Oct.span 65 70 c || Oct.span 97 102 c
def blank : Oct.S := fun c => c == 9 || c == 32
def space : Oct.S := fun c => Oct.span 9 13 c || c == 32
def cntrl : Oct.S := fun c => decide (c < 32) || c == 127
def punct : Oct.S := fun c => graph c && !(upper c) && !(lower c) && !(digit c)

set_option maxHeartbeats 1000000 in
theorem marks_any (w : World) : Calls Try.prog 34 #[] w fun e w' => e = .returned (.agg #[.int .u64 (Oct.word punct 0 : Nat), .int .u64 (Oct.word punct 1 : Nat), .int .u64 (Oct.word punct 2 : Nat), .int .u64 (Oct.word punct 3 : Nat)]) ∧ Below w.heap.size w w' := by
  have H0 : Hid (SB (w.alloc (.cells #[.int .u64 0, .int .u64 0, .int .u64 0, .int .u64 0] 24)) w.heap.size Oct.none) := sb_zero w
  have HB : Hid (Below w.heap.size w (w.alloc (.cells #[.int .u64 0, .int .u64 0, .int .u64 0, .int .u64 0] 24))) := (Below.refl _ _).alloc (Nat.le_refl _) _
  go_enter Try.func34, Try.ntmps34
  go_wp2_with fail
  refine (span_gen 33 47 _ (by decide) (by decide)).mono ?_
  rintro e w1 ⟨rfl, k1⟩
  have H1 : Hid (SB w1 w.heap.size Oct.none) := H0.out.later k1
  have B1 : Hid (Below w.heap.size w w1) := below_trans HB.out k1 HB.out.size
  clear k1 H0 HB
  go_wp2_with fail
  refine (span_gen 58 64 _ (by decide) (by decide)).mono ?_
  rintro e w2 ⟨rfl, k2⟩
  have H2 : Hid (SB w2 w.heap.size Oct.none) := H1.out.later k2
  have B2 : Hid (Below w.heap.size w w2) := below_trans B1.out k2 B1.out.size
  clear k2 H1 B1
  go_wp2_with fail
  refine (span_gen 91 96 _ (by decide) (by decide)).mono ?_
  rintro e w3 ⟨rfl, k3⟩
  have H3 : Hid (SB w3 w.heap.size Oct.none) := H2.out.later k3
  have B3 : Hid (Below w.heap.size w w3) := below_trans B2.out k3 B2.out.size
  clear k3 H2 B2
  go_wp2_with fail
  refine (span_gen 123 126 _ (by decide) (by decide)).mono ?_
  rintro e w4 ⟨rfl, k4⟩
  have H4 : Hid (SB w4 w.heap.size Oct.none) := H3.out.later k4
  have B4 : Hid (Below w.heap.size w w4) := below_trans B3.out k4 B3.out.size
  clear k4 H3 B3
  go_wp2_with fail
  refine (join4_gen (x := punct) (sl4_new w4 _ _ _ _ _ rfl) ?hx).mono ?_
  case hx =>
    intro b _
    rw [Bool.eq_iff_iff]
    simp [Oct.joins, Oct.span, punct, graph, upper, lower, digit]
    omega
  rintro e w5 ⟨rfl, k5⟩
  have H5 : Hid (SB w5 w.heap.size Oct.none) := (H4.out.later ((Below.refl _ _).alloc (Nat.le_refl _) _)).later k5
  have B5 : Hid (Below w.heap.size w w5) := below_trans (B4.out.alloc B4.out.size _) k5 (by have := B4.out.size; simp; omega)
  clear k5 H4 B4
  obtain ⟨c0, c1, c2, c3⟩ := H5.out.cells
  have f0 := H5.out.frozen 0
  have f1 := H5.out.frozen 1
  have f2 := H5.out.frozen 2
  have f3 := H5.out.frozen 3
  go_wp2
  exact post_set Try.f34 0 rfl rfl rfl (H5.out.put4 punct) ⟨rfl, below_put4 B5.out (Nat.le_refl _) punct⟩

/-! ### the names -/
theorem post_set2 (f : Func) (hf : f.results = #[.cell 2 24, .tmp 3]) {Q : Ending → World → Prop} {a : Act} {w : World} {R : Nat} {s : Oct.S} {x : Value} (hd : a.defers = []) (ha : a.tmps[2]?.getD undef = .pointer (some ⟨R, 0, none⟩)) (hx : a.tmps[3]?.getD undef = x) (hR : SB w R s) (hQ : Q (.returned (.tuple #[setV s, x])) w) : bodyPost Try.prog f Q .ret a w := by
  obtain ⟨c0, c1, c2, c3⟩ := hR.cells
  exact bodyPost_ret (by simp only [results, hf]; simp [ha, hx, go_sem, c0, c1, c2, c3, setV]) hd hQ
theorem St.ret2 {w u : World} {R V : Nat} {s : Oct.S} (h : St w u R V s) (f : Func) (hf : f.results = #[.cell 2 24, .tmp 3]) {a : Act} {x : Value} (hd : a.defers = []) (ha : a.tmps[2]?.getD undef = .pointer (some ⟨R, 0, none⟩)) (hx : a.tmps[3]?.getD undef = x) (hR : w.heap.size ≤ R) (q t : Oct.S) (e : ∀ b, b < 256 → q b = t b) :
    bodyPost Try.prog f (fun e w' => e = .returned (.tuple #[setV t, x]) ∧ Below w.heap.size w w') .ret a (put4 u R q) :=
  post_set2 f hf hd ha hx (h.1.put4 q) ⟨by rw [setV_congr e], below_put4 h.2.2 hR q⟩
theorem wp_cut4 {c : Code} {Q : Exit → Act → World → Prop} {a : Act} {w : World} (d0 d1 d2 d3 : Nat) (J : World → Prop)
    (h1 : c.wp Try.prog (fun x a' w' => x = .normal ∧ (∃ v0 v1 v2 v3, a' = (((a.put (some d0) v0).put (some d1) v1).put (some d2) v2).put (some d3) v3) ∧ J w') a w)
    (h2 : ∀ v0 v1 v2 v3 w', J w' → ∀ a', a' = (((a.put (some d0) v0).put (some d1) v1).put (some d2) v2).put (some d3) v3 → Q .normal a' w') : c.wp Try.prog Q a w :=
  Code.wp_mono (fun e a' w' h => by obtain ⟨rfl, ⟨v0, v1, v2, v3, rfl⟩, hJ⟩ := h; exact h2 v0 v1 v2 v3 w' hJ _ rfl) h1
theorem wp_cut5 {c : Code} {Q : Exit → Act → World → Prop} {a : Act} {w : World} (d0 d1 d2 d3 d4 : Nat) (J : World → Prop)
    (h1 : c.wp Try.prog (fun x a' w' => x = .normal ∧ (∃ v0 v1 v2 v3 v4, a' = ((((a.put (some d0) v0).put (some d1) v1).put (some d2) v2).put (some d3) v3).put (some d4) v4) ∧ J w') a w)
    (h2 : ∀ v0 v1 v2 v3 v4 w', J w' → ∀ a', a' = ((((a.put (some d0) v0).put (some d1) v1).put (some d2) v2).put (some d3) v3).put (some d4) v4 → Q .normal a' w') : c.wp Try.prog Q a w :=
  Code.wp_mono (fun e a' w' h => by obtain ⟨rfl, ⟨v0, v1, v2, v3, v4, rfl⟩, hJ⟩ := h; exact h2 v0 v1 v2 v3 v4 w' hJ _ rfl) h1
theorem of_gen {w : World} {a : Option Addr} (bs : List Nat) (n : Nat) (hn : n = bs.length) (hl : n ≤ 100) (h : BytesAt w a bs) (hb : ∀ b ∈ bs, b < 256) : Calls Try.prog 13 #[.slice a n n] w fun e w' => e = .returned (.agg #[.int .u64 (Oct.word (Oct.has bs) 0 : Nat), .int .u64 (Oct.word (Oct.has bs) 1 : Nat), .int .u64 (Oct.word (Oct.has bs) 2 : Nat), .int .u64 (Oct.word (Oct.has bs) 3 : Nat)]) ∧ Below w.heap.size w w' :=
  of_any a n n bs w hn (by simp [maxLen]; omega) h hb
end Go.Proofs.Ytkgpmaclaahmbaa
