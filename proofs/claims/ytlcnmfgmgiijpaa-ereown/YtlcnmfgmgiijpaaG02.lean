/- Contracts of octets.marks and octets.Class: by walking their bodies, name by name. -/
import Derived.Test.YtlcnmfgmgiijpaaG00
import Derived.Deep.RegionHeld3
import Derived.Deep.DrawnRows
import Derived.Deep.DeepCutAuto
namespace Go.Proofs.Ytlcnmfgmgiijpaa
open Go.RowKit
attribute [local go_sem ↓] Go.wp_at_zero Go.wp_at_succ

theorem sl4_new (w : World) (s t r q : Oct.S) (g : Nat) (hg : g = w.heap.size) : SL (w.alloc (.cells #[.int .u64 (Oct.word s 0 : Nat), .int .u64 (Oct.word s 1 : Nat), .int .u64 (Oct.word s 2 : Nat), .int .u64 (Oct.word s 3 : Nat), .int .u64 (Oct.word t 0 : Nat), .int .u64 (Oct.word t 1 : Nat), .int .u64 (Oct.word t 2 : Nat), .int .u64 (Oct.word t 3 : Nat), .int .u64 (Oct.word r 0 : Nat), .int .u64 (Oct.word r 1 : Nat), .int .u64 (Oct.word r 2 : Nat), .int .u64 (Oct.word r 3 : Nat), .int .u64 (Oct.word q 0 : Nat), .int .u64 (Oct.word q 1 : Nat), .int .u64 (Oct.word q 2 : Nat), .int .u64 (Oct.word q 3 : Nat)] 25)) g [s, t, r, q] := by
  subst hg
  exact ⟨heap_alloc_new w _⟩
theorem span_gen (f t : Nat) (w : World) (hf : f < 256) (ht : t < 256) : Calls Try.prog 84 #[.int .u8 f, .int .u8 t] w fun e w' => e = .returned (.agg #[.int .u64 (Oct.word (Oct.span f t) 0 : Nat), .int .u64 (Oct.word (Oct.span f t) 1 : Nat), .int .u64 (Oct.word (Oct.span f t) 2 : Nat), .int .u64 (Oct.word (Oct.span f t) 3 : Nat)]) ∧ Below w.heap.size w w' := span_any f t w hf ht
theorem join4_gen {w : World} {g : Nat} {s t r q x : Oct.S} (h : SL w g [s, t, r, q]) (hx : ∀ b, b < 256 → Oct.joins [s, t, r, q] b = x b) : Calls Try.prog 70 #[.slice (some ⟨g, 0, none⟩) 4 4] w fun e w' => e = .returned (.agg #[.int .u64 (Oct.word x 0 : Nat), .int .u64 (Oct.word x 1 : Nat), .int .u64 (Oct.word x 2 : Nat), .int .u64 (Oct.word x 3 : Nat)]) ∧ Below w.heap.size w w' := by
  refine (join_any _ 4 4 [s, t, r, q] w rfl (by simp [maxLen]) h.at).mono ?_
  rintro e w' ⟨rfl, hb⟩
  exact ⟨by rw [setV_congr hx]; rfl, hb⟩

/-! ### the classes -/
def upper : Oct.S := Oct.span 65 90
def lower : Oct.S := Oct.span 97 122
def digit : Oct.S := Oct.span 48 57
def graph : Oct.S := Oct.span 33 126
def print : Oct.S := Oct.span 32 126
def alpha : Oct.S := fun c => upper c || lower c
def alnum : Oct.S := fun c => upper c || lower c || digit c
def xdigit : Oct.S := fun c => digit c || Oct.span 65 70 c || Oct.span 97 102 c
def blank : Oct.S := fun c => c == 9 || c == 32
def space : Oct.S := fun c => Oct.span 9 13 c || c == 32
def cntrl : Oct.S := fun c => decide (c < 32) || c == 127
def punct : Oct.S := fun c => graph c && !(upper c) && !(lower c) && !(digit c)

set_option maxHeartbeats 1000000 in
theorem marks_any (w : World) : Calls Try.prog 86 #[] w fun e w' => e = .returned (.agg #[.int .u64 (Oct.word punct 0 : Nat), .int .u64 (Oct.word punct 1 : Nat), .int .u64 (Oct.word punct 2 : Nat), .int .u64 (Oct.word punct 3 : Nat)]) ∧ Below w.heap.size w w' := by
  have H0 : Hid (SB (w.alloc (.cells #[.int .u64 0, .int .u64 0, .int .u64 0, .int .u64 0] 25)) w.heap.size Oct.none) := sb_zero w
  have HB : Hid (Below w.heap.size w (w.alloc (.cells #[.int .u64 0, .int .u64 0, .int .u64 0, .int .u64 0] 25))) := (Below.refl _ _).alloc (Nat.le_refl _) _
  go_enter Try.func86, Try.ntmps86
  go_wp2_with fail
  refine (span_gen 33 47 _ (by decide) (by decide)).mono ?_
  rintro e w1 ⟨rfl, k1⟩
  have H1 : Hid (SB w1 w.heap.size Oct.none) := H0.out.later k1
  have B1 : Hid (Below w.heap.size w w1) := below_trans HB.out k1 HB.out.size
  clear k1 H0 HB
  go_wp2_with fail
  refine (span_gen 58 64 _ (by decide) (by decide)).mono ?_
  rintro e w2 ⟨rfl, k2⟩
  have H2 : Hid (SB w2 w.heap.size Oct.none) := H1.out.later k2
  have B2 : Hid (Below w.heap.size w w2) := below_trans B1.out k2 B1.out.size
  clear k2 H1 B1
  go_wp2_with fail
  refine (span_gen 91 96 _ (by decide) (by decide)).mono ?_
  rintro e w3 ⟨rfl, k3⟩
  have H3 : Hid (SB w3 w.heap.size Oct.none) := H2.out.later k3
  have B3 : Hid (Below w.heap.size w w3) := below_trans B2.out k3 B2.out.size
  clear k3 H2 B2
  go_wp2_with fail
  refine (span_gen 123 126 _ (by decide) (by decide)).mono ?_
  rintro e w4 ⟨rfl, k4⟩
  have H4 : Hid (SB w4 w.heap.size Oct.none) := H3.out.later k4
  have B4 : Hid (Below w.heap.size w w4) := below_trans B3.out k4 B3.out.size
  clear k4 H3 B3
  go_wp2_with fail
  refine (join4_gen (x := punct) (sl4_new w4 _ _ _ _ _ rfl) ?hx).mono ?_
  case hx =>
    intro b _
    rw [Bool.eq_iff_iff]
    simp [Oct.joins, Oct.span, punct, graph, upper, lower, digit]
    omega
  rintro e w5 ⟨rfl, k5⟩
  have H5 : Hid (SB w5 w.heap.size Oct.none) := (H4.out.later ((Below.refl _ _).alloc (Nat.le_refl _) _)).later k5
  have B5 : Hid (Below w.heap.size w w5) := below_trans (B4.out.alloc B4.out.size _) k5 (by have := B4.out.size; simp; omega)
  clear k5 H4 B4
  obtain ⟨c0, c1, c2, c3⟩ := H5.out.cells
  have f0 := H5.out.frozen 0
  have f1 := H5.out.frozen 1
  have f2 := H5.out.frozen 2
  have f3 := H5.out.frozen 3
  go_wp2
  exact post_set Try.f86 0 rfl rfl rfl (H5.out.put4 punct) ⟨rfl, below_put4 B5.out (Nat.le_refl _) punct⟩

/-! ### the names -/
theorem post_set2 (f : Func) (hf : f.results = #[.cell 2 25, .tmp 3]) {Q : Ending → World → Prop} {a : Act} {w : World} {R : Nat} {s : Oct.S} {x : Value} (hd : a.defers = []) (ha : a.tmps[2]?.getD undef = .pointer (some ⟨R, 0, none⟩)) (hx : a.tmps[3]?.getD undef = x) (hR : SB w R s) (hQ : Q (.returned (.tuple #[setV s, x])) w) : bodyPost Try.prog f Q .ret a w := by
  obtain ⟨c0, c1, c2, c3⟩ := hR.cells
  exact bodyPost_ret (by simp only [results, hf]; simp [ha, hx, go_sem, c0, c1, c2, c3, setV]) hd hQ
theorem St.ret2 {w u : World} {R V : Nat} {s : Oct.S} (h : St w u R V s) (f : Func) (hf : f.results = #[.cell 2 25, .tmp 3]) {a : Act} {x : Value} (hd : a.defers = []) (ha : a.tmps[2]?.getD undef = .pointer (some ⟨R, 0, none⟩)) (hx : a.tmps[3]?.getD undef = x) (hR : w.heap.size ≤ R) (q t : Oct.S) (e : ∀ b, b < 256 → q b = t b) :
    bodyPost Try.prog f (fun e w' => e = .returned (.tuple #[setV t, x]) ∧ Below w.heap.size w w') .ret a (put4 u R q) :=
  post_set2 f hf hd ha hx (h.1.put4 q) ⟨by rw [setV_congr e], below_put4 h.2.2 hR q⟩
theorem wp_cut4 {c : Code} {Q : Exit → Act → World → Prop} {a : Act} {w : World} (d0 d1 d2 d3 : Nat) (J : World → Prop)
    (h1 : c.wp Try.prog (fun x a' w' => x = .normal ∧ (∃ v0 v1 v2 v3, a' = (((a.put (some d0) v0).put (some d1) v1).put (some d2) v2).put (some d3) v3) ∧ J w') a w)
    (h2 : ∀ v0 v1 v2 v3 w', J w' → ∀ a', a' = (((a.put (some d0) v0).put (some d1) v1).put (some d2) v2).put (some d3) v3 → Q .normal a' w') : c.wp Try.prog Q a w :=
  Code.wp_mono (fun e a' w' h => by obtain ⟨rfl, ⟨v0, v1, v2, v3, rfl⟩, hJ⟩ := h; exact h2 v0 v1 v2 v3 w' hJ _ rfl) h1
theorem wp_cut5 {c : Code} {Q : Exit → Act → World → Prop} {a : Act} {w : World} (d0 d1 d2 d3 d4 : Nat) (J : World → Prop)
    (h1 : c.wp Try.prog (fun x a' w' => x = .normal ∧ (∃ v0 v1 v2 v3 v4, a' = ((((a.put (some d0) v0).put (some d1) v1).put (some d2) v2).put (some d3) v3).put (some d4) v4) ∧ J w') a w)
    (h2 : ∀ v0 v1 v2 v3 v4 w', J w' → ∀ a', a' = ((((a.put (some d0) v0).put (some d1) v1).put (some d2) v2).put (some d3) v3).put (some d4) v4 → Q .normal a' w') : c.wp Try.prog Q a w :=
  Code.wp_mono (fun e a' w' h => by obtain ⟨rfl, ⟨v0, v1, v2, v3, v4, rfl⟩, hJ⟩ := h; exact h2 v0 v1 v2 v3 v4 w' hJ _ rfl) h1
theorem of_gen {w : World} {a : Option Addr} (bs : List Nat) (n : Nat) (hn : n = bs.length) (hl : n ≤ 100) (h : BytesAt w a bs) (hb : ∀ b ∈ bs, b < 256) : Calls Try.prog 66 #[.slice a n n] w fun e w' => e = .returned (.agg #[.int .u64 (Oct.word (Oct.has bs) 0 : Nat), .int .u64 (Oct.word (Oct.has bs) 1 : Nat), .int .u64 (Oct.word (Oct.has bs) 2 : Nat), .int .u64 (Oct.word (Oct.has bs) 3 : Nat)]) ∧ Below w.heap.size w w' :=
  of_any a n n bs w hn (by simp [maxLen]; omega) h hb
end Go.Proofs.Ytlcnmfgmgiijpaa

/- Contracts of octets.Class at some of its names: by walking its body. -/
namespace Go.Proofs.Ytlcnmfgmgiijpaa
open Go.RowKit
attribute [local go_sem ↓] Go.wp_at_zero Go.wp_at_succ
set_option maxRecDepth 4000 in
set_option maxHeartbeats 2000000 in
theorem class_upper (w : World) : Calls Try.prog 83 #[.string ⟨#[117, 112, 112, 101, 114]⟩] w fun e w' => e = .returned (.tuple #[setV upper, .int .i64 0]) ∧ Below w.heap.size w w' := by
  obtain ⟨u0, hu0⟩ : ∃ u0, u0 = (w.alloc (.cells #[.int .u64 0, .int .u64 0, .int .u64 0, .int .u64 0] 25)).alloc (.cells #[.int .u64 0, .int .u64 0, .int .u64 0, .int .u64 0] 25) := ⟨_, rfl⟩
  have HS : Hid (St w u0 w.heap.size (w.heap.size + 1) (Oct.none)) := by rw [hu0]; exact start2 w
  have HU : Hid (u0 = _) := hu0
  clear hu0
  go_enter Try.func83, Try.ntmps83
  go_upto_region 20 with fail
  rw [← HU.out]
  clear HU
  obtain ⟨⟨c0, c1, c2, c3⟩, ⟨f0, f1, f2, f3⟩, ⟨d0, d1, d2, d3⟩, ⟨g0, g1, g2, g3⟩⟩ := HS.out.facts
  go_wp2_with fail
  refine (span_gen 65 90 _ (by decide) (by decide)).mono ?_
  rintro e v10 ⟨rfl, kk⟩
  have H10 : Hid (St w v10 w.heap.size (w.heap.size + 1) (Oct.none)) := (HS.out).later kk
  clear kk c0 c1 c2 c3 f0 f1 f2 f3 d0 d1 d2 d3 g0 g1 g2 g3
  obtain ⟨⟨c0, c1, c2, c3⟩, ⟨f0, f1, f2, f3⟩, ⟨d0, d1, d2, d3⟩, ⟨g0, g1, g2, g3⟩⟩ := H10.out.facts
  go_upto_region 28 with fail
  obtain ⟨u1, hu1⟩ : ∃ u1, u1 = put4 v10 (w.heap.size + 1) (Oct.span 65 90) := ⟨_, rfl⟩
  have HT : Hid (St w u1 w.heap.size (w.heap.size + 1) (Oct.span 65 90)) := by rw [hu1]; exact H10.out.put (by omega) (by omega) _
  have HE : Hid (u1 = put4 v10 (w.heap.size + 1) (Oct.span 65 90)) := hu1
  unfold put4 at HE
  clear hu1 c0 c1 c2 c3 f0 f1 f2 f3 d0 d1 d2 d3 g0 g1 g2 g3 HS
  rw [← HE.out]
  clear HE
  have HS : Hid (St w u1 w.heap.size (w.heap.size + 1) (Oct.span 65 90)) := HT
  clear HT
  obtain ⟨⟨c0, c1, c2, c3⟩, ⟨f0, f1, f2, f3⟩, ⟨d0, d1, d2, d3⟩, ⟨g0, g1, g2, g3⟩⟩ := HS.out.facts
  go_wp2
  exact HS.out.ret2 Try.f83 rfl rfl rfl rfl (Nat.le_refl _) _ upper (fun b hb => by
    rw [Bool.eq_iff_iff]
    try simp [Oct.span, upper]
    try omega)
set_option maxRecDepth 4000 in
set_option maxHeartbeats 2000000 in
theorem class_lower (w : World) : Calls Try.prog 83 #[.string ⟨#[108, 111, 119, 101, 114]⟩] w fun e w' => e = .returned (.tuple #[setV lower, .int .i64 0]) ∧ Below w.heap.size w w' := by
  obtain ⟨u0, hu0⟩ : ∃ u0, u0 = (w.alloc (.cells #[.int .u64 0, .int .u64 0, .int .u64 0, .int .u64 0] 25)).alloc (.cells #[.int .u64 0, .int .u64 0, .int .u64 0, .int .u64 0] 25) := ⟨_, rfl⟩
  have HS : Hid (St w u0 w.heap.size (w.heap.size + 1) (Oct.none)) := by rw [hu0]; exact start2 w
  have HU : Hid (u0 = _) := hu0
  clear hu0
  go_enter Try.func83, Try.ntmps83
  go_upto_region 19 with fail
  rw [← HU.out]
  clear HU
  refine wp_cut4 44 45 46 47 (fun wx => Hid (St w wx w.heap.size (w.heap.size + 1) (Oct.join (Oct.none) (Oct.span 97 122)))) ?first1 ?rest1
  case first1 =>
    obtain ⟨⟨c0, c1, c2, c3⟩, ⟨f0, f1, f2, f3⟩, ⟨d0, d1, d2, d3⟩, ⟨g0, g1, g2, g3⟩⟩ := HS.out.facts
    have a0 : ∀ o : Obj, (u0.alloc o).cell? ⟨w.heap.size + 1, 0, none⟩ = some (.int .u64 (Oct.word (Oct.none) 0 : Nat)) := fun o => (HS.out.later ((Below.refl _ _).alloc (Nat.le_refl _) _)).facts.1.1
    have a1 : ∀ o : Obj, (u0.alloc o).cell? ⟨w.heap.size + 1, 1, none⟩ = some (.int .u64 (Oct.word (Oct.none) 1 : Nat)) := fun o => (HS.out.later ((Below.refl _ _).alloc (Nat.le_refl _) _)).facts.1.2.1
    have a2 : ∀ o : Obj, (u0.alloc o).cell? ⟨w.heap.size + 1, 2, none⟩ = some (.int .u64 (Oct.word (Oct.none) 2 : Nat)) := fun o => (HS.out.later ((Below.refl _ _).alloc (Nat.le_refl _) _)).facts.1.2.2.1
    have a3 : ∀ o : Obj, (u0.alloc o).cell? ⟨w.heap.size + 1, 3, none⟩ = some (.int .u64 (Oct.word (Oct.none) 3 : Nat)) := fun o => (HS.out.later ((Below.refl _ _).alloc (Nat.le_refl _) _)).facts.1.2.2.2
    go_region_with (first
      | (go_at_call 84; refine (span_gen 97 122 _ (by decide) (by decide)).mono ?_; rintro e wn ⟨rfl, kn⟩; have Hn : Hid (St w wn w.heap.size (w.heap.size + 1) (Oct.none)) := (by first | exact (HS.out.later (Below.refl _ _).drew).later kn | exact (HS.out.later (((Below.refl _ _).alloc (Nat.le_refl _) _).drew)).later kn); clear c0 c1 c2 c3 f0 f1 f2 f3 d0 d1 d2 d3 g0 g1 g2 g3; obtain ⟨⟨c0, c1, c2, c3⟩, ⟨f0, f1, f2, f3⟩, ⟨d0, d1, d2, d3⟩, ⟨g0, g1, g2, g3⟩⟩ := Hn.out.facts; clear kn)
      | (go_at_call 70; refine (join2_gen (sl2_new _ _ _ _ rfl)).mono ?_; rintro e wm ⟨rfl, km⟩; have Hm : Hid (St w wm w.heap.size (w.heap.size + 1) (Oct.none)) := (Hn.out.later ((Below.refl _ _).alloc (Nat.le_refl _) _)).later km; clear c0 c1 c2 c3 f0 f1 f2 f3 d0 d1 d2 d3 g0 g1 g2 g3; obtain ⟨⟨c0, c1, c2, c3⟩, ⟨f0, f1, f2, f3⟩, ⟨d0, d1, d2, d3⟩, ⟨g0, g1, g2, g3⟩⟩ := Hm.out.facts; clear km))
    all_goals
      exact ⟨rfl, ⟨_, _, _, _, rfl⟩, Hm.out.put (by omega) (by omega) (Oct.join (Oct.none) (Oct.span 97 122))⟩
  case rest1 =>
  intro x10 x11 x12 x13 u1 hcut a' ha'
  simp [Act.put] at ha'
  subst ha'
  clear HS
  have HS : Hid (St w u1 w.heap.size (w.heap.size + 1) (Oct.join (Oct.none) (Oct.span 97 122))) := hcut
  clear hcut
  obtain ⟨⟨c0, c1, c2, c3⟩, ⟨f0, f1, f2, f3⟩, ⟨d0, d1, d2, d3⟩, ⟨g0, g1, g2, g3⟩⟩ := HS.out.facts
  go_wp2
  exact HS.out.ret2 Try.f83 rfl rfl rfl rfl (Nat.le_refl _) _ lower (fun b hb => by
    rw [Bool.eq_iff_iff]
    try simp [Oct.join, Oct.none, Oct.span, lower]
    try omega)
set_option maxRecDepth 4000 in
set_option maxHeartbeats 2000000 in
theorem class_alpha (w : World) : Calls Try.prog 83 #[.string ⟨#[97, 108, 112, 104, 97]⟩] w fun e w' => e = .returned (.tuple #[setV alpha, .int .i64 0]) ∧ Below w.heap.size w w' := by
  obtain ⟨u0, hu0⟩ : ∃ u0, u0 = (w.alloc (.cells #[.int .u64 0, .int .u64 0, .int .u64 0, .int .u64 0] 25)).alloc (.cells #[.int .u64 0, .int .u64 0, .int .u64 0, .int .u64 0] 25) := ⟨_, rfl⟩
  have HS : Hid (St w u0 w.heap.size (w.heap.size + 1) (Oct.none)) := by rw [hu0]; exact start2 w
  have HU : Hid (u0 = _) := hu0
  clear hu0
  go_enter Try.func83, Try.ntmps83
  go_upto_region 18 with fail
  rw [← HU.out]
  clear HU
  refine wp_cut4 40 41 42 43 (fun wx => Hid (St w wx w.heap.size (w.heap.size + 1) (Oct.join (Oct.none) (Oct.span 65 90)))) ?first1 ?rest1
  case first1 =>
    obtain ⟨⟨c0, c1, c2, c3⟩, ⟨f0, f1, f2, f3⟩, ⟨d0, d1, d2, d3⟩, ⟨g0, g1, g2, g3⟩⟩ := HS.out.facts
    have a0 : ∀ o : Obj, (u0.alloc o).cell? ⟨w.heap.size + 1, 0, none⟩ = some (.int .u64 (Oct.word (Oct.none) 0 : Nat)) := fun o => (HS.out.later ((Below.refl _ _).alloc (Nat.le_refl _) _)).facts.1.1
    have a1 : ∀ o : Obj, (u0.alloc o).cell? ⟨w.heap.size + 1, 1, none⟩ = some (.int .u64 (Oct.word (Oct.none) 1 : Nat)) := fun o => (HS.out.later ((Below.refl _ _).alloc (Nat.le_refl _) _)).facts.1.2.1
    have a2 : ∀ o : Obj, (u0.alloc o).cell? ⟨w.heap.size + 1, 2, none⟩ = some (.int .u64 (Oct.word (Oct.none) 2 : Nat)) := fun o => (HS.out.later ((Below.refl _ _).alloc (Nat.le_refl _) _)).facts.1.2.2.1
    have a3 : ∀ o : Obj, (u0.alloc o).cell? ⟨w.heap.size + 1, 3, none⟩ = some (.int .u64 (Oct.word (Oct.none) 3 : Nat)) := fun o => (HS.out.later ((Below.refl _ _).alloc (Nat.le_refl _) _)).facts.1.2.2.2
    go_region_with (first
      | (go_at_call 84; refine (span_gen 65 90 _ (by decide) (by decide)).mono ?_; rintro e wn ⟨rfl, kn⟩; have Hn : Hid (St w wn w.heap.size (w.heap.size + 1) (Oct.none)) := (by first | exact (HS.out.later (Below.refl _ _).drew).later kn | exact (HS.out.later (((Below.refl _ _).alloc (Nat.le_refl _) _).drew)).later kn); clear c0 c1 c2 c3 f0 f1 f2 f3 d0 d1 d2 d3 g0 g1 g2 g3; obtain ⟨⟨c0, c1, c2, c3⟩, ⟨f0, f1, f2, f3⟩, ⟨d0, d1, d2, d3⟩, ⟨g0, g1, g2, g3⟩⟩ := Hn.out.facts; clear kn)
      | (go_at_call 70; refine (join2_gen (sl2_new _ _ _ _ rfl)).mono ?_; rintro e wm ⟨rfl, km⟩; have Hm : Hid (St w wm w.heap.size (w.heap.size + 1) (Oct.none)) := (Hn.out.later ((Below.refl _ _).alloc (Nat.le_refl _) _)).later km; clear c0 c1 c2 c3 f0 f1 f2 f3 d0 d1 d2 d3 g0 g1 g2 g3; obtain ⟨⟨c0, c1, c2, c3⟩, ⟨f0, f1, f2, f3⟩, ⟨d0, d1, d2, d3⟩, ⟨g0, g1, g2, g3⟩⟩ := Hm.out.facts; clear km))
    all_goals
      exact ⟨rfl, ⟨_, _, _, _, rfl⟩, Hm.out.put (by omega) (by omega) (Oct.join (Oct.none) (Oct.span 65 90))⟩
  case rest1 =>
  intro x10 x11 x12 x13 u1 hcut a' ha'
  simp [Act.put] at ha'
  subst ha'
  clear HS
  have HS : Hid (St w u1 w.heap.size (w.heap.size + 1) (Oct.join (Oct.none) (Oct.span 65 90))) := hcut
  clear hcut
  go_upto_region 19 with fail
  refine wp_cut4 44 45 46 47 (fun wx => Hid (St w wx w.heap.size (w.heap.size + 1) (Oct.join (Oct.join (Oct.none) (Oct.span 65 90)) (Oct.span 97 122)))) ?first2 ?rest2
  case first2 =>
    obtain ⟨⟨c0, c1, c2, c3⟩, ⟨f0, f1, f2, f3⟩, ⟨d0, d1, d2, d3⟩, ⟨g0, g1, g2, g3⟩⟩ := HS.out.facts
    have a0 : ∀ o : Obj, (u1.alloc o).cell? ⟨w.heap.size + 1, 0, none⟩ = some (.int .u64 (Oct.word (Oct.join (Oct.none) (Oct.span 65 90)) 0 : Nat)) := fun o => (HS.out.later ((Below.refl _ _).alloc (Nat.le_refl _) _)).facts.1.1
    have a1 : ∀ o : Obj, (u1.alloc o).cell? ⟨w.heap.size + 1, 1, none⟩ = some (.int .u64 (Oct.word (Oct.join (Oct.none) (Oct.span 65 90)) 1 : Nat)) := fun o => (HS.out.later ((Below.refl _ _).alloc (Nat.le_refl _) _)).facts.1.2.1
    have a2 : ∀ o : Obj, (u1.alloc o).cell? ⟨w.heap.size + 1, 2, none⟩ = some (.int .u64 (Oct.word (Oct.join (Oct.none) (Oct.span 65 90)) 2 : Nat)) := fun o => (HS.out.later ((Below.refl _ _).alloc (Nat.le_refl _) _)).facts.1.2.2.1
    have a3 : ∀ o : Obj, (u1.alloc o).cell? ⟨w.heap.size + 1, 3, none⟩ = some (.int .u64 (Oct.word (Oct.join (Oct.none) (Oct.span 65 90)) 3 : Nat)) := fun o => (HS.out.later ((Below.refl _ _).alloc (Nat.le_refl _) _)).facts.1.2.2.2
    go_region_with (first
      | (go_at_call 84; refine (span_gen 97 122 _ (by decide) (by decide)).mono ?_; rintro e wn ⟨rfl, kn⟩; have Hn : Hid (St w wn w.heap.size (w.heap.size + 1) (Oct.join (Oct.none) (Oct.span 65 90))) := (by first | exact (HS.out.later (Below.refl _ _).drew).later kn | exact (HS.out.later (((Below.refl _ _).alloc (Nat.le_refl _) _).drew)).later kn); clear c0 c1 c2 c3 f0 f1 f2 f3 d0 d1 d2 d3 g0 g1 g2 g3; obtain ⟨⟨c0, c1, c2, c3⟩, ⟨f0, f1, f2, f3⟩, ⟨d0, d1, d2, d3⟩, ⟨g0, g1, g2, g3⟩⟩ := Hn.out.facts; clear kn)
      | (go_at_call 70; refine (join2_gen (sl2_new _ _ _ _ rfl)).mono ?_; rintro e wm ⟨rfl, km⟩; have Hm : Hid (St w wm w.heap.size (w.heap.size + 1) (Oct.join (Oct.none) (Oct.span 65 90))) := (Hn.out.later ((Below.refl _ _).alloc (Nat.le_refl _) _)).later km; clear c0 c1 c2 c3 f0 f1 f2 f3 d0 d1 d2 d3 g0 g1 g2 g3; obtain ⟨⟨c0, c1, c2, c3⟩, ⟨f0, f1, f2, f3⟩, ⟨d0, d1, d2, d3⟩, ⟨g0, g1, g2, g3⟩⟩ := Hm.out.facts; clear km))
    all_goals
      exact ⟨rfl, ⟨_, _, _, _, rfl⟩, Hm.out.put (by omega) (by omega) (Oct.join (Oct.join (Oct.none) (Oct.span 65 90)) (Oct.span 97 122))⟩
  case rest2 =>
  intro x20 x21 x22 x23 u2 hcut a' ha'
  simp [Act.put] at ha'
  subst ha'
  clear HS
  have HS : Hid (St w u2 w.heap.size (w.heap.size + 1) (Oct.join (Oct.join (Oct.none) (Oct.span 65 90)) (Oct.span 97 122))) := hcut
  clear hcut
  obtain ⟨⟨c0, c1, c2, c3⟩, ⟨f0, f1, f2, f3⟩, ⟨d0, d1, d2, d3⟩, ⟨g0, g1, g2, g3⟩⟩ := HS.out.facts
  go_wp2
  exact HS.out.ret2 Try.f83 rfl rfl rfl rfl (Nat.le_refl _) _ alpha (fun b hb => by
    rw [Bool.eq_iff_iff]
    try simp [Oct.join, Oct.none, Oct.span, alpha, upper, lower]
    try omega)
end Go.Proofs.Ytlcnmfgmgiijpaa
