/- The contracts of octets in the form that a region of many calls wants: arguments and answers written out, the lists of Join by their blocks. -/
import Derived.Test.YtjmbimgofceanaaG00
import Derived.Deep.RegionHeld3
import Derived.Deep.DrawnRows
import Derived.Deep.DeepCutAuto
import Derived.Shelf.Small.Strs
import Derived.Shelf.Strings.Search1
import Derived.Shelf.Strings.Search2
import Derived.Shelf.Strings.Cut
import Derived.Shelf.LaysM
import Derived.Shelf.Strings.Shaped
import Derived.Shelf.Strings.Prefix
import Derived.Test.YtjmbimgofceanaaProg
import Derived.Deep.DeepMust
namespace Go.Proofs.Ytjmbimgofceanaa
open Go.RowKit

/-- a set's words as cells -/
def cells4 (s : Oct.S) : List Value := [.int .u64 (Oct.word s 0 : Nat), .int .u64 (Oct.word s 1 : Nat), .int .u64 (Oct.word s 2 : Nat), .int .u64 (Oct.word s 3 : Nat)]
def flat (l : List Oct.S) : List Value := l.flatMap cells4
theorem flat_at (l : List Oct.S) (k j : Nat) (s : Oct.S) (hk : l[k]? = some s) (hj : j < 4) : (flat l)[k * 4 + j]? = (cells4 s)[j]? := by
  induction l generalizing k with
  | nil => simp at hk
  | cons x r ih =>
    simp only [flat, List.flatMap_cons] at ih ⊢
    cases k with
    | zero =>
      simp at hk
      subst hk
      rw [List.getElem?_append_left (by simp [cells4]; omega)]
      simp
    | succ k =>
      simp at hk
      rw [List.getElem?_append_right (by simp [cells4]; omega), ← ih k hk]
      congr 1
      simp [cells4]
      omega
/-- A LIST OF SETS IN A BLOCK OF ITS OWN. -/
structure SL (w : World) (g : Nat) (l : List Oct.S) : Prop where
  block : w.heap[g]? = some (.cells (flat l).toArray 27 (0, 0))
theorem SL.at {w : World} {g : Nat} {l : List Oct.S} (h : SL w g l) : SetsAt w (some ⟨g, 0, none⟩) l := by
  refine Or.inr ⟨g, 0, rfl, fun k s hk => ?_⟩
  have h := h.block
  have h0 := flat_at l k 0 s hk (by decide)
  have h1 := flat_at l k 1 s hk (by decide)
  have h2 := flat_at l k 2 s hk (by decide)
  have h3 := flat_at l k 3 s hk (by decide)
  simp only [Nat.add_zero] at h0
  refine ⟨?_, ?_, ?_, ?_⟩ <;> simp [World.cell?, h, h0, h1, h2, h3, cells4]
theorem SL.later {w w' : World} {g : Nat} {l : List Oct.S} (h : SL w g l) (hb : Below w.heap.size w w') : SL w' g l := ⟨(hb.block g (Array.getElem?_eq_some_iff.1 h.block).1).trans h.block⟩
theorem SL.alloc {w : World} {g : Nat} {l : List Oct.S} (h : SL w g l) (o : Obj) : SL (w.alloc o) g l := h.later ((Below.refl _ _).alloc (Nat.le_refl _) _)
theorem sl2_new (w : World) (s t : Oct.S) (g : Nat) (hg : g = w.heap.size) : SL (w.alloc (.cells #[.int .u64 (Oct.word s 0 : Nat), .int .u64 (Oct.word s 1 : Nat), .int .u64 (Oct.word s 2 : Nat), .int .u64 (Oct.word s 3 : Nat), .int .u64 (Oct.word t 0 : Nat), .int .u64 (Oct.word t 1 : Nat), .int .u64 (Oct.word t 2 : Nat), .int .u64 (Oct.word t 3 : Nat)] 27)) g [s, t] := by
  subst hg
  exact ⟨heap_alloc_new w _⟩
theorem join2_gen {w : World} {g : Nat} {s t : Oct.S} (h : SL w g [s, t]) : Calls Try.prog 92 #[.slice (some ⟨g, 0, none⟩) 2 2] w fun e w' => e = .returned (.agg #[.int .u64 (Oct.word (Oct.join s t) 0 : Nat), .int .u64 (Oct.word (Oct.join s t) 1 : Nat), .int .u64 (Oct.word (Oct.join s t) 2 : Nat), .int .u64 (Oct.word (Oct.join s t) 3 : Nat)]) ∧ Below w.heap.size w w' := by
  refine (join_any _ 2 2 [s, t] w rfl (by simp [maxLen]) h.at).mono ?_
  rintro e w' ⟨rfl, hb⟩
  exact ⟨by rw [setV_congr (s := Oct.joins [s, t]) (t := Oct.join s t) (fun b _ => by simp [Oct.joins, Oct.join])]; rfl, hb⟩
theorem not_gen (s : Oct.S) (w : World) : Calls Try.prog 93 #[.agg #[.int .u64 (Oct.word s 0 : Nat), .int .u64 (Oct.word s 1 : Nat), .int .u64 (Oct.word s 2 : Nat), .int .u64 (Oct.word s 3 : Nat)]] w fun e w' => e = .returned (.agg #[.int .u64 (Oct.word (Oct.inv s) 0 : Nat), .int .u64 (Oct.word (Oct.inv s) 1 : Nat), .int .u64 (Oct.word (Oct.inv s) 2 : Nat), .int .u64 (Oct.word (Oct.inv s) 3 : Nat)]) ∧ Below w.heap.size w w' := not_any s w
theorem has_gen (s : Oct.S) (b : Nat) (w : World) (hb : b < 256) : Calls Try.prog 73 #[.agg #[.int .u64 (Oct.word s 0 : Nat), .int .u64 (Oct.word s 1 : Nat), .int .u64 (Oct.word s 2 : Nat), .int .u64 (Oct.word s 3 : Nat)], .int .u8 b] w fun e w' => e = .returned (.bool (s b)) ∧ Below w.heap.size w w' := has_any s b w hb
end Go.Proofs.Ytjmbimgofceanaa

/- Contracts of octets.marks and octets.Class: by walking their bodies, name by name. -/
namespace Go.Proofs.Ytjmbimgofceanaa
open Go.RowKit
attribute [local go_sem ↓] Go.wp_at_zero Go.wp_at_succ

theorem sl4_new (w : World) (s t r q : Oct.S) (g : Nat) (hg : g = w.heap.size) : SL (w.alloc (.cells #[.int .u64 (Oct.word s 0 : Nat), .int .u64 (Oct.word s 1 : Nat), .int .u64 (Oct.word s 2 : Nat), .int .u64 (Oct.word s 3 : Nat), .int .u64 (Oct.word t 0 : Nat), .int .u64 (Oct.word t 1 : Nat), .int .u64 (Oct.word t 2 : Nat), .int .u64 (Oct.word t 3 : Nat), .int .u64 (Oct.word r 0 : Nat), .int .u64 (Oct.word r 1 : Nat), .int .u64 (Oct.word r 2 : Nat), .int .u64 (Oct.word r 3 : Nat), .int .u64 (Oct.word q 0 : Nat), .int .u64 (Oct.word q 1 : Nat), .int .u64 (Oct.word q 2 : Nat), .int .u64 (Oct.word q 3 : Nat)] 27)) g [s, t, r, q] := by
  subst hg
  exact ⟨heap_alloc_new w _⟩
theorem span_gen (f t : Nat) (w : World) (hf : f < 256) (ht : t < 256) : Calls Try.prog 104 #[.int .u8 f, .int .u8 t] w fun e w' => e = .returned (.agg #[.int .u64 (Oct.word (Oct.span f t) 0 : Nat), .int .u64 (Oct.word (Oct.span f t) 1 : Nat), .int .u64 (Oct.word (Oct.span f t) 2 : Nat), .int .u64 (Oct.word (Oct.span f t) 3 : Nat)]) ∧ Below w.heap.size w w' := span_any f t w hf ht
theorem join4_gen {w : World} {g : Nat} {s t r q x : Oct.S} (h : SL w g [s, t, r, q]) (hx : ∀ b, b < 256 → Oct.joins [s, t, r, q] b = x b) : Calls Try.prog 92 #[.slice (some ⟨g, 0, none⟩) 4 4] w fun e w' => e = .returned (.agg #[.int .u64 (Oct.word x 0 : Nat), .int .u64 (Oct.word x 1 : Nat), .int .u64 (Oct.word x 2 : Nat), .int .u64 (Oct.word x 3 : Nat)]) ∧ Below w.heap.size w w' := by
  refine (join_any _ 4 4 [s, t, r, q] w rfl (by simp [maxLen]) h.at).mono ?_
  rintro e w' ⟨rfl, hb⟩
  exact ⟨by rw [setV_congr hx]; rfl, hb⟩

/-! ### the classes -/
def upper : Oct.S := Oct.span 65 90
def lower : Oct.S := Oct.span 97 122
def digit : Oct.S := Oct.span 48 57
def graph : Oct.S := Oct.span 33 126
def print : Oct.S := Oct.span 32 126
def alpha : Oct.S := fun c => upper c || lower c
def alnum : Oct.S := fun c => upper c || lower c || digit c
def xdigit : Oct.S := fun c => digit c || Oct.span 65 70 c || Oct.span 97 102 c
def blank : Oct.S := fun c => c == 9 || c == 32
def space : Oct.S := fun c => Oct.span 9 13 c || c == 32
def cntrl : Oct.S := fun c => decide (c < 32) || c == 127
def punct : Oct.S := fun c => graph c && !(upper c) && !(lower c) && !(digit c)

set_option maxHeartbeats 1000000 in
theorem marks_any (w : World) : Calls Try.prog 106 #[] w fun e w' => e = .returned (.agg #[.int .u64 (Oct.word punct 0 : Nat), .int .u64 (Oct.word punct 1 : Nat), .int .u64 (Oct.word punct 2 : Nat), .int .u64 (Oct.word punct 3 : Nat)]) ∧ Below w.heap.size w w' := by
  have H0 : Hid (SB (w.alloc (.cells #[.int .u64 0, .int .u64 0, .int .u64 0, .int .u64 0] 27)) w.heap.size Oct.none) := sb_zero w
  have HB : Hid (Below w.heap.size w (w.alloc (.cells #[.int .u64 0, .int .u64 0, .int .u64 0, .int .u64 0] 27))) := (Below.refl _ _).alloc (Nat.le_refl _) _
  go_enter Try.func106, Try.ntmps106
  go_wp2_with fail
  refine (span_gen 33 47 _ (by decide) (by decide)).mono ?_
  rintro e w1 ⟨rfl, k1⟩
  have H1 : Hid (SB w1 w.heap.size Oct.none) := H0.out.later k1
  have B1 : Hid (Below w.heap.size w w1) := below_trans HB.out k1 HB.out.size
  clear k1 H0 HB
  go_wp2_with fail
  refine (span_gen 58 64 _ (by decide) (by decide)).mono ?_
  rintro e w2 ⟨rfl, k2⟩
  have H2 : Hid (SB w2 w.heap.size Oct.none) := H1.out.later k2
  have B2 : Hid (Below w.heap.size w w2) := below_trans B1.out k2 B1.out.size
  clear k2 H1 B1
  go_wp2_with fail
  refine (span_gen 91 96 _ (by decide) (by decide)).mono ?_
  rintro e w3 ⟨rfl, k3⟩
  have H3 : Hid (SB w3 w.heap.size Oct.none) := H2.out.later k3
  have B3 : Hid (Below w.heap.size w w3) := below_trans B2.out k3 B2.out.size
  clear k3 H2 B2
  go_wp2_with fail
  refine (span_gen 123 126 _ (by decide) (by decide)).mono ?_
  rintro e w4 ⟨rfl, k4⟩
  have H4 : Hid (SB w4 w.heap.size Oct.none) := H3.out.later k4
  have B4 : Hid (Below w.heap.size w w4) := below_trans B3.out k4 B3.out.size
  clear k4 H3 B3
  go_wp2_with fail
  refine (join4_gen (x := punct) (sl4_new w4 _ _ _ _ _ rfl) ?hx).mono ?_
  case hx =>
    intro b _
    rw [Bool.eq_iff_iff]
    simp [Oct.joins, Oct.span, punct, graph, upper, lower, digit]
    omega
  rintro e w5 ⟨rfl, k5⟩
  have H5 : Hid (SB w5 w.heap.size Oct.none) := (H4.out.later ((Below.refl _ _).alloc (Nat.le_refl _) _)).later k5
  have B5 : Hid (Below w.heap.size w w5) := below_trans (B4.out.alloc B4.out.size _) k5 (by have := B4.out.size; simp; omega)
  clear k5 H4 B4
  obtain ⟨c0, c1, c2, c3⟩ := H5.out.cells
  have f0 := H5.out.frozen 0
  have f1 := H5.out.frozen 1
  have f2 := H5.out.frozen 2
  have f3 := H5.out.frozen 3
  go_wp2
  exact post_set Try.f106 0 rfl rfl rfl (H5.out.put4 punct) ⟨rfl, below_put4 B5.out (Nat.le_refl _) punct⟩

/-! ### the names -/
theorem post_set2 (f : Func) (hf : f.results = #[.cell 2 27, .tmp 3]) {Q : Ending → World → Prop} {a : Act} {w : World} {R : Nat} {s : Oct.S} {x : Value} (hd : a.defers = []) (ha : a.tmps[2]?.getD undef = .pointer (some ⟨R, 0, none⟩)) (hx : a.tmps[3]?.getD undef = x) (hR : SB w R s) (hQ : Q (.returned (.tuple #[setV s, x])) w) : bodyPost Try.prog f Q .ret a w := by
  obtain ⟨c0, c1, c2, c3⟩ := hR.cells
  exact bodyPost_ret (by simp only [results, hf]; simp [ha, hx, go_sem, c0, c1, c2, c3, setV]) hd hQ
theorem St.ret2 {w u : World} {R V : Nat} {s : Oct.S} (h : St w u R V s) (f : Func) (hf : f.results = #[.cell 2 27, .tmp 3]) {a : Act} {x : Value} (hd : a.defers = []) (ha : a.tmps[2]?.getD undef = .pointer (some ⟨R, 0, none⟩)) (hx : a.tmps[3]?.getD undef = x) (hR : w.heap.size ≤ R) (q t : Oct.S) (e : ∀ b, b < 256 → q b = t b) :
    bodyPost Try.prog f (fun e w' => e = .returned (.tuple #[setV t, x]) ∧ Below w.heap.size w w') .ret a (put4 u R q) :=
  post_set2 f hf hd ha hx (h.1.put4 q) ⟨by rw [setV_congr e], below_put4 h.2.2 hR q⟩
theorem wp_cut4 {c : Code} {Q : Exit → Act → World → Prop} {a : Act} {w : World} (d0 d1 d2 d3 : Nat) (J : World → Prop)
    (h1 : c.wp Try.prog (fun x a' w' => x = .normal ∧ (∃ v0 v1 v2 v3, a' = (((a.put (some d0) v0).put (some d1) v1).put (some d2) v2).put (some d3) v3) ∧ J w') a w)
    (h2 : ∀ v0 v1 v2 v3 w', J w' → ∀ a', a' = (((a.put (some d0) v0).put (some d1) v1).put (some d2) v2).put (some d3) v3 → Q .normal a' w') : c.wp Try.prog Q a w :=
  Code.wp_mono (fun e a' w' h => by obtain ⟨rfl, ⟨v0, v1, v2, v3, rfl⟩, hJ⟩ := h; exact h2 v0 v1 v2 v3 w' hJ _ rfl) h1
theorem wp_cut5 {c : Code} {Q : Exit → Act → World → Prop} {a : Act} {w : World} (d0 d1 d2 d3 d4 : Nat) (J : World → Prop)
    (h1 : c.wp Try.prog (fun x a' w' => x = .normal ∧ (∃ v0 v1 v2 v3 v4, a' = ((((a.put (some d0) v0).put (some d1) v1).put (some d2) v2).put (some d3) v3).put (some d4) v4) ∧ J w') a w)
    (h2 : ∀ v0 v1 v2 v3 v4 w', J w' → ∀ a', a' = ((((a.put (some d0) v0).put (some d1) v1).put (some d2) v2).put (some d3) v3).put (some d4) v4 → Q .normal a' w') : c.wp Try.prog Q a w :=
  Code.wp_mono (fun e a' w' h => by obtain ⟨rfl, ⟨v0, v1, v2, v3, v4, rfl⟩, hJ⟩ := h; exact h2 v0 v1 v2 v3 v4 w' hJ _ rfl) h1
theorem of_gen {w : World} {a : Option Addr} (bs : List Nat) (n : Nat) (hn : n = bs.length) (hl : n ≤ 100) (h : BytesAt w a bs) (hb : ∀ b ∈ bs, b < 256) : Calls Try.prog 89 #[.slice a n n] w fun e w' => e = .returned (.agg #[.int .u64 (Oct.word (Oct.has bs) 0 : Nat), .int .u64 (Oct.word (Oct.has bs) 1 : Nat), .int .u64 (Oct.word (Oct.has bs) 2 : Nat), .int .u64 (Oct.word (Oct.has bs) 3 : Nat)]) ∧ Below w.heap.size w w' :=
  of_any a n n bs w hn (by simp [maxLen]; omega) h hb
end Go.Proofs.Ytjmbimgofceanaa

/- A region that draws its order, whose callees make memory but turn none of what was there: one walk in the order of the text serves every order. -/
namespace Go.Proofs.Ytjmbimgofceanaa
open Go.RowKit

/-- a world in which all that w had stands as it stood -/
structure Later (w : World) where
  at_ : World
  below : Below w.heap.size w at_

theorem wp_region_later {P : Program} {id : Nat} {Q : Exit → Act → World → Prop} {a : Act} {w : World} {l : List Oper} (hm : P.follows .mixedOrders = true) (hB : Region.lexB .any l.toArray = true)
    (h : wpQuiet P l.toArray (fun w' => ∃ u : Later w, w' = u.at_) (fun a' => ∀ w', (∃ u : Later w, w' = u.at_) → Q .normal a' w') l a) : (Code.region id l.toArray true).wp P Q a w :=
  wp_region_quiet (C := fun w' => ∃ u : Later w, w' = u.at_) hm hB ⟨⟨w.drew, (Below.refl _ _).drew⟩, rfl⟩ (by simpa using h)
theorem calls_later {P : Program} {f : FuncId} {args : Array Value} {w : World} {u : Later w} {v : Value} (h : Calls P f args u.at_ fun e w' => e = .returned v ∧ Below u.at_.heap.size u.at_ w') :
    Calls P f args u.at_ fun e w'' => e = .returned v ∧ ∃ m : Later w, w'' = m.at_ :=
  h.mono fun _ w' ⟨he, hb⟩ => ⟨he, ⟨w', below_trans u.below hb u.below.size⟩, rfl⟩
theorem calls_later_same {P : Program} {f : FuncId} {args : Array Value} {w : World} {u : Later w} {v : Value} (h : Calls P f args u.at_ fun e w' => e = .returned v ∧ w' = u.at_) :
    Calls P f args u.at_ fun e w'' => e = .returned v ∧ ∃ m : Later w, w'' = m.at_ :=
  h.mono fun _ _ ⟨he, hb⟩ => ⟨he, u, hb⟩
end Go.Proofs.Ytjmbimgofceanaa

/- The library functions that package ere calls (strings.IndexByte, Cut, HasPrefix and what they call), by the shelf, at this program. -/
namespace Go.Proofs
open Go.Shelf
def Try.lays137_ren : Go.Shelf.Ren := ⟨fun | 137 => 26 | 217 => 42 | 266 => 64 | n => n, fun | 9 => 9 | 5 => 5 | 3 => 3 | n => n, fun | n => n⟩
theorem Try.lays137 : Go.Proofs.Lays.n137 Try.prog Try.lays137_ren := {
  mixed := by kernel_rfl
  f137 := Try.func26.trans (congrArg some (by kernel_rfl))
  f217 := Try.func42.trans (congrArg some (by kernel_rfl))
  f266 := Try.func64.trans (congrArg some (by kernel_rfl))
  t3 := Try.underlying3
  a3 := Try.isAgg3
  z3 := Try.sizeOf3
  v3 := Try.zeroValue3
  t5 := Try.underlying5
  a5 := Try.isAgg5
  z5 := Try.sizeOf5
  v5 := Try.zeroValue5
  t9 := Try.underlying9
  a9 := Try.isAgg9
  z9 := Try.sizeOf9
  v9 := Try.zeroValue9 }
open Go.RowKit in
theorem Try.strings_IndexByte (s : ByteArray) (c : Int) (w : World) :
    Calls Try.prog 26 #[.string s, .int .u8 c] w fun e w' => e = .returned (.int .i64 (Lib.indexByte s.data.toList c.toNat.toUInt8)) ∧ w' = w := Any.strings_IndexByte Try.lays137 s c w
open Go.RowKit Go.Lib in
open Go.RowKit Go.Lib in
open Go.RowKit Go.Lib in
open Go.RowKit Go.Lib in
open Go.RowKit Go.Lib in
open Go.RowKit Go.Lib in
open Go.RowKit Go.Lib in
def Try.lays145_ren : Go.Shelf.Ren := ⟨fun | 145 => 102 | 220 => 105 | 219 => 107 | 217 => 42 | 225 => 108 | 224 => 109 | 267 => 110 | 266 => 64 | 314 => 111 | n => n, fun | 9 => 9 | 4 => 4 | 59 => 122 | 3 => 3 | 5 => 5 | 46 => 24 | 146 => 128 | 51 => 44 | n => n, fun | 1 => 0 | n => n⟩
theorem Try.lays145 : Go.Proofs.Lays.n145 Try.prog Try.lays145_ren := {
  mixed := by kernel_rfl
  f145 := Try.func102.trans (congrArg some (by kernel_rfl))
  f217 := Try.func42.trans (congrArg some (by kernel_rfl))
  f219 := Try.func107.trans (congrArg some (by kernel_rfl))
  f220 := Try.func105.trans (congrArg some (by kernel_rfl))
  f224 := Try.func109.trans (congrArg some (by kernel_rfl))
  f225 := Try.func108.trans (congrArg some (by kernel_rfl))
  f266 := Try.func64.trans (congrArg some (by kernel_rfl))
  f267 := Try.func110.trans (congrArg some (by kernel_rfl))
  f314 := Try.func111.trans (congrArg some (by kernel_rfl))
  t3 := Try.underlying3
  a3 := Try.isAgg3
  z3 := Try.sizeOf3
  v3 := Try.zeroValue3
  t4 := Try.underlying4
  a4 := Try.isAgg4
  z4 := Try.sizeOf4
  v4 := Try.zeroValue4
  t5 := Try.underlying5
  a5 := Try.isAgg5
  z5 := Try.sizeOf5
  v5 := Try.zeroValue5
  t9 := Try.underlying9
  a9 := Try.isAgg9
  z9 := Try.sizeOf9
  v9 := Try.zeroValue9
  t46 := Try.underlying24
  a46 := Try.isAgg24
  z46 := Try.sizeOf24
  v46 := Try.zeroValue24
  t51 := Try.underlying44
  a51 := Try.isAgg44
  z51 := Try.sizeOf44
  v51 := Try.zeroValue44
  t59 := Try.underlying122
  a59 := Try.isAgg122
  z59 := Try.sizeOf122
  v59 := Try.zeroValue122
  t146 := Try.underlying128
  a146 := Try.isAgg128
  z146 := Try.sizeOf128
  v146 := Try.zeroValue128
  g1 := by kernel_rfl }
open Go.RowKit Go.Lib in
theorem Try.strings_Cut (s sep : ByteArray) (m : Int) (w : World) (hs : s.size < 4294967281) (hm : w.cell? ⟨0, 0, none⟩ = some (.int .i64 m)) :
    Calls Try.prog 102 #[.string s, .string sep] w fun e w' => e = .returned (.tuple #[.string ⟨(Lib.cut s.data.toList sep.data.toList).1.toArray⟩, .string ⟨(Lib.cut s.data.toList sep.data.toList).2.1.toArray⟩, .bool (Lib.cut s.data.toList sep.data.toList).2.2]) ∧ ∃ n, w' = w.drewN n := Any.strings_Cut Try.lays145 s sep m w hs hm
open Go.RowKit Go.Lib in
open Go.RowKit Go.Lib in
open Go.RowKit Go.Lib in
open Go.RowKit Go.Lib in
def Try.lays99_ren : Go.Shelf.Ren := ⟨fun | 99 => 96 | 206 => 101 | n => n, fun | 9 => 9 | 4 => 4 | 3 => 3 | n => n, fun | n => n⟩
theorem Try.lays99 : Go.Proofs.Lays.n99 Try.prog Try.lays99_ren := {
  mixed := by kernel_rfl
  f99 := Try.func96.trans (congrArg some (by kernel_rfl))
  f206 := Try.func101.trans (congrArg some (by kernel_rfl))
  t3 := Try.underlying3
  a3 := Try.isAgg3
  z3 := Try.sizeOf3
  v3 := Try.zeroValue3
  t4 := Try.underlying4
  a4 := Try.isAgg4
  z4 := Try.sizeOf4
  v4 := Try.zeroValue4
  t9 := Try.underlying9
  a9 := Try.isAgg9
  z9 := Try.sizeOf9
  v9 := Try.zeroValue9 }
open Go.RowKit Go.Lib in
theorem Try.strings_HasPrefix (s p : ByteArray) (w : World) :
    Calls Try.prog 96 #[.string s, .string p] w fun e w' => e = .returned (.bool (Lib.hasPrefix s.data.toList p.data.toList)) ∧ w' = w := Any.strings_HasPrefix Try.lays99 s p w
end Go.Proofs

/- The reader of package ere: its block; ended, sees, giveUp. -/
namespace Go.Proofs.Ytjmbimgofceanaa
open Go.RowKit

/-- THE READER's BLOCK: its text, the byte that is next, the groups that it stands in. -/
def RB (w : World) (B : Nat) (s : ByteArray) (i d : Nat) : Prop := w.heap[B]? = some (.cells #[.string s, .int .i64 (i : Nat), .int .i64 (d : Nat)] 85 (0, 0))
theorem RB.cells {w : World} {B : Nat} {s : ByteArray} {i d : Nat} (h : RB w B s i d) : w.cell? ⟨B, 0, none⟩ = some (.string s) ∧ w.cell? ⟨B, 1, none⟩ = some (.int .i64 (i : Nat)) ∧ w.cell? ⟨B, 2, none⟩ = some (.int .i64 (d : Nat)) := by
  unfold RB at h
  refine ⟨?_, ?_, ?_⟩ <;> simp [World.cell?, h]
theorem RB.frozen {w : World} {B : Nat} {s : ByteArray} {i d : Nat} (h : RB w B s i d) (j : Nat) : w.frozen? ⟨B, j, none⟩ = false := by
  unfold RB at h
  simp [World.frozen?, h]
theorem RB.lt {w : World} {B : Nat} {s : ByteArray} {i d : Nat} (h : RB w B s i d) : B < w.heap.size := (Array.getElem?_eq_some_iff.1 h).1
theorem RB.later {w w' : World} {B : Nat} {s : ByteArray} {i d : Nat} (h : RB w B s i d) (hb : Below w.heap.size w w') : RB w' B s i d := (hb.block B h.lt).trans h
theorem below_drewN (B : Nat) (w : World) (n : Nat) : Below B w (w.drewN n) := ⟨rfl, rfl, rfl, Nat.le_refl _, fun _ _ => rfl⟩

theorem ended_any (B i d : Nat) (s : ByteArray) (w : World) (h : RB w B s i d) : Calls Try.prog 66 #[.pointer (some ⟨B, 0, none⟩)] w fun e w' => e = .returned (.bool (decide (i = s.size))) ∧ Below w.heap.size w w' := by
  obtain ⟨c0, c1, c2⟩ := h.cells
  clear h
  go_enter Try.func66, Try.ntmps66
  go_wp2
  go_quiet (fail)
  go_wp2
  go_ret
  exact ⟨ret_bool (by rw [Bool.eq_iff_iff]; simp; omega), below_drewN _ _ _⟩
/-- the byte at a place -/
def byt (s : ByteArray) (i : Nat) : Nat := if h : i < s.size then s[i].toNat else 0
theorem byt_eq {s : ByteArray} {i : Nat} (h : i < s.size) : byt s i = s[i].toNat := dif_pos h
theorem byt_lt (s : ByteArray) (i : Nat) : byt s i < 256 := by
  unfold byt
  split
  · exact UInt8.toNat_lt _
  · decide
theorem sees_no (B i d : Nat) (b : Int) (s : ByteArray) (w : World) (h : RB w B s i d) (hi : i = s.size) : Calls Try.prog 76 #[.pointer (some ⟨B, 0, none⟩), .int .u8 b] w fun e w' => e = .returned (.bool false) ∧ Below w.heap.size w w' := by
  have HR : Hid (RB w B s i d) := h
  have HI : Hid (decide (i = s.size) = true) := by show _ = _; simp [hi]
  clear h hi
  go_enter Try.func76, Try.ntmps76
  have hne : Nonempty (Later w) := ⟨⟨w, Below.refl _ _⟩⟩
  have HE : Hid (∀ u : Later w, Calls Try.prog 66 #[.pointer (some ⟨B, 0, none⟩)] u.at_ fun e w' => e = .returned (.bool true) ∧ Below u.at_.heap.size u.at_ w') := fun u => (ended_any B i d s _ (HR.out.later u.below)).mono (fun _ _ h => ⟨by rw [h.1, HI.out], h.2⟩)
  go_upto_region 1 with fail
  refine wp_region_later (by kernel_rfl) (by kernel_rfl) ?_
  repeat (first
    | go_big_quiet_step ((go_at_call 66; exact calls_later (HE.out _)))
    | quiet_step ((go_at_call 66; exact calls_later (HE.out _))))
  refine wpQuiet_nil ?_
  intro _ hw'
  obtain ⟨u, hw''⟩ := hw'
  subst hw''
  go_wp2
  go_ret
  exact ⟨rfl, u.below⟩
theorem sees_at (B i d : Nat) (b : Nat) (s : ByteArray) (w : World) (h : RB w B s i d) (hi : i < s.size) : Calls Try.prog 76 #[.pointer (some ⟨B, 0, none⟩), .int .u8 (b : Nat)] w fun e w' => e = .returned (.bool (decide (byt s i = b))) ∧ Below w.heap.size w w' := by
  have HR : Hid (RB w B s i d) := h
  have HI : Hid (decide (i = s.size) = false) := by show _ = _; simp; omega
  have hi' : (i : Int) < (s.size : Int) := by omega
  clear h
  go_enter Try.func76, Try.ntmps76
  have hne : Nonempty (Later w) := ⟨⟨w, Below.refl _ _⟩⟩
  have HE : Hid (∀ u : Later w, Calls Try.prog 66 #[.pointer (some ⟨B, 0, none⟩)] u.at_ fun e w' => e = .returned (.bool false) ∧ Below u.at_.heap.size u.at_ w') := fun u => (ended_any B i d s _ (HR.out.later u.below)).mono (fun _ _ h => ⟨by rw [h.1, HI.out], h.2⟩)
  have c0 : ∀ u : Later w, u.at_.cell? ⟨B, 0, none⟩ = some (.string s) := fun u => (HR.out.later u.below).cells.1
  have c1 : ∀ u : Later w, u.at_.cell? ⟨B, 1, none⟩ = some (.int .i64 (i : Nat)) := fun u => (HR.out.later u.below).cells.2.1
  go_upto_region 1 with fail
  refine wp_region_later (by kernel_rfl) (by kernel_rfl) ?_
  repeat (first
    | go_big_quiet_step ((go_at_call 66; exact calls_later (HE.out _)))
    | quiet_step ((go_at_call 66; exact calls_later (HE.out _))))
  refine wpQuiet_nil ?_
  intro _ hw'
  obtain ⟨u, hw''⟩ := hw'
  subst hw''
  go_wp2
  go_ret
  refine ⟨?_, u.below⟩
  exact ret_bool (by rw [Bool.eq_iff_iff, byt_eq hi]; simp; omega)
/-- what sees tells -/
def sees (s : ByteArray) (i b : Nat) : Bool := decide (i < s.size) && decide (byt s i = b)
theorem sees_any (B i d : Nat) (b : Nat) (s : ByteArray) (w : World) (h : RB w B s i d) (hi : i ≤ s.size) : Calls Try.prog 76 #[.pointer (some ⟨B, 0, none⟩), .int .u8 (b : Nat)] w fun e w' => e = .returned (.bool (sees s i b)) ∧ Below w.heap.size w w' := by
  by_cases e : i = s.size
  · refine (sees_no B i d b s w h e).mono ?_
    rintro _ w' ⟨rfl, hb⟩
    have : ¬ i < s.size := by omega
    exact ⟨by simp [sees, this], hb⟩
  · have hlt : i < s.size := by omega
    refine (sees_at B i d b s w h hlt).mono ?_
    rintro _ w' ⟨rfl, hb⟩
    exact ⟨by simp [sees, hlt], hb⟩
/-- what the reader gives up with -/
def flt (i e : Nat) : Value := .iface 82 (.agg #[.int .i64 (i : Nat), .int .i64 (e : Nat)])
theorem giveUp_any (i e : Nat) (w : World) : Calls Try.prog 67 #[.int .i64 (i : Nat), .int .i64 (e : Nat)] w fun x w' => x = .panicked [{ v := flt i e, recovered := false }] ∧ Below w.heap.size w w' := by
  go_enter Try.func67, Try.ntmps67
  go_wp2
  exact ⟨rfl, rfl, Below.refl _ _⟩
end Go.Proofs.Ytjmbimgofceanaa

/- Contracts of octets.Class at some of its names: by walking its body. -/
namespace Go.Proofs.Ytjmbimgofceanaa
open Go.RowKit
attribute [local go_sem ↓] Go.wp_at_zero Go.wp_at_succ
set_option maxRecDepth 4000 in
set_option maxHeartbeats 2000000 in
theorem class_upper (w : World) : Calls Try.prog 103 #[.string ⟨#[117, 112, 112, 101, 114]⟩] w fun e w' => e = .returned (.tuple #[setV upper, .int .i64 0]) ∧ Below w.heap.size w w' := by
  obtain ⟨u0, hu0⟩ : ∃ u0, u0 = (w.alloc (.cells #[.int .u64 0, .int .u64 0, .int .u64 0, .int .u64 0] 27)).alloc (.cells #[.int .u64 0, .int .u64 0, .int .u64 0, .int .u64 0] 27) := ⟨_, rfl⟩
  have HS : Hid (St w u0 w.heap.size (w.heap.size + 1) (Oct.none)) := by rw [hu0]; exact start2 w
  have HU : Hid (u0 = _) := hu0
  clear hu0
  go_enter Try.func103, Try.ntmps103
  go_upto_region 20 with fail
  rw [← HU.out]
  clear HU
  obtain ⟨⟨c0, c1, c2, c3⟩, ⟨f0, f1, f2, f3⟩, ⟨d0, d1, d2, d3⟩, ⟨g0, g1, g2, g3⟩⟩ := HS.out.facts
  go_wp2_with fail
  refine (span_gen 65 90 _ (by decide) (by decide)).mono ?_
  rintro e v10 ⟨rfl, kk⟩
  have H10 : Hid (St w v10 w.heap.size (w.heap.size + 1) (Oct.none)) := (HS.out).later kk
  clear kk c0 c1 c2 c3 f0 f1 f2 f3 d0 d1 d2 d3 g0 g1 g2 g3
  obtain ⟨⟨c0, c1, c2, c3⟩, ⟨f0, f1, f2, f3⟩, ⟨d0, d1, d2, d3⟩, ⟨g0, g1, g2, g3⟩⟩ := H10.out.facts
  go_upto_region 28 with fail
  obtain ⟨u1, hu1⟩ : ∃ u1, u1 = put4 v10 (w.heap.size + 1) (Oct.span 65 90) := ⟨_, rfl⟩
  have HT : Hid (St w u1 w.heap.size (w.heap.size + 1) (Oct.span 65 90)) := by rw [hu1]; exact H10.out.put (by omega) (by omega) _
  have HE : Hid (u1 = put4 v10 (w.heap.size + 1) (Oct.span 65 90)) := hu1
  unfold put4 at HE
  clear hu1 c0 c1 c2 c3 f0 f1 f2 f3 d0 d1 d2 d3 g0 g1 g2 g3 HS
  rw [← HE.out]
  clear HE
  have HS : Hid (St w u1 w.heap.size (w.heap.size + 1) (Oct.span 65 90)) := HT
  clear HT
  obtain ⟨⟨c0, c1, c2, c3⟩, ⟨f0, f1, f2, f3⟩, ⟨d0, d1, d2, d3⟩, ⟨g0, g1, g2, g3⟩⟩ := HS.out.facts
  go_wp2
  exact HS.out.ret2 Try.f103 rfl rfl rfl rfl (Nat.le_refl _) _ upper (fun b hb => by
    rw [Bool.eq_iff_iff]
    try simp [Oct.span, upper]
    try omega)
set_option maxRecDepth 4000 in
set_option maxHeartbeats 2000000 in
theorem class_lower (w : World) : Calls Try.prog 103 #[.string ⟨#[108, 111, 119, 101, 114]⟩] w fun e w' => e = .returned (.tuple #[setV lower, .int .i64 0]) ∧ Below w.heap.size w w' := by
  obtain ⟨u0, hu0⟩ : ∃ u0, u0 = (w.alloc (.cells #[.int .u64 0, .int .u64 0, .int .u64 0, .int .u64 0] 27)).alloc (.cells #[.int .u64 0, .int .u64 0, .int .u64 0, .int .u64 0] 27) := ⟨_, rfl⟩
  have HS : Hid (St w u0 w.heap.size (w.heap.size + 1) (Oct.none)) := by rw [hu0]; exact start2 w
  have HU : Hid (u0 = _) := hu0
  clear hu0
  go_enter Try.func103, Try.ntmps103
  go_upto_region 19 with fail
  rw [← HU.out]
  clear HU
  refine wp_cut4 44 45 46 47 (fun wx => Hid (St w wx w.heap.size (w.heap.size + 1) (Oct.join (Oct.none) (Oct.span 97 122)))) ?first1 ?rest1
  case first1 =>
    obtain ⟨⟨c0, c1, c2, c3⟩, ⟨f0, f1, f2, f3⟩, ⟨d0, d1, d2, d3⟩, ⟨g0, g1, g2, g3⟩⟩ := HS.out.facts
    have a0 : ∀ o : Obj, (u0.alloc o).cell? ⟨w.heap.size + 1, 0, none⟩ = some (.int .u64 (Oct.word (Oct.none) 0 : Nat)) := fun o => (HS.out.later ((Below.refl _ _).alloc (Nat.le_refl _) _)).facts.1.1
    have a1 : ∀ o : Obj, (u0.alloc o).cell? ⟨w.heap.size + 1, 1, none⟩ = some (.int .u64 (Oct.word (Oct.none) 1 : Nat)) := fun o => (HS.out.later ((Below.refl _ _).alloc (Nat.le_refl _) _)).facts.1.2.1
    have a2 : ∀ o : Obj, (u0.alloc o).cell? ⟨w.heap.size + 1, 2, none⟩ = some (.int .u64 (Oct.word (Oct.none) 2 : Nat)) := fun o => (HS.out.later ((Below.refl _ _).alloc (Nat.le_refl _) _)).facts.1.2.2.1
    have a3 : ∀ o : Obj, (u0.alloc o).cell? ⟨w.heap.size + 1, 3, none⟩ = some (.int .u64 (Oct.word (Oct.none) 3 : Nat)) := fun o => (HS.out.later ((Below.refl _ _).alloc (Nat.le_refl _) _)).facts.1.2.2.2
    go_region_with (first
      | (go_at_call 104; refine (span_gen 97 122 _ (by decide) (by decide)).mono ?_; rintro e wn ⟨rfl, kn⟩; have Hn : Hid (St w wn w.heap.size (w.heap.size + 1) (Oct.none)) := (by first | exact (HS.out.later (Below.refl _ _).drew).later kn | exact (HS.out.later (((Below.refl _ _).alloc (Nat.le_refl _) _).drew)).later kn); clear c0 c1 c2 c3 f0 f1 f2 f3 d0 d1 d2 d3 g0 g1 g2 g3; obtain ⟨⟨c0, c1, c2, c3⟩, ⟨f0, f1, f2, f3⟩, ⟨d0, d1, d2, d3⟩, ⟨g0, g1, g2, g3⟩⟩ := Hn.out.facts; clear kn)
      | (go_at_call 92; refine (join2_gen (sl2_new _ _ _ _ rfl)).mono ?_; rintro e wm ⟨rfl, km⟩; have Hm : Hid (St w wm w.heap.size (w.heap.size + 1) (Oct.none)) := (Hn.out.later ((Below.refl _ _).alloc (Nat.le_refl _) _)).later km; clear c0 c1 c2 c3 f0 f1 f2 f3 d0 d1 d2 d3 g0 g1 g2 g3; obtain ⟨⟨c0, c1, c2, c3⟩, ⟨f0, f1, f2, f3⟩, ⟨d0, d1, d2, d3⟩, ⟨g0, g1, g2, g3⟩⟩ := Hm.out.facts; clear km))
    all_goals
      exact ⟨rfl, ⟨_, _, _, _, rfl⟩, Hm.out.put (by omega) (by omega) (Oct.join (Oct.none) (Oct.span 97 122))⟩
  case rest1 =>
  intro x10 x11 x12 x13 u1 hcut a' ha'
  simp [Act.put] at ha'
  subst ha'
  clear HS
  have HS : Hid (St w u1 w.heap.size (w.heap.size + 1) (Oct.join (Oct.none) (Oct.span 97 122))) := hcut
  clear hcut
  obtain ⟨⟨c0, c1, c2, c3⟩, ⟨f0, f1, f2, f3⟩, ⟨d0, d1, d2, d3⟩, ⟨g0, g1, g2, g3⟩⟩ := HS.out.facts
  go_wp2
  exact HS.out.ret2 Try.f103 rfl rfl rfl rfl (Nat.le_refl _) _ lower (fun b hb => by
    rw [Bool.eq_iff_iff]
    try simp [Oct.join, Oct.none, Oct.span, lower]
    try omega)
set_option maxRecDepth 4000 in
set_option maxHeartbeats 2000000 in
theorem class_alpha (w : World) : Calls Try.prog 103 #[.string ⟨#[97, 108, 112, 104, 97]⟩] w fun e w' => e = .returned (.tuple #[setV alpha, .int .i64 0]) ∧ Below w.heap.size w w' := by
  obtain ⟨u0, hu0⟩ : ∃ u0, u0 = (w.alloc (.cells #[.int .u64 0, .int .u64 0, .int .u64 0, .int .u64 0] 27)).alloc (.cells #[.int .u64 0, .int .u64 0, .int .u64 0, .int .u64 0] 27) := ⟨_, rfl⟩
  have HS : Hid (St w u0 w.heap.size (w.heap.size + 1) (Oct.none)) := by rw [hu0]; exact start2 w
  have HU : Hid (u0 = _) := hu0
  clear hu0
  go_enter Try.func103, Try.ntmps103
  go_upto_region 18 with fail
  rw [← HU.out]
  clear HU
  refine wp_cut4 40 41 42 43 (fun wx => Hid (St w wx w.heap.size (w.heap.size + 1) (Oct.join (Oct.none) (Oct.span 65 90)))) ?first1 ?rest1
  case first1 =>
    obtain ⟨⟨c0, c1, c2, c3⟩, ⟨f0, f1, f2, f3⟩, ⟨d0, d1, d2, d3⟩, ⟨g0, g1, g2, g3⟩⟩ := HS.out.facts
    have a0 : ∀ o : Obj, (u0.alloc o).cell? ⟨w.heap.size + 1, 0, none⟩ = some (.int .u64 (Oct.word (Oct.none) 0 : Nat)) := fun o => (HS.out.later ((Below.refl _ _).alloc (Nat.le_refl _) _)).facts.1.1
    have a1 : ∀ o : Obj, (u0.alloc o).cell? ⟨w.heap.size + 1, 1, none⟩ = some (.int .u64 (Oct.word (Oct.none) 1 : Nat)) := fun o => (HS.out.later ((Below.refl _ _).alloc (Nat.le_refl _) _)).facts.1.2.1
    have a2 : ∀ o : Obj, (u0.alloc o).cell? ⟨w.heap.size + 1, 2, none⟩ = some (.int .u64 (Oct.word (Oct.none) 2 : Nat)) := fun o => (HS.out.later ((Below.refl _ _).alloc (Nat.le_refl _) _)).facts.1.2.2.1
    have a3 : ∀ o : Obj, (u0.alloc o).cell? ⟨w.heap.size + 1, 3, none⟩ = some (.int .u64 (Oct.word (Oct.none) 3 : Nat)) := fun o => (HS.out.later ((Below.refl _ _).alloc (Nat.le_refl _) _)).facts.1.2.2.2
    go_region_with (first
      | (go_at_call 104; refine (span_gen 65 90 _ (by decide) (by decide)).mono ?_; rintro e wn ⟨rfl, kn⟩; have Hn : Hid (St w wn w.heap.size (w.heap.size + 1) (Oct.none)) := (by first | exact (HS.out.later (Below.refl _ _).drew).later kn | exact (HS.out.later (((Below.refl _ _).alloc (Nat.le_refl _) _).drew)).later kn); clear c0 c1 c2 c3 f0 f1 f2 f3 d0 d1 d2 d3 g0 g1 g2 g3; obtain ⟨⟨c0, c1, c2, c3⟩, ⟨f0, f1, f2, f3⟩, ⟨d0, d1, d2, d3⟩, ⟨g0, g1, g2, g3⟩⟩ := Hn.out.facts; clear kn)
      | (go_at_call 92; refine (join2_gen (sl2_new _ _ _ _ rfl)).mono ?_; rintro e wm ⟨rfl, km⟩; have Hm : Hid (St w wm w.heap.size (w.heap.size + 1) (Oct.none)) := (Hn.out.later ((Below.refl _ _).alloc (Nat.le_refl _) _)).later km; clear c0 c1 c2 c3 f0 f1 f2 f3 d0 d1 d2 d3 g0 g1 g2 g3; obtain ⟨⟨c0, c1, c2, c3⟩, ⟨f0, f1, f2, f3⟩, ⟨d0, d1, d2, d3⟩, ⟨g0, g1, g2, g3⟩⟩ := Hm.out.facts; clear km))
    all_goals
      exact ⟨rfl, ⟨_, _, _, _, rfl⟩, Hm.out.put (by omega) (by omega) (Oct.join (Oct.none) (Oct.span 65 90))⟩
  case rest1 =>
  intro x10 x11 x12 x13 u1 hcut a' ha'
  simp [Act.put] at ha'
  subst ha'
  clear HS
  have HS : Hid (St w u1 w.heap.size (w.heap.size + 1) (Oct.join (Oct.none) (Oct.span 65 90))) := hcut
  clear hcut
  go_upto_region 19 with fail
  refine wp_cut4 44 45 46 47 (fun wx => Hid (St w wx w.heap.size (w.heap.size + 1) (Oct.join (Oct.join (Oct.none) (Oct.span 65 90)) (Oct.span 97 122)))) ?first2 ?rest2
  case first2 =>
    obtain ⟨⟨c0, c1, c2, c3⟩, ⟨f0, f1, f2, f3⟩, ⟨d0, d1, d2, d3⟩, ⟨g0, g1, g2, g3⟩⟩ := HS.out.facts
    have a0 : ∀ o : Obj, (u1.alloc o).cell? ⟨w.heap.size + 1, 0, none⟩ = some (.int .u64 (Oct.word (Oct.join (Oct.none) (Oct.span 65 90)) 0 : Nat)) := fun o => (HS.out.later ((Below.refl _ _).alloc (Nat.le_refl _) _)).facts.1.1
    have a1 : ∀ o : Obj, (u1.alloc o).cell? ⟨w.heap.size + 1, 1, none⟩ = some (.int .u64 (Oct.word (Oct.join (Oct.none) (Oct.span 65 90)) 1 : Nat)) := fun o => (HS.out.later ((Below.refl _ _).alloc (Nat.le_refl _) _)).facts.1.2.1
    have a2 : ∀ o : Obj, (u1.alloc o).cell? ⟨w.heap.size + 1, 2, none⟩ = some (.int .u64 (Oct.word (Oct.join (Oct.none) (Oct.span 65 90)) 2 : Nat)) := fun o => (HS.out.later ((Below.refl _ _).alloc (Nat.le_refl _) _)).facts.1.2.2.1
    have a3 : ∀ o : Obj, (u1.alloc o).cell? ⟨w.heap.size + 1, 3, none⟩ = some (.int .u64 (Oct.word (Oct.join (Oct.none) (Oct.span 65 90)) 3 : Nat)) := fun o => (HS.out.later ((Below.refl _ _).alloc (Nat.le_refl _) _)).facts.1.2.2.2
    go_region_with (first
      | (go_at_call 104; refine (span_gen 97 122 _ (by decide) (by decide)).mono ?_; rintro e wn ⟨rfl, kn⟩; have Hn : Hid (St w wn w.heap.size (w.heap.size + 1) (Oct.join (Oct.none) (Oct.span 65 90))) := (by first | exact (HS.out.later (Below.refl _ _).drew).later kn | exact (HS.out.later (((Below.refl _ _).alloc (Nat.le_refl _) _).drew)).later kn); clear c0 c1 c2 c3 f0 f1 f2 f3 d0 d1 d2 d3 g0 g1 g2 g3; obtain ⟨⟨c0, c1, c2, c3⟩, ⟨f0, f1, f2, f3⟩, ⟨d0, d1, d2, d3⟩, ⟨g0, g1, g2, g3⟩⟩ := Hn.out.facts; clear kn)
      | (go_at_call 92; refine (join2_gen (sl2_new _ _ _ _ rfl)).mono ?_; rintro e wm ⟨rfl, km⟩; have Hm : Hid (St w wm w.heap.size (w.heap.size + 1) (Oct.join (Oct.none) (Oct.span 65 90))) := (Hn.out.later ((Below.refl _ _).alloc (Nat.le_refl _) _)).later km; clear c0 c1 c2 c3 f0 f1 f2 f3 d0 d1 d2 d3 g0 g1 g2 g3; obtain ⟨⟨c0, c1, c2, c3⟩, ⟨f0, f1, f2, f3⟩, ⟨d0, d1, d2, d3⟩, ⟨g0, g1, g2, g3⟩⟩ := Hm.out.facts; clear km))
    all_goals
      exact ⟨rfl, ⟨_, _, _, _, rfl⟩, Hm.out.put (by omega) (by omega) (Oct.join (Oct.join (Oct.none) (Oct.span 65 90)) (Oct.span 97 122))⟩
  case rest2 =>
  intro x20 x21 x22 x23 u2 hcut a' ha'
  simp [Act.put] at ha'
  subst ha'
  clear HS
  have HS : Hid (St w u2 w.heap.size (w.heap.size + 1) (Oct.join (Oct.join (Oct.none) (Oct.span 65 90)) (Oct.span 97 122))) := hcut
  clear hcut
  obtain ⟨⟨c0, c1, c2, c3⟩, ⟨f0, f1, f2, f3⟩, ⟨d0, d1, d2, d3⟩, ⟨g0, g1, g2, g3⟩⟩ := HS.out.facts
  go_wp2
  exact HS.out.ret2 Try.f103 rfl rfl rfl rfl (Nat.le_refl _) _ alpha (fun b hb => by
    rw [Bool.eq_iff_iff]
    try simp [Oct.join, Oct.none, Oct.span, alpha, upper, lower]
    try omega)
end Go.Proofs.Ytjmbimgofceanaa

