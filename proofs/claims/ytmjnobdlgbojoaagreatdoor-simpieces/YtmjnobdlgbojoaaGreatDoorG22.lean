
import Derived.Test.YtmjnobdlgbojoaaGreatDoorG21
import Derived.Maps.OwnRows
import Derived.Maps.OwnSet
import Derived.Maps.Views
namespace Go.Proofs.YtmjnobdlgbojoaaGreatDoor
open Go.RowKit Go.Shelf
attribute [local go_sem] Oper.semAt_some
def orL (rs l : List Nat) : Nat := l.foldl (fun r s => r ||| (rs[s]?).getD 0) 0
theorem orL_snoc (rs l : List Nat) (s : Nat) : orL rs (l ++ [s]) = orL rs l ||| (rs[s]?).getD 0 := by unfold orL; rw [List.foldl_append]; rfl
theorem orL_bit (rs l : List Nat) (k : Nat) : (orL rs l).testBit k = l.any (fun s => ((rs[s]?).getD 0).testBit k) := by
  have h : ∀ (l : List Nat) (r : Nat), (l.foldl (fun r s => r ||| (rs[s]?).getD 0) r).testBit k = (r.testBit k || l.any (fun s => ((rs[s]?).getD 0).testBit k)) := by
    intro l
    induction l with
    | nil => intro r; simp
    | cons x l ih => intro r; rw [List.foldl_cons, ih, Nat.testBit_or, List.any_cons, Bool.or_assoc]
  have := h l 0
  simpa [orL] using this
theorem orL_lt {rs l : List Nat} (h : ∀ x ∈ rs, x < 4294967296) : orL rs l < 4294967296 := by
  have h2 : ∀ (l : List Nat) (r : Nat), r < 4294967296 → l.foldl (fun r s => r ||| (rs[s]?).getD 0) r < 4294967296 := by
    intro l
    induction l with
    | nil => intro r hr; exact hr
    | cons x l ih =>
      intro r hr
      refine ih _ (or_lt32 hr ?_)
      cases hx : rs[x]? with
      | none => simp
      | some y => simpa using h y (List.mem_of_getElem? hx)
  exact h2 l 0 (by decide)
theorem own_ne {W : World} {B : Nat} {t : TypeId} {v : Value} {row : Option Nat} (h : Boxed W B t v) (hr : ∀ r, row = some r → ∃ o : Obj, W.heap[r]? = some o ∧ o.isCells = false) : some B ≠ row := by
  intro e
  obtain ⟨o, ho, hc⟩ := hr B e.symm
  rw [show W.heap[B]? = _ from h] at ho
  cases ho
  simp [Obj.isCells] at hc
set_option maxRecDepth 100000 in
set_option maxHeartbeats 4000000 in
theorem rulesOf_any {X : Nat → Prop} (Wb b n c base rn rc : Nat) (ra : Option Addr) (rs : List Nat) (g : Oct.S) (w : World) (hW : w.cell? ⟨Wb, 1, none⟩ = some (.slice ra rn rc)) (hrn : rs.length = rn) (hU : UAt X w ra rs) (h32 : ∀ x ∈ rs, x < 4294967296) (hR : RowG w base b n c g) (hT : Tab w) (hn : n ≤ 2513169434900) (hg : ∀ s, g s = true → s < rn) :
    Calls Tryz.prog 37 #[.pointer (some ⟨Wb, 0, none⟩), .slice (some ⟨b, 0, none⟩) n c] w fun e W' => e = .returned (.int .u32 (orL rs (Oct.els g (64 * n)) : Nat)) ∧ Below w.heap.size w W' := by
  have hlt := hR.lt.1
  have hpos := hT.pos
  have HW : Hid (w.cell? ⟨Wb, 1, none⟩ = some (.slice ra rn rc)) := hW
  have HRN : Hid (rs.length = rn) := hrn
  have HU : Hid (UAt X w ra rs) := hU
  have H32 : Hid (∀ x ∈ rs, x < 4294967296) := h32
  have HG : Hid (∀ s, g s = true → s < rn) := hg
  obtain ⟨w1, hw1⟩ : ∃ w1, (w.alloc (.cells #[.pointer (some ⟨Wb, 0, none⟩)] 48)).alloc (.cells #[.int .u32 0] 44) = w1 := ⟨_, rfl⟩
  have hz1 : w1.heap.size = w.heap.size + 1 + 1 := by rw [← hw1]; simp
  have k1 : Below w.heap.size w w1 := by rw [← hw1]; exact ((Below.refl _ w).alloc (Nat.le_refl _) _).alloc (by simp) _
  have b0 : Boxed w1 w.heap.size 48 (.pointer (some ⟨Wb, 0, none⟩)) := by rw [← hw1]; exact (Boxed.new w _ _).alloc _
  have b1 : Boxed w1 (w.heap.size + 1) 44 (.int .u32 0) := by
    rw [← hw1]
    have h := Boxed.new (w.alloc (.cells #[.pointer (some ⟨Wb, 0, none⟩)] 48)) 44 (.int .u32 0)
    rw [World.size_alloc] at h
    exact h
  have kk : Below w1.heap.size w1 (w1.alloc (.cells #[.slice (some ⟨b, 0, none⟩) n c] 74)) := (Below.refl _ _).alloc (Nat.le_refl _) _
  have k2 : Below w.heap.size w (w1.alloc (.cells #[.slice (some ⟨b, 0, none⟩) n c] 74)) := k1.trans (kk.mono (by omega))
  have hA := (Boxed.new w1 74 (.slice (some ⟨b, 0, none⟩) n c)).cell
  have HST : Hid (SeqStopsK Fence.wide (4 - 1) Tryz.prog 56 #[.pointer (some ⟨w1.heap.size, 0, none⟩)] (encg g) (Below w.heap.size) (fun xs => valsOf xs = Oct.els g (64 * n)) (fun _ => True) (64 * n) (w1.alloc (.cells #[.slice (some ⟨b, 0, none⟩) n c] 74))) :=
    on_stops (4 - 1) (by omega) w1.heap.size b n c base w.heap.size g _ hlt hpos hn hA (hR.later k2) (hT.later k2) (64 * n) (Oct.els_length _ _)
  have HW1 : Hid ((w.alloc (.cells #[.pointer (some ⟨Wb, 0, none⟩)] 48)).alloc (.cells #[.int .u32 0] 44) = w1) := hw1
  have H0 : Hid ((Boxed (w1.alloc (.cells #[.slice (some ⟨b, 0, none⟩) n c] 74)) w.heap.size 48 (.pointer (some ⟨Wb, 0, none⟩)) ∧ Boxed (w1.alloc (.cells #[.slice (some ⟨b, 0, none⟩) n c] 74)) (w.heap.size + 1) 44 (.int .u32 0)) ∧ Below w.heap.size w (w1.alloc (.cells #[.slice (some ⟨b, 0, none⟩) n c] 74))) := ⟨⟨b0.alloc _, b1.alloc _⟩, k2⟩
  have hz2 : (w1.alloc (.cells #[.slice (some ⟨b, 0, none⟩) n c] 74)).heap.size = w.heap.size + 3 := by simp [hz1]
  clear hW hrn hU h32 hR hT hg hw1 k1 b0 b1 kk k2 hA
  refine (callsIn_wide (n := 4)).1 ?_
  refine callsIn_of_wp_marks Tryz.func37 rfl trivial ?_ rfl
  simp only [Tryz.ntmps37, List.size_toArray, List.length_cons, List.length_nil, Nat.reduceAdd, Nat.reduceSub, Array.replicate_succ, Array.replicate_zero, List.push_toArray, List.append_toArray, List.nil_append, List.cons_append]
  gi_wp2
  refine ⟨trivial, ?_⟩
  rw [HW1.out]
  refine (callsIn_wide.2 (on_any b n c w1)).mono ?_
  rintro e w2 ⟨rfl, rfl⟩
  clear HW1
  obtain ⟨A, hA⟩ : ∃ A, w1.heap.size = A := ⟨_, rfl⟩
  rw [hA] at HST ⊢
  have hAz : A = w.heap.size + 2 := by rw [← hA]; omega
  have HAZ : Hid (A = w.heap.size + 2) := hAz
  clear hA hAz
  obtain ⟨w2, hw2⟩ : ∃ w2, w1.alloc (.cells #[.slice (some ⟨b, 0, none⟩) n c] 74) = w2 := ⟨_, rfl⟩
  rw [hw2] at HST H0 hz2 ⊢
  clear hw2 hz1
  gi_wp2
  refine wpIn_rangeFunc_ownG rfl (by omega) (gf := 56) (lb := #[.pointer (some ⟨A, 0, none⟩)]) rfl trivial (enters_of Tryz.func56 (by kernel_rfl) rfl)
    HST.out belowK_t (belowK_b (by omega)) (Below.refl _ _) (fun _ => rfl)
    (fun pre W => (Boxed W w.heap.size 48 (.pointer (some ⟨Wb, 0, none⟩)) ∧ Boxed W (w.heap.size + 1) 44 (.int .u32 (orL rs (valsOf pre) : Nat))) ∧ Below w.heap.size w W)
    (fun _ _ _ => False)
    (OwnFrom.and (Own.from (fun s A B row hs hg hr => ⟨hs.1.kept hg (own_ne hs.1 hr), hs.2.kept hg (own_ne hs.2 hr)⟩) _) (ownFrom_below (Nat.le_refl _) (by omega)))
    (fun _ _ _ _ _ hs _ _ => hs)
    H0.out
    (fun x => { tmps := #[.pointer (some ⟨Wb, 0, none⟩), .slice (some ⟨b, 0, none⟩) n c, .pointer (some ⟨w.heap.size, 0, none⟩), undef, .int .u32 0, .pointer (some ⟨w.heap.size + 1, 0, none⟩), .int .i64 (x.val : Nat), .slice (some ⟨b, 0, none⟩) n c, .func (.func 56) #[] #[.pointer (some ⟨A, 0, none⟩)], .int .i64 (x.val : Nat), undef, undef, undef, undef, undef, undef, undef, undef, undef, undef], defers := [] }) ?assign ?body ?done ?stop
  case assign =>
    intro l x W K hK
    gi_wp2
    exact hK
  case body =>
    rintro l pre x W ⟨⟨b0, b1⟩, hB⟩ hlt
    obtain ⟨s, hs⟩ := x
    have hsn := HG.out s hs
    have hsn' : (s : Int) < (rn : Int) := by omega
    obtain ⟨y, hy⟩ : ∃ y, rs[s]? = some y := ⟨_, List.getElem?_eq_getElem (by rw [HRN.out]; exact hsn)⟩
    have hyl := H32.out y (List.mem_of_getElem? hy)
    obtain ⟨rb, off, rfl, cy⟩ := (HU.out.keep (Y := X) (w' := W) (fun _ h _ => h) (fun b _ hl => hB.block b hl)).nth hy
    have cw := (hB.cell (p := ⟨Wb, 1, none⟩) (lt_of_cell HW.out)).trans HW.out
    have HSN : Hid (orL rs (valsOf (pre ++ [⟨s, hs⟩])) = orL rs (valsOf pre) ||| y) := by
      show _ = _
      rw [valsOf_snoc, orL_snoc, hy]
      rfl
    obtain ⟨r, hr⟩ : ∃ r, orL rs (valsOf pre) = r := ⟨_, rfl⟩
    have hrl : r < 4294967296 := by rw [← hr]; exact orL_lt H32.out
    rw [hr] at b1 HSN
    have HOR : Hid (bits .or .u32 (r : Nat) (y : Nat) = ((r ||| y : Nat) : Int)) := u32_or_nat r y hrl hyl
    have c0 := b0.cell
    have c1 := b1.cell
    have f1 := b1.frozen
    have HB0 : Hid (Boxed W w.heap.size 48 (.pointer (some ⟨Wb, 0, none⟩))) := b0
    have HB1 : Hid (Boxed W (w.heap.size + 1) 44 (.int .u32 (r : Nat))) := b1
    have HBB : Hid (Below w.heap.size w W) := hB
    have HEND : Hid (∀ v : Int, v = ((r ||| y : Nat) : Int) → KeepsFrom w2.heap.size W (W.setCell ⟨w.heap.size + 1, 0, none⟩ (.int .u32 v)).drew ∧ Below w.heap.size W (W.setCell ⟨w.heap.size + 1, 0, none⟩ (.int .u32 v)).drew ∧ (Boxed (W.setCell ⟨w.heap.size + 1, 0, none⟩ (.int .u32 v)).drew w.heap.size 48 (.pointer (some ⟨Wb, 0, none⟩)) ∧ Boxed (W.setCell ⟨w.heap.size + 1, 0, none⟩ (.int .u32 v)).drew (w.heap.size + 1) 44 (.int .u32 (orL rs (valsOf (pre ++ [⟨s, hs⟩])) : Nat))) ∧ Below w.heap.size w (W.setCell ⟨w.heap.size + 1, 0, none⟩ (.int .u32 v)).drew) := fun v hv => by
      subst hv
      refine ⟨((KeepsOthers.setCell _ _ _).trans (KeepsOthers.drew _)).from _, ((Below.refl _ W).setCell (p := ⟨w.heap.size + 1, 0, none⟩) (by simp) _).drew, ⟨HB0.out.other (by omega) _, ?_⟩, (HBB.out.setCell (p := ⟨w.heap.size + 1, 0, none⟩) (by simp) _).drew⟩
      rw [HSN.out]
      exact HB1.out.set _
    clear hr hy b0 b1 hB
    gi_wp2
    gi_region
    all_goals
      gi_wp2
      exact HEND.out _ HOR.out
  case done =>
    rintro D ys W hD hys ⟨⟨b0, b1⟩, hB⟩ hK
    rw [hys] at b1
    clear hys
    have c1 := b1.cell
    gi_wp2
    refine ⟨by simp, .inl ⟨_, _, rfl, run_takeDeferred hK, ?_⟩⟩
    exact ⟨_, results_tmp rfl _ _ _, rfl, hB.trans (belowK_b (w := w) (Nat.le_refl _) W D _ _ (by omega) hK rfl rfl)⟩
  case stop =>
    rintro D c pre W _ _ h _
    exact h.elim
end Go.Proofs.YtmjnobdlgbojoaaGreatDoor


namespace Go.Proofs.YtmjnobdlgbojoaaGreatDoor
inductive Rch (es : List Eg) (p : Eg → Bool) (f : Oct.S) : Nat → Prop
  | base (s : Nat) : f s = true → Rch es p f s
  | step (y : Eg) : y ∈ es → p y = true → Rch es p f y.f.toNat → Rch es p f y.t.toNat
def IsCl (es : List Eg) (p : Eg → Bool) (f g : Oct.S) : Prop := ∀ s, g s = true ↔ Rch es p f s
theorem IsCl.uniq {es : List Eg} {p : Eg → Bool} {f g h : Oct.S} (h1 : IsCl es p f g) (h2 : IsCl es p f h) : g = h := by
  funext s
  rw [Bool.eq_iff_iff, h1 s, h2 s]
theorem Rch.mono {es : List Eg} {p q : Eg → Bool} {f g : Oct.S} (hf : ∀ s, f s = true → Rch es q g s) (hp : ∀ y, y ∈ es → p y = true → q y = true) {s : Nat} (h : Rch es p f s) : Rch es q g s := by
  induction h with
  | base s h => exact hf s h
  | step y h1 h2 _ ih => exact .step y h1 (hp y h1 h2) ih
theorem IsCl.again {es : List Eg} {p q : Eg → Bool} {f g h : Oct.S} (h1 : IsCl es p f g) (hpq : ∀ y, p y = true → q y = true) : IsCl es q g h ↔ IsCl es q f h := by
  have e : ∀ s, Rch es q g s ↔ Rch es q f s := fun s => ⟨fun hs => hs.mono (fun t ht => ((h1 t).1 ht).mono (fun u hu => .base u hu) (fun y _ => hpq y)) (fun _ _ h => h), fun hs => hs.mono (fun t ht => .base t ((h1 t).2 (.base t ht))) (fun _ _ h => h)⟩
  exact ⟨fun h2 s => (h2 s).trans (e s), fun h2 s => (h2 s).trans (e s).symm⟩
theorem Rch.lt {es : List Eg} {p : Eg → Bool} {f : Oct.S} {S : Nat} (hf : ∀ s, f s = true → s < S) (he : ∀ y ∈ es, y.t < (S : Int) ∧ 0 ≤ y.t) {s : Nat} (h : Rch es p f s) : s < S := by
  induction h with
  | base s h => exact hf s h
  | step y h1 _ _ _ => have := he y h1; omega
theorem IsCl.lt {es : List Eg} {p : Eg → Bool} {f g : Oct.S} {S : Nat} (h : IsCl es p f g) (hf : ∀ s, f s = true → s < S) (he : ∀ y ∈ es, y.t < (S : Int) ∧ 0 ≤ y.t) {s : Nat} (hs : g s = true) : s < S := ((h s).1 hs).lt hf he
def kmov (b e : Bool) (y : Eg) : Bool := decide (y.k = 1) || (decide (y.k = 3) && b) || (decide (y.k = 4) && e)
def zeroS : Oct.S := fun s => decide (s = 0)
def nextS (es : List Eg) (b : Nat) (g : Oct.S) : Oct.S := fun s => decide (s = 0) || es.any fun y => decide (y.k = 2) && g y.f.toNat && y.s b && decide (y.t.toNat = s)
def rulesG (rs : List Nat) (g : Oct.S) : Nat := orL rs (Oct.els g rs.length)
inductive Mom (M : Ma) : List Nat → Oct.S → Nat → Prop
  | beg (g : Oct.S) : IsCl M.es (kmov true false) zeroS g → Mom M [] g (rulesG M.rs g)
  | byte (l : List Nat) (g : Oct.S) (r b : Nat) (g2 : Oct.S) : Mom M l g r → IsCl M.es (kmov false false) (nextS M.es b g) g2 → Mom M (l ++ [b]) g2 (r ||| rulesG M.rs g2)
def EndOf (M : Ma) (first : Bool) (g : Oct.S) (r x : Nat) : Prop := ∃ h, IsCl M.es (kmov first true) g h ∧ x = r ||| rulesG M.rs h
theorem EndOf.uniq {M : Ma} {b : Bool} {g : Oct.S} {r x y : Nat} (h1 : EndOf M b g r x) (h2 : EndOf M b g r y) : x = y := by
  obtain ⟨h, a1, a2⟩ := h1
  obtain ⟨h', b1, b2⟩ := h2
  rw [a2, b2, a1.uniq b1]
theorem Mom.uniq {M : Ma} {l : List Nat} {g : Oct.S} {r : Nat} (h1 : Mom M l g r) : ∀ {g2 : Oct.S} {r2 : Nat}, Mom M l g2 r2 → g = g2 ∧ r = r2 := by
  induction h1 with
  | beg g h =>
    intro g2 r2 h2
    generalize hl : ([] : List Nat) = l at h2
    cases h2 with
    | beg _ h' => have := h.uniq h'; subst this; exact ⟨rfl, rfl⟩
    | byte l' g' r' b' _ _ _ => simp at hl
  | byte l g r b g3 hm hc ih =>
    intro g2 r2 h2
    generalize hl : l ++ [b] = l2 at h2
    cases h2 with
    | beg _ h' => simp at hl
    | byte l' g' r' b' _ hm' hc' =>
      obtain ⟨e1, e2⟩ := List.append_inj' hl rfl
      subst e1
      cases e2
      obtain ⟨e3, e4⟩ := ih hm'
      subst e3 e4
      have := hc.uniq hc'
      subst this
      exact ⟨rfl, rfl⟩
def Fits (M : Ma) (S : Nat) : Prop := 1 ≤ S ∧ M.S = S ∧ M.rs.length = S ∧ (∀ y ∈ M.es, 0 ≤ y.f ∧ y.f < S ∧ 0 ≤ y.t ∧ y.t < S) ∧ ∀ x ∈ M.rs, x < 4294967296
theorem Mom.lt {M : Ma} {S : Nat} (hM : Fits M S) {l : List Nat} {g : Oct.S} {r : Nat} (h : Mom M l g r) : ∀ s, g s = true → s < S := by
  have he : ∀ y ∈ M.es, y.t < (S : Int) ∧ 0 ≤ y.t := fun y hy => by have := hM.2.2.2.1 y hy; omega
  have h1 := hM.1
  cases h with
  | beg g h => exact fun s hs => h.lt (fun s hs => by simp [zeroS] at hs; omega) he hs
  | byte l g r b g2 _ hc =>
    refine fun s hs => hc.lt (fun s hs => ?_) he hs
    simp only [nextS, Bool.or_eq_true, decide_eq_true_eq, List.any_eq_true, Bool.and_eq_true] at hs
    rcases hs with hs | ⟨y, hy, _, hs⟩
    · omega
    · have := he y hy; omega
theorem rulesG_bit (rs : List Nat) (g : Oct.S) (k : Nat) : (rulesG rs g).testBit k = true ↔ ∃ s, s < rs.length ∧ g s = true ∧ ((rs[s]?).getD 0).testBit k = true := by
  unfold rulesG
  rw [orL_bit, List.any_eq_true]
  constructor
  · rintro ⟨s, hs, hb⟩
    obtain ⟨h1, h2⟩ := Oct.mem_els.1 hs
    exact ⟨s, h1, h2, hb⟩
  · rintro ⟨s, h1, h2, hb⟩
    exact ⟨s, Oct.mem_els.2 ⟨h1, h2⟩, hb⟩
theorem rulesG_lt {rs : List Nat} {g : Oct.S} (h : ∀ x ∈ rs, x < 4294967296) : rulesG rs g < 4294967296 := orL_lt h
theorem Mom.r32 {M : Ma} {S : Nat} (hM : Fits M S) {l : List Nat} {g : Oct.S} {r : Nat} (h : Mom M l g r) : r < 4294967296 := by
  induction h with
  | beg g _ => exact rulesG_lt hM.2.2.2.2
  | byte l g r b g2 _ _ ih => exact or_lt32 ih (rulesG_lt hM.2.2.2.2)
theorem els_all {g : Oct.S} {S n : Nat} (hg : ∀ s, g s = true → s < S) (h : S ≤ n) : Oct.els g n = Oct.els g S :=
  Oct.els_skip h (fun j h1 _ => by
    cases hb : g j with
    | false => rfl
    | true => have := hg j hb; omega)
end Go.Proofs.YtmjnobdlgbojoaaGreatDoor


namespace Go.Proofs.YtmjnobdlgbojoaaGreatDoor
open Go.RowKit Go.Maps
def rawR (v : Value) : Option (DataW Value × List MemPlace) := some (.held v, [])
def nilS : Value := .slice none 0 0
def MapF (w : World) (B n : Nat) (F : Int → Value) : Prop := ∃ D : DataW Value, w.ownsMap Tryz.prog 3 rawR B n D ∧ IsMap D ∧ ∀ x : Int, D.atKey (.int .i64 x) (.held nilS) = .held (F x)
theorem keyed3 : Keyed Tryz.prog 3 := int_keyed Tryz.underlying3
theorem MapF.lt {w : World} {B n : Nat} {F : Int → Value} (h : MapF w B n F) : B < w.heap.size := by obtain ⟨D, h1, _⟩ := h; exact h1.lt
theorem MapF.same {w w' : World} {B n : Nat} {F : Int → Value} (h : MapF w B n F) (e : w'.heap[B]? = w.heap[B]?) : MapF w' B n F := by
  obtain ⟨D, ⟨es, clock, hb, rest⟩, h2⟩ := h
  exact ⟨D, ⟨es, clock, e.trans hb, rest⟩, h2⟩
theorem MapF.no {w : World} {B n : Nat} {F : Int → Value} (h : MapF w B n F) (t : TypeId) : ¬ TyB w t B := by
  obtain ⟨D, ⟨es, clock, hb, rest⟩, h2⟩ := h
  rintro ⟨c, z, hc⟩
  rw [hb] at hc
  cases hc
theorem mapF_made (w : World) : MapF (w.alloc (.map #[] 0)) w.heap.size 0 (fun _ => nilS) := ⟨.map [], World.ownsMap_made w Tryz.prog 3 rawR, isMap_empty, fun _ => rfl⟩
theorem zeroSl (w : World) : (zeroValue 34).run Tryz.prog w = .ok (.slice none 0 0) w := by kernel_rfl
theorem wf_i64 {x : Int} (h1 : -9223372036854775808 ≤ x) (h2 : x < 9223372036854775808) : (Lit.int .i64 x).wf = true := by
  simp [Lit.wf, IntKind.min, IntKind.max, IntKind.signed, IntKind.bits]; omega
theorem MapF.look {w : World} {B n : Nat} {F : Int → Value} (h : MapF w B n F) {x : Int} (h1 : -9223372036854775808 ≤ x) (h2 : x < 9223372036854775808) : (Instr.lookup 70 (.map (some B)) (.int .i64 x) false).run Tryz.prog w = .ok (F x) w := by
  obtain ⟨D, hD, _, hF⟩ := h
  obtain ⟨v, ps, hrun, hv⟩ := hD.lookup keyed3 Tryz.underlying70 (zeroSl w) (zd := .held nilS) (zp := []) rfl (keyOf_int_mk Tryz.underlying3 (wf_i64 h1 h2))
  rw [hF x] at hv
  unfold rawR at hv
  cases hv
  exact hrun
theorem MapF.put {w : World} {B n : Nat} {F : Int → Value} (h : MapF w B n F) (hn : n < maxLen) {x : Int} (h1 : -9223372036854775808 ≤ x) (h2 : x < 9223372036854775808) (v : Value) :
    ∃ w', (Instr.mapUpdate 70 (.map (some B)) (.int .i64 x) v).run Tryz.prog w = .ok () w' ∧ MapF w' B (n + 1) (fun y => if y = x then v else F y) ∧ w.grownBy w' (some B) := by
  obtain ⟨D, hD, hm, hF⟩ := h
  obtain ⟨w', hrun, ho, hg⟩ := hD.update keyed3 Tryz.underlying70 hn (d := .held v) (ps := []) (keyOf_int_mk Tryz.underlying3 (wf_i64 h1 h2)) rfl
  refine ⟨w', hrun, ⟨_, ho, hm.put _ _, fun y => ?_⟩, hg⟩
  show _ = DataW.held (if y = x then v else F y)
  by_cases e : y = x
  · subst e
    rw [if_pos rfl]
    exact atKey_put_same hm (by trivial) _ _
  · rw [if_neg e, atKey_put_other (fun h => e (by cases h; rfl))]
    exact hF y
def fromE (es : List Eg) (x : Int) : List Eg := es.filter fun y => decide (y.f = x)
theorem fromE_snoc (es : List Eg) (e : Eg) (x : Int) : fromE (es ++ [e]) x = fromE es x ++ (if e.f = x then [e] else []) := by
  unfold fromE
  rw [List.filter_append]
  congr 1
  by_cases h : e.f = x <;> simp [h]
theorem fromE_len (es : List Eg) (x : Int) : (fromE es x).length ≤ es.length := List.length_filter_le _ _
theorem mem_fromE {es : List Eg} {x : Int} {y : Eg} : y ∈ fromE es x ↔ y ∈ es ∧ y.f = x := by unfold fromE; simp
structure Gat (w : World) (B base n : Nat) (F : Int → Value) (es : List Eg) : Prop where
  map : MapF w B n F
  row : ∀ x, RowE w base (F x) (fromE es x)
  sep : ∀ x y b, x ≠ y → (F x).ownBlock = some b → (F y).ownBlock ≠ some b
def ByAt (X : Nat → Prop) (w : World) (B : Nat) (es : List Eg) : Prop := ∃ n F, MapF w B n F ∧ ∀ x : Int, ∃ a c, F x = .slice a (fromE es x).length c ∧ EAt X w a (fromE es x)
theorem ByAt.keep {X Y : Nat → Prop} {w w' : World} {B : Nat} {es : List Eg} (h : ByAt X w B es) (hB : w'.heap[B]? = w.heap[B]?) (hXY : ∀ b, X b → b < w.heap.size → Y b) (hk : ∀ b, X b → b < w.heap.size → w'.heap[b]? = w.heap[b]?) : ByAt Y w' B es := by
  obtain ⟨n, F, hm, hr⟩ := h
  refine ⟨n, F, hm.same hB, fun x => ?_⟩
  obtain ⟨a, c, h1, h2⟩ := hr x
  exact ⟨a, c, h1, h2.keep hXY hk⟩
theorem ByAt.lt {X : Nat → Prop} {w : World} {B : Nat} {es : List Eg} (h : ByAt X w B es) : B < w.heap.size := by
  obtain ⟨n, F, hm, hr⟩ := h
  exact hm.lt
theorem ByAt.no {X : Nat → Prop} {w : World} {B : Nat} {es : List Eg} (h : ByAt X w B es) (t : TypeId) : ¬ TyB w t B := by
  obtain ⟨n, F, hm, hr⟩ := h
  exact hm.no t
def MpB (w : World) (k : Nat) : Prop := ∃ es clock, w.heap[k]? = some (.map es clock)
theorem ByAt.mp {X : Nat → Prop} {w : World} {B : Nat} {es : List Eg} (h : ByAt X w B es) : MpB w B := by
  obtain ⟨n, F, ⟨D, ⟨es', clock, hb, _⟩, _⟩, _⟩ := h
  exact ⟨es', clock, hb⟩
theorem Gat.by {w : World} {B base n : Nat} {F : Int → Value} {es : List Eg} (h : Gat w B base n F es) : ByAt (fun b => base ≤ b ∧ TyB w 66 b) w B es := by
  refine ⟨n, F, h.map, fun x => ?_⟩
  have hr := h.row x
  obtain ⟨a, c, e, _⟩ := hr.form
  rw [e] at hr
  exact ⟨a, c, e, hr.at2⟩
theorem gat_start (w : World) (base : Nat) : Gat (w.alloc (.map #[] 0)) w.heap.size base 0 (fun _ => nilS) [] := ⟨mapF_made w, fun _ => rowE_nil _ _, fun x y b _ h => by simp [nilS, Value.ownBlock] at h⟩
end Go.Proofs.YtmjnobdlgbojoaaGreatDoor


namespace Go.Proofs.YtmjnobdlgbojoaaGreatDoor
structure Spr (es : List Eg) (p : Eg → Bool) (f cur : Oct.S) (l : List Nat) (ex : List Eg) : Prop where
  sub : ∀ s, f s = true → cur s = true
  rch : ∀ s, cur s = true → Rch es p f s
  todo : ∀ s ∈ l, cur s = true
  cls : ∀ y ∈ es, p y = true → cur y.f.toNat = true → y.f.toNat ∈ l ∨ cur y.t.toNat = true ∨ y ∈ ex
theorem spr_start (es : List Eg) (p : Eg → Bool) (f : Oct.S) {N : Nat} (hN : ∀ s, f s = true → s < N) : Spr es p f f (Oct.els f N) [] :=
  ⟨fun _ h => h, fun s h => .base s h, fun _ h => (Oct.mem_els.1 h).2, fun _ _ _ h => Or.inl (Oct.mem_els.2 ⟨hN _ h, h⟩)⟩
theorem Spr.pop {es : List Eg} {p : Eg → Bool} {f cur : Oct.S} {l : List Nat} {s : Nat} (h : Spr es p f cur (l ++ [s]) []) (hf : ∀ y ∈ es, 0 ≤ y.f) : Spr es p f cur l (fromE es s) ∧ cur s = true := by
  refine ⟨⟨h.sub, h.rch, fun t ht => h.todo t (by simp [ht]), fun y hy hp hc => ?_⟩, h.todo s (by simp)⟩
  rcases h.cls y hy hp hc with h1 | h1 | h1
  · rcases List.mem_append.1 h1 with h1 | h1
    · exact Or.inl h1
    · simp at h1
      exact Or.inr (Or.inr (mem_fromE.2 ⟨hy, by have := hf y hy; omega⟩))
  · exact Or.inr (Or.inl h1)
  · cases h1
theorem Spr.skip {es : List Eg} {p : Eg → Bool} {f cur : Oct.S} {l : List Nat} {y : Eg} {r : List Eg} (h : Spr es p f cur l (y :: r)) (hn : p y = false ∨ cur y.t.toNat = true) : Spr es p f cur l r := by
  refine ⟨h.sub, h.rch, h.todo, fun z hz hp hc => ?_⟩
  rcases h.cls z hz hp hc with h1 | h1 | h1
  · exact Or.inl h1
  · exact Or.inr (Or.inl h1)
  · rcases List.mem_cons.1 h1 with h1 | h1
    · subst h1
      rcases hn with hn | hn
      · rw [hn] at hp; cases hp
      · exact Or.inr (Or.inl hn)
    · exact Or.inr (Or.inr h1)
theorem Spr.push {es : List Eg} {p : Eg → Bool} {f cur : Oct.S} {l : List Nat} {y : Eg} {r : List Eg} (h : Spr es p f cur l (y :: r)) (hy : y ∈ es) (hp : p y = true) (hc : cur y.f.toNat = true) : Spr es p f (Oct.ins cur y.t.toNat) (l ++ [y.t.toNat]) r := by
  have hi : ∀ s, Oct.ins cur y.t.toNat s = true ↔ s = y.t.toNat ∨ cur s = true := fun s => by unfold Oct.ins; simp
  refine ⟨fun s hs => (hi s).2 (Or.inr (h.sub s hs)), fun s hs => ?_, fun s hs => ?_, fun z hz hpz hcz => ?_⟩
  · rcases (hi s).1 hs with e | hs
    · subst e; exact .step y hy hp (h.rch _ hc)
    · exact h.rch s hs
  · rcases List.mem_append.1 hs with hs | hs
    · exact (hi s).2 (Or.inr (h.todo s hs))
    · simp at hs; exact (hi s).2 (Or.inl hs)
  · rcases (hi _).1 hcz with e | hcz
    · exact Or.inl (by simp [e])
    · rcases h.cls z hz hpz hcz with h1 | h1 | h1
      · exact Or.inl (by simp [h1])
      · exact Or.inr (Or.inl ((hi _).2 (Or.inr h1)))
      · rcases List.mem_cons.1 h1 with h1 | h1
        · subst h1; exact Or.inr (Or.inl ((hi _).2 (Or.inl rfl)))
        · exact Or.inr (Or.inr h1)
theorem Spr.done {es : List Eg} {p : Eg → Bool} {f cur : Oct.S} (h : Spr es p f cur [] []) : IsCl es p f cur := by
  intro s
  refine ⟨h.rch s, fun hs => ?_⟩
  induction hs with
  | base s hs => exact h.sub s hs
  | step y hy hp _ ih =>
    rcases h.cls y hy hp ih with h1 | h1 | h1
    · cases h1
    · exact h1
    · cases h1
theorem els_ins {cur : Oct.S} {t : Nat} (h : cur t = false) (N : Nat) : (Oct.els (Oct.ins cur t) N).length = (Oct.els cur N).length + if t < N then 1 else 0 := by
  induction N with
  | zero => simp [Oct.els]
  | succ N ih =>
    rw [Oct.els_succ, Oct.els_succ, List.length_append, List.length_append, ih]
    by_cases e : N = t
    · subst e
      simp [Oct.ins, h]
    · have h1 : Oct.ins cur t N = cur N := by unfold Oct.ins; simp [e]
      rw [h1]
      generalize (if cur N = true then [N] else []) = q
      by_cases h2 : t < N
      · have h3 : t < N + 1 := by omega
        rw [if_pos h2, if_pos h3]; omega
      · have h3 : ¬ t < N + 1 := by omega
        rw [if_neg h2, if_neg h3]; omega
end Go.Proofs.YtmjnobdlgbojoaaGreatDoor
