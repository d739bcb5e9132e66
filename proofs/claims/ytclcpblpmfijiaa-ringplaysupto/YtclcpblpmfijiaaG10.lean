/- The document's ring (heronref18) by contract; sameInts. -/
import Derived.Test.YtclcpblpmfijiaaG09
namespace Go.Proofs.Ytclcpblpmfijiaa
open Go.RowKit Go.Maps Rg
attribute [local go_sem ↓] Go.wp_at_zero Go.wp_at_succ

def RefB (w : World) (Q n : Nat) (V : Value) : Prop := w.heap[Q]? = some (.cells #[.int .i64 (n : Nat), V] 65 (0, 0))
section
variable {w u v : World} {Q n : Nat} {V : Value}
theorem RefB.cells (h : RefB w Q n V) : w.cell? ⟨Q, 0, none⟩ = some (.int .i64 (n : Nat)) ∧ w.cell? ⟨Q, 1, none⟩ = some V := by
  simp [World.cell?, show w.heap[Q]? = _ from h]
theorem RefB.frozen (h : RefB w Q n V) (j : Nat) : w.frozen? ⟨Q, j, none⟩ = false := by simp [World.frozen?, show w.heap[Q]? = _ from h]
theorem RefB.ty (h : RefB w Q n V) : TyB w 65 Q := ⟨_, _, h⟩
theorem RefB.lt (h : RefB w Q n V) : Q < w.heap.size := (Array.getElem?_eq_some_iff.1 h).1
theorem RefB.same (h : RefB w Q n V) (e : u.heap[Q]? = w.heap[Q]?) : RefB u Q n V := e.trans h
theorem RefB.put (h : RefB w Q n V) (V' : Value) : RefB (w.setCell ⟨Q, 1, none⟩ V') Q n V' := by unfold RefB; rw [heap_set h]; simp
end
/-- a slice of things that may be read, in a block that satisfies X -/
def LAtX (X : Nat → Prop) (w : World) (V : Value) (xs : List Value) : Prop := LAt w V xs ∧ ∀ b off n c, V = .slice (some ⟨b, off, none⟩) n c → xs ≠ [] → X b
theorem LAtX.keep {X : Nat → Prop} {w u : World} {V : Value} {xs : List Value} (h : LAtX X w V xs) (hk : ∀ b, X b → b < w.heap.size → u.heap[b]? = w.heap[b]?) : LAtX X u V xs := by
  obtain ⟨⟨a, c, e, h1, h2, h3⟩, hx⟩ := h
  refine ⟨⟨a, c, e, h1, h2, ?_⟩, hx⟩
  rcases h3 with h3 | ⟨b, off, ea, hc⟩
  · exact .inl h3
  · by_cases hn : xs = []
    · exact .inl hn
    · refine .inr ⟨b, off, ea, fun k v hv => ?_⟩
      have hb := hx b off xs.length c (by rw [e, ea]) hn
      have hlt := lt_of_cell (hc k v hv)
      exact (World.cell?_of_block (a := ⟨b, off + k, none⟩) (hk b hb hlt)).trans (hc k v hv)
theorem lx_nil (X : Nat → Prop) (w : World) : LAtX X w (.slice none 0 0) (ints []) := ⟨lat_nil w, fun _ _ _ _ _ h => absurd rfl h⟩
theorem lx_own {w : World} {B n : Nat} {e : TypeId} {V : Value} {xs : List Value} (h : w.ownsRow B e 1 V n xs) (X : Nat → Prop) (hX : ∀ b, V.ownBlock = some b → X b) : LAtX X w V xs := by
  refine ⟨owns_lat h, fun b off n c e _ => ?_⟩
  rcases h.2 with ⟨rfl, _⟩ | ⟨g, cap, cur, rfl, hBg, _⟩
  · cases e
  · cases e
    exact hX _ rfl
theorem below_new (w : World) (ob : Obj) : Below w.heap.size w (w.alloc ob) := (Below.refl _ _).alloc (Nat.le_refl _) _
theorem rref_bad {w : World} {z : Int} (h : z < 1 ∨ 64 < z) :
    Calls Try.prog 19 #[.int .i64 z] w fun e w' => e = .returned (.tuple #[.pointer none, .int .i64 1]) ∧ w' = w := by
  rcases h with h | h
  · go_enter Try.func19, Try.ntmps19
    go_wp2
    go_ret2
    exact ⟨rfl, rfl⟩
  · have h1 : ¬ z < 1 := by omega
    go_enter Try.func19, Try.ntmps19
    go_wp2
    go_ret2
    exact ⟨rfl, rfl⟩
theorem rref_new {w : World} {z : Int} {n : Nat} (hz : z = (n : Nat)) (h : 1 ≤ n ∧ n ≤ 64) :
    Calls Try.prog 19 #[.int .i64 z] w fun e w' => ∃ Q, e = .returned (.tuple #[.pointer (some ⟨Q, 0, none⟩), .int .i64 0]) ∧ RefB w' Q n (.slice none 0 0) ∧ w.heap.size ≤ Q ∧ Below w.heap.size w w' := by
  subst hz
  have HF : Hid (RefB (w.alloc (.cells #[.int .i64 (n : Nat), .slice none 0 0] 65)) w.heap.size n (.slice none 0 0) ∧ w.heap.size ≤ w.heap.size ∧ Below w.heap.size w (w.alloc (.cells #[.int .i64 (n : Nat), .slice none 0 0] 65))) :=
    (⟨heap_alloc_new w _, Nat.le_refl _, (Below.refl _ _).alloc (Nat.le_refl _) _⟩ : _ ∧ _ ∧ _)
  have h1 : ¬ (n : Int) < 1 := by omega
  have h2 : ¬ (64 : Int) < n := by omega
  go_enter Try.func19, Try.ntmps19
  go_wp2
  go_ret2
  exact ⟨_, rfl, HF.out⟩
theorem rfront_any {w : World} {Q n : Nat} {V : Value} {l : List Int} (h : RefB w Q n V) (hl : LAt w V (ints l)) (h64 : l.length ≤ 64) :
    Calls Try.prog 29 #[.pointer (some ⟨Q, 0, none⟩)] w fun e w' => e = .returned (.tuple #[.int .i64 (l.head?.getD 0), .bool (decide (0 < l.length))]) ∧ w' = w := by
  obtain ⟨c0, c1⟩ := h.cells
  obtain ⟨a, c, rfl⟩ := lat_len hl
  rw [ints_len] at c1 hl
  cases l with
  | nil =>
    simp only [List.length_nil] at c1
    clear h hl
    go_enter Try.func29, Try.ntmps29
    go_wp2
    go_ret2
    exact ⟨by simp, rfl⟩
  | cons x t =>
    obtain ⟨b, o, v, rfl, hv, cv⟩ := lat_nth hl (k := 0) (by simp)
    simp [ints] at hv
    subst hv
    rw [Nat.add_zero] at cv
    obtain ⟨m, hm⟩ : ∃ m, (x :: t).length = m := ⟨_, rfl⟩
    have hm1 : 0 < m := by rw [← hm]; simp
    have l10 : ((m : Int) == 0) = false := by simp; omega
    have l11 : (0 : Int) < (m : Int) := by omega
    have HM : Hid (decide (0 < m) = true) := decide_eq_true hm1
    rw [hm] at c1 h64 ⊢
    clear h hl hm
    go_enter Try.func29, Try.ntmps29
    go_wp2
    go_ret2
    exact ⟨by rw [HM.out]; rfl, rfl⟩
theorem rpop_none {w : World} {Q n : Nat} {V : Value} (h : RefB w Q n V) (hl : LAt w V (ints [])) :
    Calls Try.prog 28 #[.pointer (some ⟨Q, 0, none⟩)] w fun e w' => e = .returned (.tuple #[.int .i64 0, .bool false]) ∧ w' = w := by
  obtain ⟨c0, c1⟩ := h.cells
  obtain ⟨a, c, rfl⟩ := lat_len hl
  simp only [ints_len, List.length_nil] at c1
  clear h hl
  go_enter Try.func28, Try.ntmps28
  go_wp2
  go_ret2
  exact ⟨rfl, rfl⟩
/-- a slice without its first -/
theorem cut_first {w : World} {X : Nat → Prop} {b off m cap : Nat} {x : Int} {t : List Int} (hl : LAtX X w (.slice (some ⟨b, off, none⟩) m cap) (ints (x :: t))) (hm : (x :: t).length = m) :
    ∃ o' c', (∀ u, (Instr.slice 43 (.slice (some ⟨b, off, none⟩) m cap) (some (.int .i64 1)) none none).run Try.prog u = .ok (.slice (some ⟨b, o', none⟩) (m - 1) c') u) ∧ LAtX X w (.slice (some ⟨b, o', none⟩) (m - 1) c') (ints t) := by
  obtain ⟨⟨a, c, e, h1, h2, h3⟩, hx⟩ := hl
  rw [ints_len] at h1
  obtain ⟨_, e2, e3⟩ := Value.slice.inj e
  have hc : c = cap := e3.symm
  subst hc
  have ht : t.length = m - 1 := by simp only [List.length_cons] at hm; omega
  have hm1 : 1 ≤ m := by simp only [List.length_cons] at hm; omega
  have hcells : ∀ (k : Nat) v, (ints (x :: t))[k]? = some v → w.cell? ⟨b, off + k, none⟩ = some v := by
    rcases h3 with h3 | ⟨b', off', ea, hc⟩
    · simp [ints] at h3
    · obtain ⟨ea2, _, _⟩ := Value.slice.inj e
      rw [ea] at ea2
      cases ea2
      exact hc
  obtain ⟨i0, hi, hz0, hz1, hz2⟩ := info_parts infI
  refine ⟨if c = 1 then off else off + 1, c - 1, fun u => ?_, ⟨some ⟨b, if c = 1 then off else off + 1, none⟩, c - 1, by rw [ints_len, ht], by rw [ints_len]; omega, by omega, ?_⟩, fun b' off' n' c' e' hn => ?_⟩
  · simp [Instr.slice, run_underlying Try.underlying43, Instr.sliceBounds, Instr.sliceBound, asIntOf, sizeOf, typeInfo, hi, hz1]
    by_cases e : c = 1
    · simp [e]
      omega
    · simp [e, Addr.add]
      omega
  · by_cases hn : ints t = []
    · exact .inl hn
    · refine .inr ⟨b, _, rfl, fun k v hv => ?_⟩
      have hk : k < t.length := by have := (List.getElem?_eq_some_iff.1 hv).1; rwa [ints_len] at this
      rw [if_neg (by omega)]
      have := hcells (k + 1) v (by simpa [ints] using hv)
      rwa [show off + (k + 1) = off + 1 + k by omega] at this
  · cases e'
    exact hx b off m c rfl (by simp [ints])
theorem rpop_some {w : World} {X : Nat → Prop} {Q n : Nat} {V : Value} {x : Int} {t : List Int} (h : RefB w Q n V) (hl : LAtX X w V (ints (x :: t))) (h64 : (x :: t).length ≤ 64) (hQ : ¬ X Q) :
    Calls Try.prog 28 #[.pointer (some ⟨Q, 0, none⟩)] w fun e w' => e = .returned (.tuple #[.int .i64 x, .bool true]) ∧ ∃ V', RefB w' Q n V' ∧ LAtX X w' V' (ints t) ∧ FrP (fun k => k = Q) w w' := by
  obtain ⟨c0, c1⟩ := h.cells
  obtain ⟨a, c, rfl⟩ := lat_len hl.1
  rw [ints_len] at c1 hl h
  obtain ⟨m, hm⟩ : ∃ m, (x :: t).length = m := ⟨_, rfl⟩
  obtain ⟨b, o, v, rfl, hv, cv⟩ := lat_nth hl.1 (k := 0) (by simp)
  simp [ints] at hv
  subst hv
  rw [Nat.add_zero] at cv
  have hm1 : 0 < m := by rw [← hm]; simp
  rw [hm] at c1 h64 hl h
  obtain ⟨o', c', hsl, hl'⟩ := cut_first hl hm
  have l10 : ((m : Int) == 0) = false := by simp; omega
  have l11 : (0 : Int) < (m : Int) := by omega
  have q1 := h.frozen 1
  obtain ⟨m1, hm1'⟩ : ∃ q, m - 1 = q := ⟨_, rfl⟩
  rw [hm1'] at hsl hl'
  have HF : Hid (RefB (w.setCell ⟨Q, 1, none⟩ (.slice (some ⟨b, o', none⟩) m1 c')) Q n (.slice (some ⟨b, o', none⟩) m1 c') ∧ LAtX X (w.setCell ⟨Q, 1, none⟩ (.slice (some ⟨b, o', none⟩) m1 c')) (.slice (some ⟨b, o', none⟩) m1 c') (ints t) ∧ FrP (fun k => k = Q) w (w.setCell ⟨Q, 1, none⟩ (.slice (some ⟨b, o', none⟩) m1 c'))) :=
    (⟨h.put _, hl'.keep (fun k hb _ => Below.heap_setCell w ⟨Q, 1, none⟩ (.slice (some ⟨b, o', none⟩) m1 c') k (fun e => hQ (by have e2 : k = Q := e; rw [← e2]; exact hb))), (FrP.refl (fun k => k = Q) w).set (a := Q) (fun _ => rfl) 1 (.slice (some ⟨b, o', none⟩) m1 c')⟩ : _ ∧ _ ∧ _)
  clear h hl hm hl' hm1'
  go_enter Try.func28, Try.ntmps28
  go_wp2
  go_ret2
  exact ⟨rfl, _, HF.out⟩
theorem ints_snoc (l : List Int) (x : Int) : ints (l ++ [x]) = ints l ++ [.int .i64 x] := by simp [ints]
theorem rpush_full {w : World} {Q n : Nat} {V : Value} {l : List Int} (h : RefB w Q n V) (hl : LAt w V (ints l)) (hf : l.length = n) (x : Int) :
    Calls Try.prog 27 #[.pointer (some ⟨Q, 0, none⟩), .int .i64 x] w fun e w' => e = .returned (.int .i64 180) ∧ Below w.heap.size w w' := by
  obtain ⟨c0, c1⟩ := h.cells
  obtain ⟨a, c, rfl⟩ := lat_len hl
  rw [ints_len, hf] at c1
  have HB : Hid (Below w.heap.size w w.drew) := drew_below w 1
  clear h hl hf
  go_enter Try.func27, Try.ntmps27
  go_upto_region 1 with fail
  go_region
  go_wp2
  go_ret
  exact ⟨rfl, HB.out⟩
set_option maxRecDepth 4000 in
theorem rpush_any {w : World} {Q n : Nat} {V : Value} {l : List Int} (h : RefB w Q n V) (hl : LAt w V (ints l)) (h64 : l.length ≤ 64) (hf : l.length ≠ n) (x : Int) :
    Calls Try.prog 27 #[.pointer (some ⟨Q, 0, none⟩), .int .i64 x] w fun e w' => e = .returned (.int .i64 0) ∧ ∃ V', RefB w' Q n V' ∧ LAtX (fun b => w.heap.size ≤ b) w' V' (ints (l ++ [x])) ∧ FrP (fun k => k = Q) w w' := by
  obtain ⟨c0, c1⟩ := h.cells
  obtain ⟨a, c, rfl⟩ := lat_len hl
  obtain ⟨m, hm⟩ : ∃ m, l.length = m := ⟨_, rfl⟩
  rw [ints_len, hm] at c1 hl h
  rw [hm] at hf h64
  have l1 : ((m : Int) == (n : Int)) = false := by simp; omega
  have l2 : ¬ (m : Int) = (n : Int) := by omega
  have HM : Hid ((ints l).length = m) := by show _ = _; rw [ints_len, hm]
  have HH : Hid (RefB w.drew Q n (.slice a m c) ∧ LAt w.drew (.slice a m c) (ints l)) := (⟨h, hl.later (drew_below w 1)⟩ : _ ∧ _)
  clear h hl hm hf
  go_enter Try.func27, Try.ntmps27
  go_upto_region 1 with fail
  go_region
  go_upto_region 5 with (refine wpList_append_lat rfl (.tmp 16) (.tmp 20) rfl (.int .i64 0) 8 (by kernel_rfl) infI rfl w.heap.size (.slice none 0 0) 0 [] rfl (owns_nil _ _ _) (.slice a m c) (ints l) rfl HH.out.2 (ints_one l) (by rw [HM.out]; unfold maxLen; omega) (by rw [HM.out]; omega) (Nat.le_refl _) ?_; intro V1 w1 ho1 hg1 hn1 hh1; rw [HM.out, Nat.zero_add, List.nil_append] at ho1; obtain ⟨v1, v2, rfl⟩ := own_form ho1; have HO1 : Hid (w1.ownsRow w.heap.size 3 1 (.slice v1 m v2) m (ints l) ∧ Below w.heap.size w.drew w1) := (⟨ho1, (Below.refl _ w.drew).grown hg1 (Nat.le_refl _) (fun k hk => by cases hk)⟩ : _ ∧ _); clear ho1 hg1 hn1 hh1)
  have hb1 : RefB w1 Q n (.slice a m c) := HH.out.1.same (HO1.out.2.block Q HH.out.1.lt)
  obtain ⟨d0, d1⟩ := hb1.cells
  have q1 := hb1.frozen 1
  have HB1 : Hid (RefB w1 Q n (.slice a m c)) := hb1
  have HLT : Hid (Q < w.heap.size) := HH.out.1.lt
  have HK2 : Hid (Below w1.heap.size w1 (w1.alloc (.cells #[.int .i64 x] 3))) := below_new w1 _
  have HO2 : Hid ((w1.alloc (.cells #[.int .i64 x] 3)).ownsRow w.heap.size 3 1 (.slice v1 m v2) m (ints l)) := ownsRow_keep HO1.out.1 (fun g _ _ hg => HK2.out.block g hg)
  clear hb1 HH
  go_wp2_with (refine wpList_append_lat rfl (.tmp 23) (.tmp 25) rfl (.int .i64 0) 8 (by kernel_rfl) infI rfl w.heap.size (.slice v1 m v2) m (ints l) rfl HO2.out _ [.int .i64 x] rfl (lat_lit w1 _ 3 (0, 0)) (fun u hu => by simp at hu; subst hu; rfl) (by unfold maxLen; simp; omega) (by simp; omega) (Nat.le_trans HO1.out.2.size HK2.out.size) ?_; intro V3 w3 ho3 hg3 hn3 hh3; obtain ⟨v3, v4, rfl⟩ := own_form ho3; have HB3 : Hid (RefB w3 Q n (.slice a m c)) := HB1.out.same ((hg3.block Q (Nat.lt_of_lt_of_le HB1.out.lt HK2.out.size) (fun e => by have := HLT.out; rcases HO2.out.2 with ⟨e2, _⟩ | ⟨g, cap, cur, e2, hBg, _⟩ <;> rw [e2] at e <;> simp [Value.ownBlock] at e; omega)).trans (HK2.out.block Q HB1.out.lt)); have HF3 : Hid (FrP (fun k => k = Q) w w3) := ((((FrP.of_below (fun k => k = Q) (drew_below w 1)).below HO1.out.2).below HK2.out).grown hg3 (fun k hk e => by rcases HO2.out.2 with ⟨e2, _⟩ | ⟨g, cap, cur, e2, hBg, _⟩ <;> rw [e2] at e <;> simp [Value.ownBlock] at e; omega)); have HO3 : Hid (w3.ownsRow w.heap.size 3 1 (.slice v3 (m + 1) v4) (m + 1) (ints l ++ [.int .i64 x])) := ho3; obtain ⟨e0, e1⟩ := HB3.out.cells; have q3 := HB3.out.frozen 1; clear hg3 hn3 hh3 ho3)
  go_ret
  have hlx : LAtX (fun b => w.heap.size ≤ b) w3 (.slice v3 (m + 1) v4) (ints l ++ [.int .i64 x]) := lx_own HO3.out _ (fun b hb => by rcases HO3.out.2 with ⟨e2, _⟩ | ⟨g, cap, cur, e2, hBg, _⟩ <;> rw [e2] at hb <;> simp [Value.ownBlock] at hb; omega)
  exact ⟨rfl, _, HB3.out.put _, by rw [ints_snoc]; exact hlx.keep (fun b hb _ => Below.heap_setCell w3 ⟨Q, 1, none⟩ _ b (fun e => by have e2 : b = Q := e; have := HLT.out; omega)), HF3.out.set (a := Q) (fun _ => rfl) 1 (.slice v3 (m + 1) v4)⟩
theorem same_any {w : World} {Va Vb : Value} {l : List Int} (ha : LAt w Va (ints l)) (hb : LAt w Vb (ints l)) (hl : l.length ≤ 1000000000) : Calls Try.prog 30 #[Va, Vb] w fun e w' => e = .returned (.bool true) ∧ Below w.heap.size w w' := by
  obtain ⟨aa, ca, rfl⟩ := lat_len ha
  obtain ⟨ab, cb, rfl⟩ := lat_len hb
  rw [ints_len] at ha hb ⊢
  obtain ⟨n, hn⟩ : ∃ n, l.length = n := ⟨_, rfl⟩
  rw [hn] at ha hb hl ⊢
  have HA : Hid (LAt w (.slice aa n ca) (ints l)) := ha
  have HB : Hid (LAt w (.slice ab n cb) (ints l)) := hb
  have H0 : Hid (Below w.heap.size w w) := Below.refl _ _
  clear ha hb hn
  go_enter Try.func30, Try.ntmps30
  go_wp2_with fail
  go_loopw [13] (fun i u => ∃ j : Nat, i = .int .i64 (j : Nat) ∧ j ≤ n ∧ Hid (Below w.heap.size w u)) (fun i _ => n - (Go.RowKit.intOf i).toNat)
  case atStart => exact ⟨0, rfl, Nat.zero_le _, H0⟩
  case round =>
    obtain ⟨j, rfl, hj, HL⟩ := hrel
    clear H0
    by_cases hlt : j < n
    · have l1 : (j : Int) < (n : Int) := by omega
      obtain ⟨b1, o1, v1, rfl, hv1, c1⟩ := lat_nth HA.out hlt
      obtain ⟨b2, o2, v2, rfl, hv2, c2⟩ := lat_nth HB.out hlt
      rw [hv1] at hv2
      cases hv2
      obtain ⟨x, _, rfl⟩ := List.mem_map.1 (List.mem_of_getElem? hv1)
      have c1' := cell_later HL.out _ _ _ c1
      have c2' := cell_later HL.out _ _ _ c2
      clear c1 c2 hv1
      go_upto_region 6 with fail
      go_region
      go_wp2_with fail
      go_roundw
      case rel => exact ⟨j + 1, by go_num, by omega, below_drew' HL⟩
      case measure => simp [Go.RowKit.intOf]; omega
    · have l1 : ¬ (j : Int) < (n : Int) := by omega
      go_wp2_with fail
      go_ret
      exact ⟨rfl, HL.out⟩
end Go.Proofs.Ytclcpblpmfijiaa
