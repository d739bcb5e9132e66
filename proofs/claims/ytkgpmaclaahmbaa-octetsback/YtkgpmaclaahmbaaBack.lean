/- The walk of heronlaw03.OctetsBack: a set is its rows and its bytes. -/
import Derived.Test.YtkgpmaclaahmbaaBack14
import Derived.Test.YtkgpmaclaahmbaaIterK
import Derived.Test.YtkgpmaclaahmbaaBack21
import Derived.Deep.RegionHeld3
import Derived.Laws.EntriesVeiled
import Derived.Deep.DrawnRows
import Derived.Deep.DeepCutAuto
namespace Go.Proofs.Ytkgpmaclaahmbaa
open Go.RowKit Go.Shelf
attribute [local go_sem ↓] Go.wp_at_zero Go.wp_at_succ
attribute [local go_sem] Oper.semAt_some

theorem wpListIn_append_bytesN {F : Fence} {n : Nat} {w : World} {ops : Array Oper} {rest : List Oper} {o : Oper} {a : Act} {Q : Exit → Act → World → Prop} (hgd : o.guard = none) (s x : Operand)
    (ho : o.op = .call { callee := .builtin .append, args := #[s, x], argTypes := #[27, 27] })
    (B : Nat) (v : Value) (xs : List Int) (hs : a.eval s = v) (hown : OwnsN w B v xs) (p : Option Addr) (cap m : Nat) (zs : List Int) (hm : m = zs.length) (hx : a.eval x = .slice p m cap) (hb : BytesI w p zs)
    (hl : xs.length + zs.length ≤ 140737488355328) (hB : B ≤ w.heap.size)
    (h : ∀ v' w', OwnsN w' B v' (xs ++ zs) → w.grownBy w' v.ownBlock → wpListIn F n Try.prog ops Q rest (a.put o.dst v') w') : wpListIn F n Try.prog ops Q (o :: rest) a w := by
  subst hm
  refine wpListIn_plain hgd fun K hK => ?_
  obtain ⟨v', w', hr, h2, h3⟩ := run_append_bytesN w o.type B v xs hown p cap zs hb hl hB
  unfold Oper.wpIn
  refine ⟨?_, ?_⟩
  · simp [Oper.about, ho, resolve, Target.leads, Sem.run_pure]
  · rw [Oper.semAt_plain F _ _ (by rw [ho]; intro c hc'; cases hc')]
    simp [execOp, ho, resolve, invoke, builtin, hs, hx, hr, Result.andThen]
    exact hK _ _ (h v' w' h2 h3)
theorem fr6_lit {act a : Act} (h : Fr6 act a) (hs : act.tmps.size = 76) : a = (((((act.put (some 36) (T a 36)).put (some 37) (T a 37)).put (some 38) (T a 38)).put (some 39) (T a 39)).put (some 40) (T a 40)).put (some 41) (T a 41) := by
  obtain ⟨h1, h2, h3⟩ := h
  obtain ⟨tmps, defers⟩ := a
  simp only at h1 h2 h3
  simp only [Act.put, Act.mk.injEq]
  refine ⟨?_, h2⟩
  apply Array.ext_getElem?
  intro k
  have hT : ∀ j, j < 76 → tmps[j]? = some (T ⟨tmps, defers⟩ j) := fun j hj => by
    have : j < tmps.size := by omega
    simp [T, this]
  by_cases hk : k < 36 ∨ 42 ≤ k
  · rw [h3 k hk, Array.getElem?_setIfInBounds_ne (by omega), Array.getElem?_setIfInBounds_ne (by omega), Array.getElem?_setIfInBounds_ne (by omega), Array.getElem?_setIfInBounds_ne (by omega), Array.getElem?_setIfInBounds_ne (by omega), Array.getElem?_setIfInBounds_ne (by omega)]
  · have hk' : k = 36 ∨ k = 37 ∨ k = 38 ∨ k = 39 ∨ k = 40 ∨ k = 41 := by omega
    rcases hk' with rfl | rfl | rfl | rfl | rfl | rfl <;> rw [hT _ (by decide)] <;> simp [hs]
theorem Bk.own {w : World} {s : Oct.S} {X : Nat} {W W' : World} {V : Value} {xs : List Oct.S} {U : Value} {zs : List Int} {last n : Int} (h : Bk w s X W V V xs U U zs last n) {row : Option Nat} (hg : W.grownBy W' row) (hr : ∀ r, row = some r → X + 5 ≤ r ∧ ∃ o : Obj, W.heap[r]? = some o ∧ o.isCells = false) : Bk w s X W' V V xs U U zs last n := by
  refine h.kept row hg (fun r e => (hr r e).1) (fun g e e2 => ?_) (fun g e e2 => ?_)
  · obtain ⟨_, cur, hc⟩ := h.row.isCells e
    obtain ⟨_, o, ho, hn⟩ := hr g e2.symm
    rw [hc] at ho
    cases ho
    simp [Obj.isCells] at hn
  · obtain ⟨_, cur, hc⟩ := h.byte.isCells e
    obtain ⟨_, o, ho, hn⟩ := hr g e2.symm
    rw [hc] at ho
    cases ho
    simp [Obj.isCells] at hn
theorem total_le {l : List Pr} (h : ∀ x ∈ l, x.2 < 256) : total l ≤ 256 * l.length := by
  induction l with
  | nil => simp [total]
  | cons y l ih =>
    have h1 := h y (by simp)
    have h2 := ih (fun x hx => h x (by simp [hx]))
    simp only [total, List.length_cons]
    omega
theorem bytesOf_len (x : Pr) : (bytesOf x).length = x.2 + 1 - x.1 := by simp [bytesOf]
theorem allBytes_total (l : List Pr) : (allBytes l).length = total l := by
  induction l with
  | nil => rfl
  | cons y l ih =>
    have e : allBytes (y :: l) = bytesOf y ++ allBytes l := by simp [allBytes]
    rw [e, List.length_append, ih, bytesOf_len]
    rfl
theorem allBytes_len (l : List Pr) (h : ∀ x ∈ l, x.2 < 256) (hl : l.length < 256) : (allBytes l).length ≤ 65536 := by
  have := total_le h
  rw [allBytes_total]
  omega
theorem lastOf_range {l : List Pr} (h : ∀ x ∈ l, x.2 < 256) : -2 ≤ lastOf (-2) l ∧ lastOf (-2) l ≤ 255 := by
  by_cases e : l = []
  · subst e; simp [lastOf]
  · obtain ⟨r, x, rfl⟩ := exists_last e
    rw [lastOf_snoc]
    have := h x (by simp)
    omega
theorem vals_lt (pre : List Row) : ∀ x ∈ pre.map vals, x.2 < 256 := by
  intro x hx
  obtain ⟨y, _, rfl⟩ := List.mem_map.1 hx
  exact y.2.isLt
set_option maxRecDepth 100000 in
set_option maxHeartbeats 4000000 in
theorem back_any (s : Oct.S) (w : World) : Calls Try.prog 3 #[setV s] w fun e w' => e = .returned (.bool true) ∧ Below w.heap.size w w' := by
  refine (callsIn_wide (n := 9)).1 ?_
  refine callsIn_of_wp_marks Try.func3 rfl trivial (wpIn_wide.2 ?_) rfl
  simp only [Try.ntmps3, List.size_toArray, List.length_cons, List.length_nil, Nat.reduceAdd, Nat.reduceSub, Array.replicate_succ, Array.replicate_zero, List.push_toArray, List.append_toArray, List.nil_append, List.cons_append]
  unfold setV
  go_wp2_with fail
  refine (known_any _).mono ?_
  rintro e w1 ⟨rfl, hb1⟩
  obtain ⟨u0, hu0⟩ : ∃ u0, u0 = w.alloc (.cells #[.int .u64 (Oct.word s 0 : Nat), .int .u64 (Oct.word s 1 : Nat), .int .u64 (Oct.word s 2 : Nat), .int .u64 (Oct.word s 3 : Nat)] 24) := ⟨_, rfl⟩
  rw [← hu0] at hb1
  have z0 : u0.heap.size = w.heap.size + 1 := by rw [hu0]; simp
  have hs0 : SB u0 w.heap.size s := by rw [hu0]; exact sb_new w s
  have hk0 : Below w.heap.size w u0 := by rw [hu0]; exact (Below.refl _ _).alloc (Nat.le_refl _) _
  have hr0 := Boxed.new u0 4 (.bool false)
  rw [z0] at hr0
  have HS1 : Hid (SB w1 w.heap.size s) := (hs0.later ((Below.refl _ _).alloc (Nat.le_refl _) _)).later hb1
  have HR1 : Hid (Boxed w1 (w.heap.size + 1) 4 (.bool false)) := (hb1.block _ hr0.lt).trans hr0
  have HB1 : Hid (Below w.heap.size w w1) := below_trans (hk0.alloc hk0.size _) hb1 (by simp; omega)
  have HO1 : Hid (w.heap.size + 1 < w1.heap.size) := by have h := hb1.size; rw [World.size_alloc, z0] at h; show _ < _; omega
  clear hu0 hs0 hk0 hr0 hb1 z0
  obtain ⟨W5, hW5⟩ : ∃ W5, W5 = (((w1.alloc (.cells #[.slice none 0 0] 26)).alloc (.cells #[.slice none 0 0] 27)).alloc (.cells #[.int .i64 (-2)] 3)).alloc (.cells #[.int .i64 0] 3) := ⟨_, rfl⟩
  have z5 : W5.heap.size = w1.heap.size + 1 + 1 + 1 + 1 := by rw [hW5]; simp
  have hk15 : Below w1.heap.size w1 W5 := by rw [hW5]; exact ((((Below.refl _ _).alloc (Nat.le_refl _) _).alloc (by simp) _).alloc (by simp; omega) _).alloc (by simp; omega) _
  obtain ⟨c0, c1, c2, c3⟩ := (HS1.out.later hk15).cells
  have HW5 : Hid (W5 = _) := hW5
  have HZ5 : Hid (W5.heap.size = _) := z5
  have HK15 : Hid (Below w1.heap.size w1 W5) := hk15
  rw [hW5] at c0 c1 c2 c3
  clear hW5 z5 hk15
  go_wp2_with fail
  have hW5 := HW5.out
  have z5 := HZ5.out
  have hk15 := HK15.out
  clear HW5 HZ5 HK15 c0 c1 c2 c3
  rw [← hW5]
  refine (spans_any s _).mono ?_
  rintro e W0 ⟨rfl, hW0⟩
  have hk50 : Below W5.heap.size W5 W0 := by rw [hW0]; exact (Below.refl _ _).alloc (Nat.le_refl _) _
  have hk10 : Below w1.heap.size w1 W0 := below_trans hk15 hk50 hk15.size
  have b3 : Boxed W5 w1.heap.size 26 (.slice none 0 0) := by rw [hW5]; exact (((Boxed.new w1 26 _).alloc _).alloc _).alloc _
  have b4 : Boxed W5 (w1.heap.size + 1) 27 (.slice none 0 0) := by
    have h := Boxed.new (w1.alloc (.cells #[.slice none 0 0] 26)) 27 (.slice none 0 0)
    rw [World.size_alloc] at h
    rw [hW5]
    exact (h.alloc _).alloc _
  have b5 : Boxed W5 (w1.heap.size + 1 + 1) 3 (.int .i64 (-2)) := by
    have h := Boxed.new ((w1.alloc (.cells #[.slice none 0 0] 26)).alloc (.cells #[.slice none 0 0] 27)) 3 (.int .i64 (-2))
    rw [World.size_alloc, World.size_alloc] at h
    rw [hW5]
    exact h.alloc _
  have b6 : Boxed W5 (w1.heap.size + 1 + 1 + 1) 3 (.int .i64 0) := by
    have h := Boxed.new (((w1.alloc (.cells #[.slice none 0 0] 26)).alloc (.cells #[.slice none 0 0] 27)).alloc (.cells #[.int .i64 (-2)] 3)) 3 (.int .i64 0)
    rw [World.size_alloc, World.size_alloc, World.size_alloc] at h
    rw [hW5]
    exact h
  have HBK : Hid (Bk w s w1.heap.size W0 (.slice none 0 0) (.slice none 0 0) [] (.slice none 0 0) (.slice none 0 0) [] (-2) 0) :=
    ⟨HS1.out.later hk10, by have h := sb_new W5 s; rw [← hW0, z5] at h; exact h, (hk10.block _ HR1.out.lt).trans HR1.out, (hk50.block _ b3.lt).trans b3, ownsS_nil _ _, (hk50.block _ b4.lt).trans b4, ownsN_nil _ _, (hk50.block _ b5.lt).trans b5, (hk50.block _ b6.lt).trans b6, below_trans HB1.out hk10 HB1.out.size, HO1.out⟩
  have HZ0 : Hid (W0.heap.size = w1.heap.size + 5) := by show _ = _; rw [hW0, World.size_alloc, z5]
  rw [z5]
  clear hW0 hW5 hk15 hk50 hk10 b3 b4 b5 b6 z5 HS1 HR1 HB1 HO1
  obtain ⟨X, hX⟩ : ∃ X, X = w1.heap.size := ⟨_, rfl⟩
  rw [← hX] at HBK HZ0 ⊢
  clear hX
  go_wp2_with fail
  refine (wpIn_wide (n := 9)).1 ?_
  have HZ := HZ0.out
  have HC : Hid (SB W0 (X + 1 + 1 + 1 + 1) s) := HBK.out.cap
  have hc0 := HC.out
  refine wpIn_rangeFunc_ownF rfl (by omega) (gf := 28) (lb := #[.pointer (some ⟨X + 1 + 1 + 1 + 1, 0, none⟩)]) rfl trivial (enters_of Try.func28 (by kernel_rfl) rfl)
    (spans_stopsK (9 - 1) (by omega) (X + 1 + 1 + 1 + 1) s W0 (fun W W' => W'.heap[X + 1 + 1 + 1 + 1]? = W.heap[X + 1 + 1 + 1 + 1]?) (fun W W' h hs => h.trans hs) hc0) (fun h k => k.trans h)
    (fun W l o o' hl hlo _ _ => (grownBy_putObj' W l o').block (X + 1 + 1 + 1 + 1) (by have := (Array.getElem?_eq_some_iff.1 hlo).1; omega) (by intro e; cases e; omega)) (Below.refl _ _) (fun _ => rfl)
    (fun pre W => Hid (good s (-2) (pre.map vals)) ∧ ∃ V U, Bk w s X W V V (allSets (pre.map vals)) U U (ints (allBytes (pre.map vals))) (lastOf (-2) (pre.map vals)) (total (pre.map vals) : Nat))
    (fun c' pre _ => c' = .ret ∧ ¬ good s (-2) (pre.map vals))
    (fun pre A B row hs hg hr => ⟨hs.1, by obtain ⟨V, U, hb⟩ := hs.2; exact ⟨V, U, hb.own hg (fun r e => ⟨by have := (hr r e).1; omega, (hr r e).2⟩)⟩⟩)
    (fun _ _ _ _ _ hs _ _ => hs)
    ⟨trivial, _, _, HBK.out⟩
    (fun x => { tmps := #[.agg #[.int .u64 (Oct.word s 0 : Nat), .int .u64 (Oct.word s 1 : Nat), .int .u64 (Oct.word s 2 : Nat), .int .u64 (Oct.word s 3 : Nat)], .pointer (some ⟨w.heap.size, 0, none⟩), .pointer (some ⟨w.heap.size + 1, 0, none⟩), .pointer (some ⟨X, 0, none⟩), .pointer (some ⟨X + 1, 0, none⟩), .pointer (some ⟨X + 1 + 1, 0, none⟩), .pointer (some ⟨X + 1 + 1 + 1, 0, none⟩), .int .u8 (x.1.val : Nat), .int .u8 (x.2.val : Nat), undef, .bool true, .bool false, .agg #[.int .u64 (Oct.word s 0 : Nat), .int .u64 (Oct.word s 1 : Nat), .int .u64 (Oct.word s 2 : Nat), .int .u64 (Oct.word s 3 : Nat)], .func (.func 28) #[] #[.pointer (some ⟨X + 1 + 1 + 1 + 1, 0, none⟩)], .int .u8 (x.1.val : Nat), .int .u8 (x.2.val : Nat), undef, undef, undef, undef, undef, undef, undef, undef, undef, undef, undef, undef, undef, undef, undef, undef, undef, undef, undef, undef, undef, undef, undef, undef, undef, undef, undef, undef, undef, undef, undef, undef, undef, undef, undef, undef, undef, undef, undef, undef, undef, undef, undef, undef, undef, undef, undef, undef, undef, undef, undef, undef, undef, undef, undef, undef, undef, undef, undef, undef], defers := [] }) ?assign ?body ?done ?stop
  case assign =>
    intro l x W K hK
    gi_wp2
    exact hK
  case body =>
    rintro l pre x W ⟨hgood, V, U, hb⟩ hlt
    obtain ⟨L, hL⟩ : ∃ L, L = pre.map vals := ⟨_, rfl⟩
    have hmap : (pre ++ [x]).map vals = L ++ [vals x] := by rw [hL]; simp
    have hbnd : ∀ y ∈ L, y.2 < 256 := by rw [hL]; exact vals_lt pre
    have hLl : L.length < 256 := by rw [hL, List.length_map]; exact hlt
    have hLr := lastOf_range hbnd
    have hTr := total_le hbnd
    rw [← hL] at hgood hb
    have HG : Hid (good s (-2) (L ++ [vals x]) ↔ good s (-2) L ∧ (lastOf (-2) L + 1 < (x.1.val : Int) ∧ x.1.val ≤ x.2.val ∧ ∀ b, x.1.val ≤ b → b ≤ x.2.val → s b = true)) := good_snoc s (-2) L (vals x)
    have HM : Hid ((pre ++ [x]).map vals = L ++ [vals x]) := hmap
    obtain ⟨la, hla⟩ : ∃ la, la = lastOf (-2) L := ⟨_, rfl⟩
    obtain ⟨N, hN⟩ : ∃ N, N = total L := ⟨_, rfl⟩
    rw [← hla] at hb HG hLr
    rw [← hN] at hb hTr
    have hNb : N ≤ 65536 := by omega
    have HLA : Hid (la = lastOf (-2) L) := hla
    have HNN : Hid (N = total L) := hN
    have HLL : Hid (L.length < 256) := hLl
    have HVL0 : Hid (∀ y ∈ L, y.2 < 256) := hbnd
    have HGD : Hid (good s (-2) L) := hgood.out
    have HBB : Hid (Bk w s X W V V (allSets L) U U (ints (allBytes L)) la (N : Nat)) := hb
    have hf := x.1.isLt
    have ht := x.2.isLt
    have hl1 := hLr.1
    have hl2 := hLr.2
    have c5 := hb.lst.cell
    have f5 := hb.lst.frozen
    have c6 := hb.num.cell
    have f6 := hb.num.frozen
    have c2 := hb.res.cell
    have f2 := hb.res.frozen
    clear hL hmap hbnd hLl hTr hgood hla hN hLr hb hlt
    have HBADI : Hid (¬ (la + 1 < (x.1.val : Int) ∧ x.1.val ≤ x.2.val ∧ ∀ b, x.1.val ≤ b → b ≤ x.2.val → s b = true) → ¬ good s (-2) ((pre ++ [x]).map vals)) := fun h hg => h (HG.out.1 (by rw [← HM.out]; exact hg)).2
    by_cases h1 : la + 1 < (x.1.val : Int)
    · by_cases h2 : x.1.val ≤ x.2.val
      · have h2' : (x.1.val : Int) ≤ (x.2.val : Int) := by omega
        gi_wp2
        have hb2 := (HBB.out.setLast (x.2.val : Int)).setNum ((N : Int) + x.2.val - x.1.val + 1)
        have hlen : (allSets L).length ≤ 1000 := by have := HLL.out; simp [allSets]; omega
        have HKO2 : Hid (KeepsOthers W ((W.setCell ⟨X + 1 + 1, 0, none⟩ (.int .i64 (x.2.val : Int))).setCell ⟨X + 1 + 1 + 1, 0, none⟩ (.int .i64 ((N : Int) + x.2.val - x.1.val + 1)))) := (KeepsOthers.setCell _ _ _).trans (KeepsOthers.setCell _ _ _)
        refine reg14 (w := w) (s := s) (X := X) hf ht rfl rfl rfl rfl hb2 hlen ?_
        intro a' W3 R3 hfr hko hb3
        have HKO3 : Hid (KeepsOthers W W3) := HKO2.out.trans hko
        have HB3 : Hid (Bk w s X W3 R3 R3 (allSets L ++ [Oct.span x.1.val x.2.val]) U U (ints (allBytes L)) (x.2.val : Int) ((N : Int) + x.2.val - x.1.val + 1)) := hb3
        rw [fr6_lit hfr rfl]
        obtain ⟨v36, e36⟩ : ∃ v, v = T a' 36 := ⟨_, rfl⟩
        obtain ⟨v37, e37⟩ : ∃ v, v = T a' 37 := ⟨_, rfl⟩
        obtain ⟨v38, e38⟩ : ∃ v, v = T a' 38 := ⟨_, rfl⟩
        obtain ⟨v39, e39⟩ : ∃ v, v = T a' 39 := ⟨_, rfl⟩
        obtain ⟨v40, e40⟩ : ∃ v, v = T a' 40 := ⟨_, rfl⟩
        obtain ⟨v41, e41⟩ : ∃ v, v = T a' 41 := ⟨_, rfl⟩
        rw [← e36, ← e37, ← e38, ← e39, ← e40, ← e41]
        have HVL : Hid (∀ y ∈ L, y.2 < 256) := HVL0.out
        have HCW : Hid (SB W (X + 1 + 1 + 1 + 1) s) := HBB.out.cap
        clear e36 e37 e38 e39 e40 e41 hfr hko hb3 hb2 hlen HKO2 HBB c5 f5 c6 f6 c2 f2
        gi_wp2
        gi_loopw [9] (fun i u => ∃ k : Nat, x.1.val ≤ k ∧ k ≤ x.2.val + 1 ∧ i = .int .i64 k ∧ Hid (KeepsOthers W u) ∧ Hid (∀ b, x.1.val ≤ b → b < k → s b = true) ∧ ∃ U2, Hid (Bk w s X u R3 R3 (allSets L ++ [Oct.span x.1.val x.2.val]) U2 U2 (ints (allBytes L ++ List.range' x.1.val (k - x.1.val))) (x.2.val : Int) ((N : Int) + x.2.val - x.1.val + 1)))
          (fun i _ => x.2.val + 1 - (intOf i).toNat)
        case atStart => exact ⟨x.1.val, Nat.le_refl _, by omega, rfl, HKO3, fun b h3 h4 => by omega, U, by show Bk _ _ _ _ _ _ _ _ _ _ _ _; simpa using HB3.out⟩
        case round =>
          clear HKO3 HB3
          obtain ⟨k, hk1, hk2, rfl, hko4, hall, U2, hb4⟩ := hrel
          by_cases hle : k ≤ x.2.val
          · have hk256 : k < 256 := by omega
            have hle' : (k : Int) ≤ (x.2.val : Int) := by omega
            obtain ⟨c0, c1, c2, c3⟩ := hb4.out.set.cells
            cases hs : s k with
            | true =>
              have HSK : Hid (s k = true) := hs
              clear hs
              gi_wp2
              refine ⟨trivial, ?_⟩
              refine (CallsIn.inRound l (callsIn_wide.2 (has_gen s k _ hk256))).mono ?_
              rintro e w4 ⟨rfl, k4⟩
              rw [HSK.out]
              have HKO5 : Hid (KeepsOthers W w4) := hko4.out.trans (keeps_below k4)
              have hb5 := hb4.out.later k4
              have HB5 : Hid (Bk w s X w4 R3 R3 (allSets L ++ [Oct.span x.1.val x.2.val]) U2 U2 (ints (allBytes L ++ List.range' x.1.val (k - x.1.val))) (x.2.val : Int) ((N : Int) + x.2.val - x.1.val + 1)) := hb5
              have b4c : w4.cell? ⟨X + 1, 0, none⟩ = _ := hb5.bytes.cell
              have hkal : Below w4.heap.size w4 (w4.alloc (.cells #[.int .u8 (k : Nat)] 5)) := (Below.refl _ _).alloc (Nat.le_refl _) _
              have hb6 := hb5.later hkal
              have HB6 : Hid (Bk w s X (w4.alloc (.cells #[.int .u8 (k : Nat)] 5)) R3 R3 (allSets L ++ [Oct.span x.1.val x.2.val]) U2 U2 (ints (allBytes L ++ List.range' x.1.val (k - x.1.val))) (x.2.val : Int) ((N : Int) + x.2.val - x.1.val + 1)) := hb6
              have HKO6 : Hid (KeepsOthers W (w4.alloc (.cells #[.int .u8 (k : Nat)] 5))) := HKO5.out.trans (keeps_below hkal)
              have HBY : Hid (BytesI (w4.alloc (.cells #[.int .u8 (k : Nat)] 5)) (some ⟨w4.heap.size, 0, none⟩) [(k : Int)]) := Or.inr ⟨w4.heap.size, 0, rfl, fun j hj => by
                have : j = 0 := by simp at hj; omega
                subst this
                rw [World.cell?_alloc_mark]; rfl⟩
              have HLEN : Hid ((ints (allBytes L ++ List.range' x.1.val (k - x.1.val))).length + [(k : Int)].length ≤ 140737488355328) := by
                have h1 := allBytes_len L (HVL.out) HLL.out
                show _ ≤ _
                rw [ints_length, List.length_append, List.length_range']
                simp
                omega
              have HSZ : Hid (X + 5 ≤ (w4.alloc (.cells #[.int .u8 (k : Nat)] 5)).heap.size) := by have := hb6.cap.lt; show _ ≤ _; omega
              clear hb5 hb6 hkal k4 c0 c1 c2 c3
              gi_wp2_with (gi_at_builtin; refine wpListIn_append_bytesN rfl _ _ rfl (X + 5) U2 _ rfl HB6.out.byte (some ⟨w4.heap.size, 0, none⟩) 1 1 [(k : Int)] rfl rfl HBY.out HLEN.out HSZ.out ?_; intro v5 w5 ho5 hg5; obtain ⟨a5, cap5, e5, _⟩ := ho5.form; have hb7 := HB6.out.growBytes hg5 ho5; have HB7 : Hid (Bk w s X w5 R3 R3 (allSets L ++ [Oct.span x.1.val x.2.val]) U2 v5 (ints (allBytes L ++ List.range' x.1.val (k - x.1.val)) ++ [(k : Int)]) (x.2.val : Int) ((N : Int) + x.2.val - x.1.val + 1)) := hb7; have HKO7 : Hid (KeepsOthers W w5) := HKO6.out.trans (keeps_grown hg5 (fun r e => by obtain ⟨_, cur, hc⟩ := HB6.out.byte.isCells e; exact ⟨cur, 5, hc⟩)); have b7c : w5.cell? ⟨X + 1, 0, none⟩ = _ := hb7.bytes.cell; have b7f : w5.frozen? ⟨X + 1, 0, none⟩ = _ := hb7.bytes.frozen; clear ho5 hg5 hb7; subst e5)
              go_roundw
              case rel =>
                refine ⟨k + 1, by omega, by omega, by go_num, ?_, fun b h3 h4 => ?_, .slice a5 (ints (allBytes L ++ List.range' x.1.val (k - x.1.val)) ++ [(k : Int)]).length cap5, ?_⟩
                · exact HKO7.out.trans (KeepsOthers.setCell w5 _ _)
                · by_cases e : b = k
                  · rw [e]; exact HSK.out
                  · exact hall.out b h3 (by omega)
                · have h8 := HB7.out.setBytes (.slice a5 (ints (allBytes L ++ List.range' x.1.val (k - x.1.val)) ++ [(k : Int)]).length cap5)
                  have e : ints (allBytes L ++ List.range' x.1.val (k - x.1.val)) ++ [(k : Int)] = ints (allBytes L ++ List.range' x.1.val (k + 1 - x.1.val)) := by
                    rw [show k + 1 - x.1.val = k - x.1.val + 1 by omega, List.range'_concat]
                    simp [ints]
                    omega
                  rw [← e]
                  simp only [List.length_append, List.length_cons, List.length_nil, Nat.zero_add] at h8 ⊢
                  exact h8
              case measure => simp [intOf]; omega
            | false =>
              have HSK : Hid (s k = false) := hs
              clear hs
              gi_wp2
              refine ⟨trivial, ?_⟩
              refine (CallsIn.inRound l (callsIn_wide.2 (has_gen s k _ hk256))).mono ?_
              rintro e w4 ⟨rfl, k4⟩
              rw [HSK.out]
              have HKO5 : Hid (KeepsOthers W w4) := hko4.out.trans (keeps_below k4)
              have hb5 := hb4.out.later k4
              have r4c : w4.cell? ⟨w.heap.size + 1, 0, none⟩ = _ := hb5.res.cell
              have r4f : w4.frozen? ⟨w.heap.size + 1, 0, none⟩ = _ := hb5.res.frozen
              clear hb5 k4 c0 c1 c2 c3
              gi_wp2
              exact ⟨HKO5.out.trans (KeepsOthers.setCell _ _ _), rfl, HBADI.out (fun h => by have := h.2.2 k hk1 hle; rw [HSK.out] at this; cases this)⟩
          · have HKE : Hid (k = x.2.val + 1) := by show _ = _; omega
            have hgt : (x.2.val : Int) < (k : Int) := by omega
            gi_wp2
            refine ⟨hko4.out, hb4.out.cap.trans HCW.out.symm, ?_, R3, U2, ?_⟩
            · show good _ _ _
              rw [HM.out]
              exact HG.out.2 ⟨HGD.out, h1, h2, fun b h3 h4 => hall.out b h3 (by have := HKE.out; omega)⟩
            · have h9 := hb4.out
              rw [HKE.out] at h9
              have e1 : allSets ((pre ++ [x]).map vals) = allSets L ++ [Oct.span x.1.val x.2.val] := by rw [HM.out, allSets_snoc]; rfl
              have e2 : allBytes ((pre ++ [x]).map vals) = allBytes L ++ List.range' x.1.val (x.2.val + 1 - x.1.val) := by rw [HM.out, allBytes_snoc]; rfl
              have e3 : lastOf (-2) ((pre ++ [x]).map vals) = (x.2.val : Int) := by rw [HM.out, lastOf_snoc]; rfl
              have e4 : ((total ((pre ++ [x]).map vals) : Nat) : Int) = (N : Int) + x.2.val - x.1.val + 1 := by
                rw [HM.out, total_snoc, ← HNN.out]
                simp only [vals]
                omega
              rw [e1, e2, e3, e4]
              exact h9
      · have h2' : (x.2.val : Int) < (x.1.val : Int) := by omega
        gi_wp2
        exact ⟨KeepsOthers.setCell _ _ _, rfl, HBADI.out (fun h => by omega)⟩
    · have h1' : (x.1.val : Int) ≤ la + 1 := by omega
      gi_wp2
      exact ⟨KeepsOthers.setCell _ _ _, rfl, HBADI.out (fun h => by omega)⟩
  case done =>
    rintro D ys W hD hys ⟨hgood, V, U, hb⟩ hK
    have hm : ys.map vals = refRows s 256 := by rw [hys]; exact rows_ref s
    rw [hm] at hb
    have HBT : Hid (Bt w s X W V U W) := ⟨KeepsOthers.refl _, hb.bel, hb.set, hb.rows, hb.row, hb.bytes, hb.byte, by have h := hb.num; rw [ref_total] at h; exact h, ⟨_, hb.res⟩, hb.ord⟩
    clear hm hb hgood hys
    go_upto_region 21 with fail
    refine reg21 (w := w) (s := s) (X := X) rfl rfl rfl rfl rfl rfl HBT.out ?_
    intro a' W' hfr hbt hres
    rename_i hK2
    refine hK2 _ _ (wp_ret ?_)
    have hT2 : a'.tmps[2]?.getD undef = .pointer (some ⟨w.heap.size + 1, 0, none⟩) := fr_T hfr (k := 2) (by decide)
    have hdf := hfr.2.1
    have hK' := hbt.ko.same D _ hK rfl
    obtain ⟨tmps, defers⟩ := a'
    simp only at hdf hT2
    subst hdf
    refine ⟨by simp, .inl ⟨_, _, rfl, run_takeDeferred hK', ?_⟩⟩
    have hc5 := cell_kept hres.cell (grownBy_putObj' _ D (.deferred none)) (fun r e => by cases e; exact ⟨_, hK', rfl⟩)
    refine ⟨.bool true, ?_, rfl, hbt.bel.trans (belowK_b (w := w) (Nat.le_refl _) _ D _ _ (by have := hbt.ord; omega) hK' rfl rfl)⟩
    simp [results, Try.results3, go_sem, hc5, hT2]
  case stop =>
    rintro D c' pre W hD ⟨k', hk', hpre⟩ ⟨rfl, hx⟩ hK
    refine absurd ?_ hx
    rw [hpre]
    exact good_prefix (rows_vals s k' hk') (ref_good s 256)
end Go.Proofs.Ytkgpmaclaahmbaa
