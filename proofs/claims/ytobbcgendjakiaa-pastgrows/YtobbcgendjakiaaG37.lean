/- past: Lines. -/
import Derived.Test.YtobbcgendjakiaaG31
import Derived.Test.YtobbcgendjakiaaG36
import Derived.Laws.BytesArg
namespace Go.Proofs.Ytobbcgendjakiaa
open Go.RowKit Go.Shelf Go.Maps Sf
attribute [local go_sem] Oper.semAt_some

theorem conv_uv {w : World} {V : Value} {l : List UInt8} (h : LAt w V (uv l)) : (convert 63 9 V).run Try.prog w = .ok (.string ⟨l.toArray⟩) w := by
  obtain ⟨a, c, rfl, _, _, h3⟩ := h
  rw [uv_len]
  have es : strOfNums (l.map fun b => ((b.toNat : Nat) : Int)) = ⟨l.toArray⟩ := by unfold strOfNums; simp [List.map_map, Function.comp_def]
  rcases h3 with h3 | ⟨b, off, rfl, hc⟩
  · have hl : l = [] := by unfold uv at h3; exact List.map_eq_nil_iff.1 h3
    subst hl
    cases a with
    | none => exact run_convert_bytes_nil w 63 5 (by kernel_rfl) Try.underlying5 0 c 9 Try.underlying9
    | some ad =>
      rw [show ([] : List UInt8).length = 0 from rfl, run_convert_bytes_string w 63 9 5 _ _ _ (by kernel_rfl) Try.underlying5 Try.underlying9]
      have hl : (loadCells ad 0).run Try.prog w = .ok (([] : List Int).map (Value.int .u8)).toArray w := run_loadCells_list (P := Try.prog) w ad [] (fun j v hj => by simp at hj)
      exact run_bytesToString w ad 0 c [] hl
  · rw [← es]
    exact run_convert_bytes_arg w 63 5 (by kernel_rfl) Try.underlying5 b off l.length c (l.map fun b => ((b.toNat : Nat) : Int)) (by simp) (fun i hi => by rw [hc i (.int .u8 (l[i].toNat : Nat)) (by simp [uv, hi])]; simp [hi]) 9 Try.underlying9
def lnS (l : List (Nat × List UInt8)) : List Value := l.map fun x => Value.string ⟨x.2.toArray⟩
def lnI (l : List (Nat × List UInt8)) : List Value := l.map fun x => Value.int .i64 (x.1 : Nat)
theorem lnS_snoc (l : List (Nat × List UInt8)) (x : Nat × List UInt8) : lnS (l ++ [x]) = lnS l ++ [.string ⟨x.2.toArray⟩] := by unfold lnS; rw [List.map_append]; rfl
theorem lnI_snoc (l : List (Nat × List UInt8)) (x : Nat × List UInt8) : lnI (l ++ [x]) = lnI l ++ [.int .i64 (x.1 : Nat)] := by unfold lnI; rw [List.map_append]; rfl
theorem app_keep {W w1 : World} {ob : Obj} {q : Option Nat} {A : Nat} {V' : Value} (hgrow : (W.alloc ob).grownBy w1 q) {k : Nat} (hk : k < W.heap.size) (hq : some k ≠ q) (hA : k ≠ A) : (w1.setCell ⟨A, 0, none⟩ V').heap[k]? = W.heap[k]? := by
  rw [Below.heap_setCell w1 ⟨A, 0, none⟩ V' k hA, hgrow.block k (by rw [World.size_alloc]; omega) hq]
  exact Below.heap_alloc W ob k hk
theorem row_not {W : World} {n₀ : Nat} {e : TypeId} {v : Value} {m : Nat} {xs : List Value} (h : W.ownsRow n₀ e 1 v m xs) {k : Nat} {cs : Array Value} {t : TypeId} (hk : W.heap[k]? = some (.cells cs t (0, 0))) (ht : t ≠ e) : some k ≠ v.ownBlock := fun x => by
  rcases h.2 with ⟨rfl, _⟩ | ⟨g, cap, cur, rfl, _, hg, _⟩
  · cases x
  · have : k = g := Option.some.inj x
    subst this
    rw [hk] at hg
    injection hg with hg
    injection hg with _ h2 _
    exact ht h2
theorem row_app {W u1 : World} {ob : Obj} {n₀ : Nat} {e1 e2 : TypeId} {v1 v2 : Value} {m1 m2 : Nat} {xs1 xs2 : List Value} {A : Nat} {t : TypeId} {x V' : Value} (r1 : W.ownsRow n₀ e1 1 v1 m1 xs1) (r2 : W.ownsRow n₀ e2 1 v2 m2 xs2) (he : e2 ≠ e1) (hA : Boxed W A t x) (ht : t ≠ e2) (hgrow : (W.alloc ob).grownBy u1 v1.ownBlock) : (u1.setCell ⟨A, 0, none⟩ V').ownsRow n₀ e2 1 v2 m2 xs2 :=
  ownsRow_keep r2 (fun g hg _ hl => app_keep hgrow hl (by
    rcases r2.2 with ⟨rfl, _⟩ | ⟨g', cap, cur, rfl, _, hh, _⟩
    · simp [Value.ownBlock] at hg
    · have : g' = g := Option.some.inj hg
      subst this
      exact row_not r1 hh he) (fun e => row_not r2 hA ht (by rw [hg, e])))
theorem own_ne {W : World} {B : Nat} {t : TypeId} {v : Value} {row : Option Nat} (h : Boxed W B t v) (hr : ∀ r, row = some r → ∃ o : Obj, W.heap[r]? = some o ∧ o.isCells = false) : some B ≠ row := by
  intro e
  obtain ⟨o, ho, hc⟩ := hr B e.symm
  rw [show W.heap[B]? = _ from h] at ho
  cases ho
  simp [Obj.isCells] at hc
set_option maxRecDepth 100000 in
set_option maxHeartbeats 4000000 in
theorem lines_walk {w : World} {B ms : Nat} (x y : Int) (va : Option Addr) (n b c : Nat) (bs : List UInt8) (cB : w.cell? ⟨B, 0, none⟩ = some (.map (some ms))) (hg : ∀ u, Below w.heap.size w u → (Instr.lookup 73 (.map (some ms)) (.agg #[.int .i64 x, .int .i64 y]) false).run Try.prog u = .ok (.slice va n c) u)
    (hla : bs = [] ∨ (LAt w (.slice (some ⟨b, 0, none⟩) n c) (uv bs) ∧ b < w.heap.size)) (hst : ∀ u A, u.heap[A]? = some (.cells #[.slice va n c] 72 (0, 0)) → Below w.heap.size w u → SeqStopsK Fence.wide (4 - 1) Try.prog 48 #[.pointer (some ⟨A, 0, none⟩)] (encL b c bs) (KpL w.heap.size A) (fun xs => lnV xs = lines bs) (fun _ => True) 1048576 u) :
    Calls Try.prog 8 #[.pointer (some ⟨B, 0, none⟩), .int .i64 x, .int .i64 y] w fun e W' => ∃ V1 V2, e = .returned (.tuple #[V1, V2]) ∧ W'.ownsRow w.heap.size 9 1 V1 (lines bs).length (lnS (lines bs)) ∧ W'.ownsRow w.heap.size 3 1 V2 (lines bs).length (lnI (lines bs)) ∧ Below w.heap.size w W' := by
  obtain ⟨n₀, hn₀⟩ : ∃ n₀, w.heap.size = n₀ := ⟨_, rfl⟩
  obtain ⟨w1, hw1⟩ : ∃ w1, w.alloc (.cells #[.slice none 0 0] 38) = w1 := ⟨_, rfl⟩
  obtain ⟨w2, hw2⟩ : ∃ w2, w1.alloc (.cells #[.slice none 0 0] 34) = w2 := ⟨_, rfl⟩
  obtain ⟨w3, hw3⟩ : ∃ w3, w2.alloc (.cells #[.slice va n c] 72) = w3 := ⟨_, rfl⟩
  have z1 : w1.heap.size = n₀ + 1 := by rw [← hw1, ← hn₀]; simp
  have z2 : w2.heap.size = n₀ + 2 := by rw [← hw2]; simp [z1]
  have z3 : w3.heap.size = n₀ + 3 := by rw [← hw3]; simp [z2]
  have k1 : Below w.heap.size w w1 := by rw [← hw1]; exact (Below.refl _ _).alloc (Nat.le_refl _) _
  have k2' : Below w1.heap.size w1 w2 := by rw [← hw2]; exact (Below.refl _ _).alloc (Nat.le_refl _) _
  have k3' : Below w2.heap.size w2 w3 := by rw [← hw3]; exact (Below.refl _ _).alloc (Nat.le_refl _) _
  have k2 : Below w.heap.size w w2 := below_step k1 k2'
  have k3 : Below w.heap.size w w3 := below_step k2 k3'
  have bS : Boxed w3 n₀ 38 (.slice none 0 0) := by
    have h := Boxed.new w 38 (.slice none 0 0)
    rw [hw1, hn₀] at h
    exact (k3'.block _ (by omega)).trans ((k2'.block _ (by omega)).trans h)
  have bI : Boxed w3 (n₀ + 1) 34 (.slice none 0 0) := by
    have h := Boxed.new w1 34 (.slice none 0 0)
    rw [hw2, z1] at h
    exact (k3'.block _ (by omega)).trans h
  have bT : Boxed w3 (n₀ + 2) 72 (.slice va n c) := by
    have h := Boxed.new w2 72 (.slice va n c)
    rw [hw3, z2] at h
    exact h
  have HST : Hid (SeqStopsK Fence.wide (4 - 1) Try.prog 48 #[.pointer (some ⟨n₀ + 2, 0, none⟩)] (encL b c bs) (KpL n₀ (n₀ + 2)) (fun xs => lnV xs = lines bs) (fun _ => True) 1048576 w3) := by have x := hst w3 (n₀ + 2) bT k3; rw [hn₀] at x; exact x
  have hg2 := hg w2 k2
  have cB2 : w2.cell? ⟨B, 0, none⟩ = some (.map (some ms)) := cell_later k2 _ _ _ cB
  have HLA : Hid (bs = [] ∨ (LAt w (.slice (some ⟨b, 0, none⟩) n c) (uv bs) ∧ b < n₀)) := by rw [hn₀] at hla; exact hla
  have HW : Hid (w.alloc (.cells #[.slice none 0 0] 38) = w1 ∧ w1.alloc (.cells #[.slice none 0 0] 34) = w2 ∧ w2.alloc (.cells #[.slice va n c] 72) = w3 ∧ w.heap.size = n₀ ∧ w1.heap.size = n₀ + 1 ∧ w2.heap.size = n₀ + 2) := ⟨hw1, hw2, hw3, hn₀, z1, z2⟩
  have H0 : Hid (Boxed w3 n₀ 38 (.slice none 0 0) ∧ Boxed w3 (n₀ + 1) 34 (.slice none 0 0) ∧ Boxed w3 (n₀ + 2) 72 (.slice va n c) ∧ Below n₀ w w3) := ⟨bS, bI, bT, by rw [← hn₀]; exact k3⟩
  obtain ⟨i0, hi, hz0, hz1, hz2⟩ := info_parts infS
  obtain ⟨j0, hj, hy0, hy1, hy2⟩ := info_parts infI3
  rw [hn₀]
  have HN0 : Hid (w.heap.size = n₀) := hn₀
  clear hw1 hw2 hw3 z1 z2 k1 k2 k2' k3 k3' bS bI bT hg hst hla cB hn₀
  refine (callsIn_wide (n := 4)).1 ?_
  refine callsIn_of_wp_marks Try.func8 rfl trivial ?_ rfl
  simp only [Try.ntmps8, List.size_toArray, List.length_cons, List.length_nil, Nat.reduceAdd, Nat.reduceSub, Array.replicate_succ, Array.replicate_zero, List.push_toArray, List.append_toArray, List.nil_append, List.cons_append]
  rw [← HW.out.2.1, ← HW.out.1] at cB2 hg2
  gi_wp2
  refine ⟨trivial, ?_⟩
  rw [HW.out.1, HW.out.2.1, HW.out.2.2.2.1]
  refine (callsIn_wide.2 (whole_any va n c w2)).mono ?_
  rintro e w4 ⟨rfl, rfl⟩
  clear cB2 hg2
  rw [HW.out.2.2.1, HW.out.2.2.2.2.2]
  gi_wp2
  refine wpIn_rangeFunc_ownG rfl (by omega) (gf := 48) (lb := #[.pointer (some ⟨n₀ + 2, 0, none⟩)]) rfl trivial (enters_of Try.func48 (by kernel_rfl) rfl)
    HST.out kpL_t (kpL_b (by omega) (by omega)) (Below.refl _ _) (fun _ => rfl)
    (fun pre W => (((∃ v, Boxed W n₀ 38 v ∧ W.ownsRow n₀ 9 1 v (lnV pre).length (lnS (lnV pre)) ∧ True) ∧ (∃ v, Boxed W (n₀ + 1) 34 v ∧ W.ownsRow n₀ 3 1 v (lnV pre).length (lnI (lnV pre)) ∧ True)) ∧ Boxed W (n₀ + 2) 72 (.slice va n c)) ∧ Below n₀ w W)
    (fun _ _ _ => False)
    (OwnFrom.and (OwnFrom.and (OwnFrom.and (Own.from (holdsRow_own n₀ n₀ 38 9 1 (fun pre => (lnV pre).length) (fun pre => lnS (lnV pre)) (fun _ _ => True)) _) (Own.from (holdsRow_own n₀ (n₀ + 1) 34 3 1 (fun pre => (lnV pre).length) (fun pre => lnI (lnV pre)) (fun _ _ => True)) _)) (Own.from (fun s A B row hs hg hr => hs.kept hg (own_ne hs hr)) _)) (ownFrom_below (by rw [HN0.out]; exact Nat.le_refl _) (by omega)))
    (fun _ _ _ _ _ hs _ _ => hs)
    ⟨⟨⟨⟨_, H0.out.1, World.ownsRow_nil _ _ _ _, trivial⟩, ⟨_, H0.out.2.1, World.ownsRow_nil _ _ _ _, trivial⟩⟩, H0.out.2.2.1⟩, H0.out.2.2.2⟩
    (fun x' => { tmps := #[.pointer (some ⟨B, 0, none⟩), .int .i64 x, .int .i64 y, undef, undef, undef, .slice none 0 0, .slice none 0 0, .pointer (some ⟨n₀, 0, none⟩), .pointer (some ⟨n₀ + 1, 0, none⟩), .int .i64 (x'.val.1 : Nat), .slice (some ⟨b, x'.val.1, none⟩) x'.val.2.length (c - x'.val.1), .pointer (some ⟨B, 0, none⟩), .pointer (some ⟨B, 0, none⟩), .pointer (some ⟨B, 0, none⟩), .map (some ms), .int .i64 x, .int .i64 y, .agg #[.int .i64 x, .int .i64 y], .slice va n c, .func (.func 48) #[] #[.pointer (some ⟨n₀ + 2, 0, none⟩)], .int .i64 (x'.val.1 : Nat), .slice (some ⟨b, x'.val.1, none⟩) x'.val.2.length (c - x'.val.1), undef, undef, undef, undef, undef, undef, undef, undef, undef, undef, undef], defers := [] }) ?assign ?body ?done ?stop
  case assign =>
    intro l x' W K hK
    gi_wp2
    exact hK
  case body =>
    rintro l pre ⟨⟨pl, a⟩, hr⟩ W ⟨⟨⟨⟨v1, b1, r1, _⟩, ⟨v2, b2, r2, _⟩⟩, bT⟩, hB⟩ hlt
    have hla : LAt W (.slice (some ⟨b, pl, none⟩) a.length (c - pl)) (uv a) := by
      obtain ⟨r, hr⟩ := hr
      simp only at hr
      rcases HLA.out with h0 | ⟨h1, _⟩
      · rw [h0] at hr
        simp at hr
      · have h1' := h1
        obtain ⟨a', c', e', g1, g2, _⟩ := h1
        have hbl : bs.length = n := by cases e'; rw [uv_len]
        have hln : bs.length - pl = a.length + (r.length + 1) := by
          have := congrArg List.length hr
          rw [List.length_drop, List.length_append, List.length_cons] at this
          exact this
        have h2 : LAt W (.slice (some ⟨b, 0, none⟩) n c) (uv bs) := h1'.later (by rw [HN0.out]; exact hB)
        have x := lat_at (M := pl) (T := a.length) (x := pl) h2 (by omega) (.inr rfl) (by omega)
        rw [← uv_drop, hr, ← uv_take, List.take_left] at x
        exact x
    have hcv := conv_uv hla
    obtain ⟨m, hm⟩ : ∃ m, (lnV pre).length = m := ⟨_, rfl⟩
    have hml : m < 1048576 := by rw [← hm, lnV_length]; exact hlt
    rw [hm] at r1 r2
    have HM : Hid ((lnV pre).length = m) := hm
    clear hm hlt
    have HSN : Hid (lnV (pre ++ [⟨(pl, a), hr⟩]) = lnV pre ++ [(pl, a)]) := lnV_snoc pre _
    have hmx : 20000000000000 ≤ maxLen := by decide
    have hc1 := b1.cell
    clear hla
    gi_wp2_with (first
      | (gi_at_builtin; refine wpListIn_append_own _ rfl _ _ 38 rfl n₀ 9 i0 (.string ⟨#[]⟩) 1 16 Try.underlying38 hi hz0 hz1 hz2 rfl (by decide) _ _ _ rfl (r1.alloc _) ⟨W.heap.size, 0, none⟩ 1 1 [.string ⟨a.toArray⟩] rfl rfl (cell_one_new _ _ _) (by simp [Value.oneCell']) (by omega) (by omega) (by have := hB.size; have := HN0.out; simp; omega) ?_; intro v' u1 hown' hgrow _; obtain ⟨g', cap', rfl⟩ := ownsRow_succ hown'; obtain ⟨q1, q2, q3, q4, q5⟩ := b1.appended (by decide) r1 (by have := hB.size; rw [← HN0.out]; exact this) (Nat.le_refl _) hown' hgrow; have hc1' := q1.cell; have hf1' := q1.frozen; have b2' : Boxed (u1.setCell ⟨n₀, 0, none⟩ (.slice (some ⟨g', 0, none⟩) (m + 1) cap')) (n₀ + 1) 34 v2 := (app_keep hgrow b2.lt (row_not r1 b2 (by decide)) (by omega)).trans b2; have bT' : Boxed (u1.setCell ⟨n₀, 0, none⟩ (.slice (some ⟨g', 0, none⟩) (m + 1) cap')) (n₀ + 2) 72 (.slice va n c) := (app_keep hgrow bT.lt (row_not r1 bT (by decide)) (by omega)).trans bT; have r2' := row_app (V' := .slice (some ⟨g', 0, none⟩) (m + 1) cap') r1 r2 (by decide) b1 (by decide) hgrow; have hc2 := b2'.cell; have hone := cell_one_new (u1.setCell ⟨n₀, 0, none⟩ (.slice (some ⟨g', 0, none⟩) (m + 1) cap')) (.int .i64 (pl : Nat)) 3; rw [World.size_setCell] at hone)
      | (gi_at_builtin; refine wpListIn_append_own _ rfl _ _ 34 rfl n₀ 3 j0 (.int .i64 0) 1 8 Try.underlying34 hj hy0 hy1 hy2 rfl (by decide) _ _ _ rfl (r2'.alloc _) ⟨u1.heap.size, 0, none⟩ 1 1 [.int .i64 (pl : Nat)] rfl rfl hone (by simp [Value.oneCell']) (by omega) (by omega) (by have h1 := hB.size; have h2 := q5.size; have h3 := HN0.out; simp at h2 ⊢; omega) ?_; intro v'' u2 hown2 hgrow2 _; obtain ⟨g'', cap'', rfl⟩ := ownsRow_succ hown2; obtain ⟨p1, p2, p3, p4, p5⟩ := b2'.appended (by decide) r2' (by have h1 := hB.size; have h2 := q5.size; have h3 := HN0.out; omega) (Nat.le_succ _) hown2 hgrow2; have hc2' := p1.cell; have hf2' := p1.frozen))
    have bS3 := (app_keep (V' := .slice (some ⟨g'', 0, none⟩) (m + 1) cap'') hgrow2 q2.lt (row_not r2' q2 (by decide)) (show n₀ ≠ n₀ + 1 by omega)).trans q2
    have bT3 := (app_keep (V' := .slice (some ⟨g'', 0, none⟩) (m + 1) cap'') hgrow2 bT'.lt (row_not r2' bT' (by decide)) (show n₀ + 2 ≠ n₀ + 1 by omega)).trans bT'
    have r13 := row_app (V' := .slice (some ⟨g'', 0, none⟩) (m + 1) cap'') r2' q3 (by decide) b2' (by decide) hgrow2
    refine ⟨(q4.trans p4).from _, fun k hk => ?_, ⟨⟨⟨_, bS3, ?_, trivial⟩, ⟨_, p2, ?_, trivial⟩⟩, bT3⟩, hB.trans (q5.trans p5)⟩
    · rcases hk with hk | rfl
      · exact (q5.trans p5).block k hk
      · exact bT3.trans bT.symm
    · rw [HSN.out, lnS_snoc, List.length_append, HM.out]
      exact r13
    · rw [HSN.out, lnI_snoc, List.length_append, HM.out]
      exact p3
  case done =>
    rintro D ys W hD hys ⟨⟨⟨⟨v1, b1, r1, _⟩, ⟨v2, b2, r2, _⟩⟩, _⟩, hB⟩ hK
    rw [hys] at r1 r2
    clear hys
    have c1 := b1.cell
    have c2 := b2.cell
    obtain ⟨m, hm⟩ : ∃ m, (lines bs).length = m := ⟨_, rfl⟩
    rw [hm] at r1 r2
    have HM : Hid ((lines bs).length = m) := hm
    clear hm
    obtain ⟨va1, vc1, rfl⟩ := own_form r1
    obtain ⟨va2, vc2, rfl⟩ := own_form r2
    gi_wp2
    gi_region
    have HK2 : Hid (W.drew.heap[D]? = some (.deferred (some []))) := hK
    have HR : Hid (W.drew.ownsRow n₀ 9 1 (.slice va1 m vc1) m (lnS (lines bs)) ∧ W.drew.ownsRow n₀ 3 1 (.slice va2 m vc2) m (lnI (lines bs)) ∧ Below n₀ w W.drew) := ⟨r1, r2, hB.trans ((Below.refl _ W).drew)⟩
    gi_wp2
    refine ⟨by simp, .inl ⟨_, _, rfl, run_takeDeferred HK2.out, ?_⟩⟩
    refine ⟨_, results_tmp2 rfl _ _ _, _, _, rfl, ?_, ?_, ?_⟩
    · rw [HM.out]
      exact ownsRow_putObj HR.out.1 _ HK2.out rfl
    · rw [HM.out]
      exact ownsRow_putObj HR.out.2.1 _ HK2.out rfl
    · exact HR.out.2.2.trans (belowK_b (w := w3) (by omega) W.drew D _ _ hD HK2.out rfl rfl)
  case stop =>
    rintro D c pre W _ _ h _
    exact h.elim
theorem lines_any {P : Nat → Prop} {w : World} {B C : Nat} {p : Pv} (h : Pst P w B p C) (x y : Int) (hx : goodI x) (hy : goodI y) :
    Calls Try.prog 8 #[.pointer (some ⟨B, 0, none⟩), .int .i64 x, .int .i64 y] w fun e W' => ∃ V1 V2, e = .returned (.tuple #[V1, V2]) ∧ W'.ownsRow w.heap.size 9 1 V1 (lines (p.sh (x, y))).length (lnS (lines (p.sh (x, y)))) ∧ W'.ownsRow w.heap.size 3 1 V2 (lines (p.sh (x, y))).length (lnI (lines (p.sh (x, y)))) ∧ Below w.heap.size w W' := by
  obtain ⟨L, hL, _⟩ := h.m
  obtain ⟨c0, _, _⟩ := hL.cells
  obtain ⟨V, hV0, hV, hVg⟩ := hL.textAt (x, y)
  have hgG : goodG (x, y) := ⟨hx, hy⟩
  have hlk : ∀ u, Below w.heap.size w u → (Instr.lookup 73 (.map (some L.ms)) (.agg #[.int .i64 x, .int .i64 y]) false).run Try.prog u = .ok V u := fun u hu => by
    have q := (hL.later hu).shm.get lawG (mt := 73) (e := 72) (by kernel_rfl) (by kernel_rfl) hgG (keyG _ hgG)
    rw [hV0] at q
    exact q
  have hlen := h.ok.sh (x, y)
  have hll : (lines (p.sh (x, y))).length ≤ 1048576 := Nat.le_trans (lns_len _ 0 []) hlen
  have hla := owns_lat hV
  rcases hV.2 with ⟨e, h0⟩ | ⟨b, cap, cur, e, _, hh, _⟩
  · have hb : p.sh (x, y) = [] := List.eq_nil_of_length_eq_zero h0
    rw [e] at hlk
    rw [hb]
    exact lines_walk x y none 0 0 0 [] c0 hlk (.inl rfl) (fun u A hA _ => whole_none (4 - 1) (by omega) A u hA _ _)
  · rw [e] at hlk hla
    have hbl := (Array.getElem?_eq_some_iff.1 hh).1
    exact lines_walk x y (some ⟨b, 0, none⟩) _ b cap (p.sh (x, y)) c0 hlk (.inr ⟨hla, hbl⟩) (fun u A hA hu => whole_stops (4 - 1) (by omega) A b _ cap w.heap.size (p.sh (x, y)) u hbl hlen ⟨hA, hla.later hu⟩ _ hll)
end Go.Proofs.Ytobbcgendjakiaa
