/- heronlaw07's copied: a machine anew, a mark behind each of its lists. -/
import Derived.Test.YtjmbimgofceanaaG17
import Derived.Deep.AppendSrc
import Derived.Test.YtjmbimgofceanaaG09
import Derived.Test.YtjmbimgofceanaaG07
namespace Go.Proofs.Ytjmbimgofceanaa
open Go.RowKit
attribute [local go_sem ↓] Go.wp_at_zero Go.wp_at_succ

def markE : Eg := ⟨77, 0, 0, Oct.none⟩
theorem EAt.front {X : Nat → Prop} {w : World} {a : Option Addr} {es fs : List Eg} (h : EAt X w a (es ++ fs)) : EAt X w a es := by
  rcases h with h | ⟨b, off, ha, hX, hc⟩
  · exact Or.inl (List.append_eq_nil_iff.1 h).1
  · refine Or.inr ⟨b, off, ha, hX, fun j v hj => hc j v ?_⟩
    rw [flatE_append, List.getElem?_append_left (List.getElem?_eq_some_iff.1 hj).1]
    exact hj
theorem UAt.front {X : Nat → Prop} {w : World} {a : Option Addr} {rs ts : List Nat} (h : UAt X w a (rs ++ ts)) : UAt X w a rs := by
  rcases h with h | ⟨b, off, ha, hX, hc⟩
  · exact Or.inl (List.append_eq_nil_iff.1 h).1
  · refine Or.inr ⟨b, off, ha, hX, fun j v hj => hc j v ?_⟩
    rw [List.getElem?_append_left (List.getElem?_eq_some_iff.1 hj).1]
    exact hj
/-- A COPY OF A MACHINE, with a mark behind each list. -/
structure Cop (X : Nat → Prop) (w : World) (M : Ma) (y : Nf) : Prop where
  s : y.S = M.S
  n : y.en = M.es.length
  r : y.rn = M.rs.length
  e : EAt X w y.ea (M.es ++ [markE])
  u : UAt X w y.ra (M.rs ++ [77])
  ec : M.es.length + 1 ≤ y.ec ∧ y.ec ≤ maxLen
  rc : M.rs.length + 1 ≤ y.rc ∧ y.rc ≤ maxLen
theorem Cop.ma {X : Nat → Prop} {w : World} {M : Ma} {y : Nf} (h : Cop X w M y) : MaAt X w M y := ⟨h.s, h.n, h.r, h.e.front, h.u.front⟩
theorem Cop.keep {X Y : Nat → Prop} {w w' : World} {M : Ma} {x : Nf} (h : Cop X w M x) (hXY : ∀ b, X b → b < w.heap.size → Y b) (hk : ∀ b, X b → b < w.heap.size → w'.heap[b]? = w.heap[b]?) : Cop Y w' M x :=
  ⟨h.s, h.n, h.r, h.e.keep hXY hk, h.u.keep hXY hk, h.ec, h.rc⟩
theorem Cop.later {X : Nat → Prop} {w w' : World} {M : Ma} {x : Nf} (h : Cop X w M x) (hb : Below w.heap.size w w') : Cop X w' M x := h.keep (fun _ h _ => h) (fun b _ hlt => hb.block b hlt)
theorem run_append_edges (w : World) (ty : TypeId) (base g n c : Nat) (es : List Eg) (hn : es.length = n) (hown : RowE w base (.slice (some ⟨g, 0, none⟩) n c) es) {X : Nat → Prop} (a : Option Addr) (m cap : Nat) (fs : List Eg) (hm : fs.length = m) (hf : EAt X w a fs) (hl : n + m ≤ 20000000) (hb : base ≤ w.heap.size) :
    ∃ g' c' w', (Builtin.append_ #[35, 35] ty #[.slice (some ⟨g, 0, none⟩) n c, .slice a m cap]).run Try.prog w = .ok (.slice (some ⟨g', 0, none⟩) (n + m) c') w' ∧ RowE w' base (.slice (some ⟨g', 0, none⟩) (n + m) c') (es ++ fs) ∧ w.grownBy w' (some g) := by
  obtain ⟨i0, hi, hz0, hz1, hz2⟩ := info_parts infoE
  subst hn hm
  rcases hf with rfl | ⟨b, off, rfl, _, hc⟩
  · obtain ⟨a2, c2, hV, hc1, _⟩ := hown.form
    cases hV
    have hs : Src Try.prog i0.size 35 (.slice a 0 cap) 0 [] w := by
      cases a with
      | none => exact Src.ofNil w Try.underlying35 cap
      | some ad => exact Src.ofSlice w Try.underlying35 ad 0 cap [] (by simp) (fun j u hj => by simp at hj) (fun u hu => by cases hu)
    have hr := run_append_room_src (P := Try.prog) w 35 35 ty 57 i0 Try.underlying35 hi g 0 es.length c (.slice a 0 cap) 0 [] hs (by omega) (fun j hj => by simp at hj) (fun j hj => by simp at hj)
    exact ⟨g, c, _, hr, by simpa [World.setCells] using hown, by simpa [World.setCells] using (⟨rfl, rfl, rfl, Nat.le_refl _, fun _ _ _ => rfl⟩ : w.grownBy w _)⟩
  · by_cases hf0 : fs.length = 0
    · have hf1 : fs = [] := List.length_eq_zero_iff.1 hf0
      subst hf1
      obtain ⟨a2, c2, hV, hc1, _⟩ := hown.form
      cases hV
      have hs : Src Try.prog i0.size 35 (.slice (some ⟨b, off, none⟩) 0 cap) 0 [] w := Src.ofSlice w Try.underlying35 _ 0 cap [] (by simp) (fun j u hj => by simp at hj) (fun u hu => by cases hu)
      have hr := run_append_room_src (P := Try.prog) w 35 35 ty 57 i0 Try.underlying35 hi g 0 es.length c (.slice (some ⟨b, off, none⟩) 0 cap) 0 [] hs (by omega) (fun j hj => by simp at hj) (fun j hj => by simp at hj)
      exact ⟨g, c, _, hr, by simpa [World.setCells] using hown, by simpa [World.setCells] using (⟨rfl, rfl, rfl, Nat.le_refl _, fun _ _ _ => rfl⟩ : w.grownBy w _)⟩
    · obtain ⟨g', c', w', hr, ho, hg, hgg, hlt⟩ := run_append_lies (P := Try.prog) w 35 ty base 57 i0 _ 7 56 Try.underlying35 hi hz0 hz1 hz2 rfl (by decide) _ es.length _ hown ⟨b, off, none⟩ fs.length cap (flatE fs) (by rw [flatE_length, Nat.mul_comm])
        (fun j v hj => by rw [Go.WideShapes.add_plain]; exact hc j v hj) (flatE_one fs) (by omega) (by simp only [maxLen]; omega) (by omega) hb w.heap.size rfl
      refine ⟨g', c', w', hr, ?_, hg⟩
      unfold RowE
      rw [List.length_append, flatE_append]
      exact ho
theorem run_append_words (w : World) (ty : TypeId) (base g n c : Nat) (es : List Nat) (hn : es.length = n) (hown : RowU w base (.slice (some ⟨g, 0, none⟩) n c) es) {X : Nat → Prop} (a : Option Addr) (m cap : Nat) (fs : List Nat) (hm : fs.length = m) (hf : UAt X w a fs) (hl : n + m ≤ 20000000) (hb : base ≤ w.heap.size) :
    ∃ g' c' w', (Builtin.append_ #[36, 36] ty #[.slice (some ⟨g, 0, none⟩) n c, .slice a m cap]).run Try.prog w = .ok (.slice (some ⟨g', 0, none⟩) (n + m) c') w' ∧ RowU w' base (.slice (some ⟨g', 0, none⟩) (n + m) c') (es ++ fs) ∧ w.grownBy w' (some g) := by
  obtain ⟨i0, hi, hz0, hz1, hz2⟩ := info_parts infoU
  subst hn hm
  by_cases hf0 : fs.length = 0
  · have hf1 : fs = [] := List.length_eq_zero_iff.1 hf0
    subst hf1
    obtain ⟨a2, c2, hV, hc1, _⟩ := hown.form
    cases hV
    have hs : Src Try.prog i0.size 36 (.slice a 0 cap) 0 [] w := by
      cases a with
      | none => exact Src.ofNil w Try.underlying36 cap
      | some ad => exact Src.ofSlice w Try.underlying36 ad 0 cap [] (by simp) (fun j u hj => by simp at hj) (fun u hu => by cases hu)
    have hr := run_append_room_src (P := Try.prog) w 36 36 ty 44 i0 Try.underlying36 hi g 0 es.length c (.slice a 0 cap) 0 [] hs (by omega) (fun j hj => by simp at hj) (fun j hj => by simp at hj)
    exact ⟨g, c, _, hr, by simpa [World.setCells] using hown, by simpa [World.setCells] using (⟨rfl, rfl, rfl, Nat.le_refl _, fun _ _ _ => rfl⟩ : w.grownBy w _)⟩
  · rcases hf with rfl | ⟨b, off, rfl, _, hc⟩
    · exact absurd rfl hf0
    · obtain ⟨g', c', w', hr, ho, hg, hgg, hlt⟩ := run_append_lies (P := Try.prog) w 36 ty base 44 i0 _ 1 4 Try.underlying36 hi hz0 hz1 hz2 rfl (by decide) _ es.length _ hown ⟨b, off, none⟩ fs.length cap (wds fs) (by rw [wds_length, Nat.mul_one])
        (fun j v hj => by
          unfold wds at hj
          rw [List.getElem?_map] at hj
          cases hx : fs[j]? with
          | none => rw [hx] at hj; cases hj
          | some x =>
            rw [hx] at hj
            cases hj
            rw [Go.WideShapes.add_plain]
            exact hc j x hx) (fun v hv => by
          unfold wds at hv
          obtain ⟨x, _, rfl⟩ := List.mem_map.1 hv
          rfl) (by omega) (by simp only [maxLen]; omega) (by omega) hb w.heap.size rfl
      refine ⟨g', c', w', hr, ?_, hg⟩
      unfold RowU
      rw [List.length_append]
      have e : wds (es ++ fs) = wds es ++ wds fs := by simp [wds]
      rw [e]
      exact ho
theorem wpList_append_run {w w' : World} {ops : Array Oper} {rest : List Oper} {o : Oper} {a : Act} {Q : Exit → Act → World → Prop} (t : TypeId) (hgd : o.guard = none) (s y : Operand)
    (ho : o.op = .call { callee := .builtin .append, args := #[s, y], argTypes := #[t, t] }) {V Y v : Value} (hs : a.eval s = V) (hy : a.eval y = Y) (hr : (Builtin.append_ #[t, t] o.type #[V, Y]).run Try.prog w = .ok v w')
    (h : wpList Try.prog ops Q rest (a.put o.dst v) w') : wpList Try.prog ops Q (o :: rest) a w := by
  refine wpList_plain hgd fun K hK => ?_
  unfold Oper.wp execOp
  simp only [ho, resolve, invoke, builtin, Sem.run_bind, Sem.run_pure, Result.andThen_ok, List.map_toArray, List.map_cons, List.map_nil, hs, hy, hr]
  exact hK _ _ h
theorem rowE_empty (w : World) (base : Nat) (hb : base ≤ w.heap.size) : RowE (w.alloc (.cells #[] 57)) base (.slice (some ⟨w.heap.size, 0, none⟩) 0 0) [] := ⟨rfl, Or.inr ⟨w.heap.size, 0, #[], rfl, hb, heap_alloc_new w _, Nat.le_refl _, by decide, rfl, rfl⟩⟩
theorem rowU_empty (w : World) (base : Nat) (hb : base ≤ w.heap.size) : RowU (w.alloc (.cells #[] 44)) base (.slice (some ⟨w.heap.size, 0, none⟩) 0 0) [] := ⟨rfl, Or.inr ⟨w.heap.size, 0, #[], rfl, hb, heap_alloc_new w _, Nat.le_refl _, by decide, rfl, rfl⟩⟩
end Go.Proofs.Ytjmbimgofceanaa

/- heronlaw07's copied, walked. -/
namespace Go.Proofs.Ytjmbimgofceanaa
open Go.RowKit
attribute [local go_sem ↓] Go.wp_at_zero Go.wp_at_succ

structure Cp (w : World) (A R : Nat) (x : Nf) (u : World) : Prop where
  nf : NFB u A x
  res : NFB u R ⟨0, none, 0, 0, none, 0, 0⟩
  low : Below w.heap.size w u
section
variable {w : World} {A R : Nat} {x : Nf} {u u' : World}
theorem Cp.later (h : Cp w A R x u) (hb : Below u.heap.size u u') : Cp w A R x u' := ⟨h.nf.later hb, h.res.later hb, below_step h.low hb⟩
theorem Cp.grown (h : Cp w A R x u) {r : Option Nat} (hg : u.grownBy u' r) (hr : ∀ k, r = some k → w.heap.size ≤ k ∧ ∃ t, TyB u t k ∧ t ≠ 38) : Cp w A R x u' := by
  have hst : ∀ {b : Nat} {y : Nf}, NFB u b y → NFB u' b y := fun {b y} hb => (hg.block b hb.lt (fun e => by
    obtain ⟨_, t, h1, h2⟩ := hr b e.symm
    exact h2 (TyB.ne h1 hb.ty))).trans hb
  exact ⟨hst h.nf, hst h.res, ⟨hg.os.trans h.low.os, hg.tape.trans h.low.tape, hg.output.trans h.low.output, Nat.le_trans h.low.size hg.size, fun k hk => (hg.block k (Nat.lt_of_lt_of_le hk h.low.size) (fun e => by have := (hr k e.symm).1; omega)).trans (h.low.block k hk)⟩⟩
end
theorem res_copied {tmps : Array Value} {w : World} {R : Nat} {y : Nf} (h4 : tmps[2]?.getD undef = .pointer (some ⟨R, 0, none⟩)) (hR : NFB w R y) : (results Try.f20 tmps).run Try.prog w = .ok y.val w := by
  obtain ⟨t0, t1, t2⟩ := hR.cells
  unfold Nf.val
  simp [results, Try.results20, go_sem, h4, t0, t1, t2]
set_option maxRecDepth 4000 in
set_option maxHeartbeats 16000000 in
theorem copied_any {X : Nat → Prop} {M : Ma} {x : Nf} (w : World) (hx : MaAt X w M x) (he : M.es.length ≤ 10000000) (hrr : M.rs.length ≤ 10000000) : Calls Try.prog 20 #[x.val] w fun e w' => Below w.heap.size w w' ∧ ∃ y : Nf, e = .returned y.val ∧ Cop (fun b => w.heap.size ≤ b ∧ ¬ TyB w' 38 b) w' M y := by
  have kk : Below w.heap.size w ((w.alloc (.cells #[.int .i64 x.S, .slice x.ea x.en x.ec, .slice x.ra x.rn x.rc] 38)).alloc (.cells #[.int .i64 0, .slice none 0 0, .slice none 0 0] 38)) := ((Below.refl _ _).alloc (Nat.le_refl _) _).alloc (by simp) _
  have HCP : Hid (Cp w w.heap.size (w.heap.size + 1) x ((w.alloc (.cells #[.int .i64 x.S, .slice x.ea x.en x.ec, .slice x.ra x.rn x.rc] 38)).alloc (.cells #[.int .i64 0, .slice none 0 0, .slice none 0 0] 38))) := by
    refine ⟨(nfb_new w x).later ((Below.refl _ _).alloc (Nat.le_refl _) _), ?_, kk⟩
    have h1 := nfb_new (w.alloc (.cells #[.int .i64 x.S, .slice x.ea x.en x.ec, .slice x.ra x.rn x.rc] 38)) ⟨0, none, 0, 0, none, 0, 0⟩
    rw [show (w.alloc (.cells #[.int .i64 x.S, .slice x.ea x.en x.ec, .slice x.ra x.rn x.rc] 38)).heap.size = w.heap.size + 1 by simp] at h1
    exact h1
  obtain ⟨w2, hw2⟩ : ∃ w2, (w.alloc (.cells #[.int .i64 x.S, .slice x.ea x.en x.ec, .slice x.ra x.rn x.rc] 38)).alloc (.cells #[.int .i64 0, .slice none 0 0, .slice none 0 0] 38) = w2 := ⟨_, rfl⟩
  rw [hw2] at HCP
  obtain ⟨A, hA⟩ : ∃ A, w.heap.size = A := ⟨_, rfl⟩
  obtain ⟨R, hR⟩ : ∃ R, w.heap.size + 1 = R := ⟨_, rfl⟩
  have HR0 : Hid (w.heap.size ≤ R) := by show _ ≤ _; omega
  rw [hR] at HCP
  have HCP2 : Hid (Cp w A R x w2) := by have h := HCP.out; rw [hA] at h; rw [← hA] at h ⊢; exact h
  clear HCP
  have HW2 : Hid ((w.alloc (.cells #[.int .i64 x.S, .slice x.ea x.en x.ec, .slice x.ra x.rn x.rc] 38)).alloc (.cells #[.int .i64 0, .slice none 0 0, .slice none 0 0] 38) = w2) := hw2
  have HAA : Hid (w.heap.size = A) := hA
  have HRR : Hid (w.heap.size + 1 = R) := hR
  have HX : Hid (MaAt (fun _ => True) w M x) := hx.keep (fun _ _ _ => trivial) (fun _ _ _ => rfl)
  clear hw2 hA hR kk hx
  obtain ⟨xS, xa, xn, xc, xra, xrn, xrc⟩ := x
  have e1 : xS = M.S := HX.out.s
  have e3 : xn = M.es.length := HX.out.n
  have e5 : xrn = M.rs.length := HX.out.r
  have HLN : Hid (xS = M.S ∧ M.es.length = xn ∧ M.rs.length = xrn) := ⟨e1, e3.symm, e5.symm⟩
  rw [← e3] at he
  rw [← e5] at hrr
  clear e1 e3 e5
  unfold Nf.val
  simp only at HW2 ⊢
  go_enter Try.func20, Try.ntmps20
  go_upto_region 1 with fail
  rw [HW2.out, HRR.out, HAA.out]
  clear HW2
  obtain ⟨x0, x1, x2⟩ := HCP2.out.nf.cells
  simp only at x0 x1 x2
  have kk : Below w2.heap.size w2 (w2.alloc (.cells #[] 57)) := (Below.refl _ _).alloc (Nat.le_refl _) _
  have HC3 : Hid (Cp w A R ⟨xS, xa, xn, xc, xra, xrn, xrc⟩ (w2.alloc (.cells #[] 57))) := HCP2.out.later kk
  have HE3 : Hid (RowE (w2.alloc (.cells #[] 57)) w.heap.size (.slice (some ⟨w2.heap.size, 0, none⟩) 0 0) []) := rowE_empty w2 _ HCP2.out.low.size
  have HS3 : Hid (EAt (fun _ => True) (w2.alloc (.cells #[] 57)) xa M.es) := HX.out.e.keep (fun _ _ _ => trivial) (fun b _ hlt => HC3.out.low.block b hlt)
  obtain ⟨z0, z1, z2⟩ := HC3.out.nf.cells
  simp only at z0 z1 z2
  obtain ⟨g4, c4, w4, hr4, ho4, hg4⟩ := run_append_edges (w2.alloc (.cells #[] 57)) 35 w.heap.size w2.heap.size 0 0 [] rfl HE3.out xa xn xc M.es HLN.out.2.1 HS3.out (by omega) HC3.out.low.size
  rw [Nat.zero_add, List.nil_append] at ho4
  rw [Nat.zero_add] at hr4
  have HR4 : Hid ((Builtin.append_ #[35, 35] 35 #[.slice (some ⟨w2.heap.size, 0, none⟩) 0 0, .slice xa xn xc]).run Try.prog (w2.alloc (.cells #[] 57)) = .ok (.slice (some ⟨g4, 0, none⟩) xn c4) w4) := hr4
  have HO4 : Hid (RowE w4 w.heap.size (.slice (some ⟨g4, 0, none⟩) xn c4) M.es) := ho4
  have HC4 : Hid (Cp w A R ⟨xS, xa, xn, xc, xra, xrn, xrc⟩ w4) := HC3.out.grown hg4 (fun k hk => by cases hk; exact ⟨HCP2.out.low.size, _, ⟨_, _, heap_alloc_new w2 _⟩, by decide⟩)
  clear hr4 ho4 hg4 kk
  have kk : Below w4.heap.size w4 (w4.alloc (.cells #[.int .i64 77, .int .i64 0, .int .i64 0, .int .u64 0, .int .u64 0, .int .u64 0, .int .u64 0] 57)) := (Below.refl _ _).alloc (Nat.le_refl _) _
  have HC5 : Hid (Cp w A R ⟨xS, xa, xn, xc, xra, xrn, xrc⟩ (w4.alloc (.cells #[.int .i64 77, .int .i64 0, .int .i64 0, .int .u64 0, .int .u64 0, .int .u64 0, .int .u64 0] 57))) := HC4.out.later kk
  have HO5 : Hid (RowE (w4.alloc (.cells #[.int .i64 77, .int .i64 0, .int .i64 0, .int .u64 0, .int .u64 0, .int .u64 0, .int .u64 0] 57)) w.heap.size (.slice (some ⟨g4, 0, none⟩) xn c4) M.es) := HO4.out.later kk
  have HM5 : Hid (∀ j v, (Eg.cells markE)[j]? = some v → (w4.alloc (.cells #[.int .i64 77, .int .i64 0, .int .i64 0, .int .u64 0, .int .u64 0, .int .u64 0, .int .u64 0] 57)).cell? ((⟨w4.heap.size, 0, none⟩ : Addr).add j) = some v) := fun j v hj => by
    unfold Eg.cells markE at hj
    simp only [word0] at hj
    rw [Go.WideShapes.add_plain, Nat.zero_add]
    simp only [World.cell?, heap_alloc_new]
    rw [← Array.getElem?_toList]
    exact hj
  clear kk
  go_upto_region 2 with (at_builtin; first | (refine wpList_append_run 35 rfl _ _ rfl rfl rfl HR4.out ?_) | go_must (refine wpList_append_edge rfl _ _ rfl w.heap.size xn _ M.es rfl HLN.out.2.1 HO5.out ⟨w4.heap.size, 0, none⟩ 1 markE rfl HM5.out (by omega) HC5.out.low.size ?_; intro g6 c6 w6 hr6 hg6; have HO6 : Hid (RowE w6 w.heap.size (.slice (some ⟨g6, 0, none⟩) (xn + 1) c6) (M.es ++ [markE])) := hr6; have HC6 : Hid (Cp w A R ⟨xS, xa, xn, xc, xra, xrn, xrc⟩ w6) := HC5.out.grown hg6 (fun k hk => ⟨(HO5.out.ty k hk).1, _, (HO5.out.ty k hk).2, by decide⟩); clear hr6 hg6))
  clear x0 x1 x2 z0 z1 z2 HC3 HE3 HS3 HR4 HO4 HC4 HC5 HO5 HM5 HCP2
  obtain ⟨x0, x1, x2⟩ := HC6.out.nf.cells
  simp only at x0 x1 x2
  have kk : Below w6.heap.size w6 (w6.alloc (.cells #[] 44)) := (Below.refl _ _).alloc (Nat.le_refl _) _
  have HC3 : Hid (Cp w A R ⟨xS, xa, xn, xc, xra, xrn, xrc⟩ (w6.alloc (.cells #[] 44))) := HC6.out.later kk
  have HO7 : Hid (RowE (w6.alloc (.cells #[] 44)) w.heap.size (.slice (some ⟨g6, 0, none⟩) (xn + 1) c6) (M.es ++ [markE])) := HO6.out.later kk
  have HE3 : Hid (RowU (w6.alloc (.cells #[] 44)) w.heap.size (.slice (some ⟨w6.heap.size, 0, none⟩) 0 0) []) := rowU_empty w6 _ HC6.out.low.size
  have HS3 : Hid (UAt (fun _ => True) (w6.alloc (.cells #[] 44)) xra M.rs) := HX.out.u.keep (fun _ _ _ => trivial) (fun b _ hlt => HC3.out.low.block b hlt)
  obtain ⟨z0, z1, z2⟩ := HC3.out.nf.cells
  simp only at z0 z1 z2
  obtain ⟨g8, c8, w8, hr8, ho8, hg8⟩ := run_append_words (w6.alloc (.cells #[] 44)) 36 w.heap.size w6.heap.size 0 0 [] rfl HE3.out xra xrn xrc M.rs HLN.out.2.2 HS3.out (by omega) HC3.out.low.size
  rw [Nat.zero_add, List.nil_append] at ho8
  rw [Nat.zero_add] at hr8
  have hTU : TyB (w6.alloc (.cells #[] 44)) 44 w6.heap.size := ⟨_, _, heap_alloc_new w6 _⟩
  have HR8 : Hid ((Builtin.append_ #[36, 36] 36 #[.slice (some ⟨w6.heap.size, 0, none⟩) 0 0, .slice xra xrn xrc]).run Try.prog (w6.alloc (.cells #[] 44)) = .ok (.slice (some ⟨g8, 0, none⟩) xrn c8) w8) := hr8
  have HU8 : Hid (RowU w8 w.heap.size (.slice (some ⟨g8, 0, none⟩) xrn c8) M.rs) := ho8
  have HC8 : Hid (Cp w A R ⟨xS, xa, xn, xc, xra, xrn, xrc⟩ w8) := HC3.out.grown hg8 (fun k hk => by cases hk; exact ⟨HC6.out.low.size, _, hTU, by decide⟩)
  have HO8 : Hid (RowE w8 w.heap.size (.slice (some ⟨g6, 0, none⟩) (xn + 1) c6) (M.es ++ [markE])) := HO7.out.keep (fun b _ hlt ht => hg8.block b hlt (fun e => by cases e; exact absurd (TyB.ne ht hTU) (by decide)))
  clear hr8 ho8 hg8 kk hTU
  have kk : Below w8.heap.size w8 (w8.alloc (.cells #[.int .u32 77] 44)) := (Below.refl _ _).alloc (Nat.le_refl _) _
  have HC9 : Hid (Cp w A R ⟨xS, xa, xn, xc, xra, xrn, xrc⟩ (w8.alloc (.cells #[.int .u32 77] 44))) := HC8.out.later kk
  have HO9 : Hid (RowE (w8.alloc (.cells #[.int .u32 77] 44)) w.heap.size (.slice (some ⟨g6, 0, none⟩) (xn + 1) c6) (M.es ++ [markE])) := HO8.out.later kk
  have HU9 : Hid (RowU (w8.alloc (.cells #[.int .u32 77] 44)) w.heap.size (.slice (some ⟨g8, 0, none⟩) xrn c8) M.rs) := HU8.out.later kk
  have HM9 : Hid (∀ (j x : Nat), ([77] : List Nat)[j]? = some x → (w8.alloc (.cells #[.int .u32 77] 44)).cell? ⟨w8.heap.size, 0 + j, none⟩ = some (.int .u32 (x : Nat))) := fun j x hj => by
    cases j with
    | zero => simp at hj; subst hj; simp only [World.cell?, heap_alloc_new]; rfl
    | succ j => simp at hj
  clear kk
  go_upto_region 3 with (at_builtin; first | (refine wpList_append_run 36 rfl _ _ rfl rfl rfl HR8.out ?_) | go_must (refine wpList_append_words rfl _ _ rfl w.heap.size xrn 1 _ M.rs [77] rfl HLN.out.2.2 HU9.out w8.heap.size 0 1 rfl rfl (by decide) HM9.out (by omega) HC9.out.low.size ?_; intro g10 c10 w10 hr10 hg10; have HU10 : Hid (RowU w10 w.heap.size (.slice (some ⟨g10, 0, none⟩) (xrn + 1) c10) (M.rs ++ [77])) := hr10; have HC10 : Hid (Cp w A R ⟨xS, xa, xn, xc, xra, xrn, xrc⟩ w10) := HC9.out.grown hg10 (fun k hk => ⟨(HU9.out.ty k hk).1, _, (HU9.out.ty k hk).2, by decide⟩); have HO10 : Hid (RowE w10 w.heap.size (.slice (some ⟨g6, 0, none⟩) (xn + 1) c6) (M.es ++ [markE])) := HO9.out.keep (fun b _ hlt ht => hg10.block b hlt (fun e => absurd (TyB.ne ht (HU9.out.ty b e.symm).2) (by decide))); clear hr10 hg10))
  clear x0 x1 x2 z0 z1 z2 HC3 HE3 HS3 HR8 HO6 HO7 HO8 HC6 HC8 HC9 HO9 HU8 HU9 HM9
  obtain ⟨x0, x1, x2⟩ := HC10.out.nf.cells
  simp only at x0 x1 x2
  obtain ⟨z0, z1, z2⟩ := HC10.out.res.cells
  simp only at z0 z1 z2
  have q0 := HC10.out.res.frozen 0
  have q1 := HC10.out.res.frozen 1
  have q2 := HC10.out.res.frozen 2
  have hc6 : xn + 1 ≤ c6 ∧ c6 ≤ maxLen := by
    obtain ⟨a2, c2, hV, h1, h2⟩ := HO10.out.form
    simp only [Value.slice.injEq] at hV
    obtain ⟨_, _, rfl⟩ := hV
    rw [List.length_append, HLN.out.2.1] at h1
    exact ⟨h1, h2⟩
  have hc10 : xrn + 1 ≤ c10 ∧ c10 ≤ maxLen := by
    obtain ⟨a2, c2, hV, h1, h2⟩ := HU10.out.form
    simp only [Value.slice.injEq] at hV
    obtain ⟨_, _, rfl⟩ := hV
    rw [List.length_append, HLN.out.2.2] at h1
    exact ⟨h1, h2⟩
  obtain ⟨hc6a, hc6b⟩ := hc6
  obtain ⟨hc10a, hc10b⟩ := hc10
  have HF : Hid (Below w.heap.size w (put3 w10.drew R ⟨xS, some ⟨g6, 0, none⟩, xn, c6, some ⟨g10, 0, none⟩, xrn, c10⟩) ∧ ∃ y : Nf, Ending.returned (Nf.val ⟨xS, some ⟨g6, 0, none⟩, xn, c6, some ⟨g10, 0, none⟩, xrn, c10⟩) = .returned y.val ∧ Cop (fun b => w.heap.size ≤ b ∧ ¬ TyB (put3 w10.drew R ⟨xS, some ⟨g6, 0, none⟩, xn, c6, some ⟨g10, 0, none⟩, xrn, c10⟩) 38 b) (put3 w10.drew R ⟨xS, some ⟨g6, 0, none⟩, xn, c6, some ⟨g10, 0, none⟩, xrn, c10⟩) M y) := by
    refine ⟨below_put3 HC10.out.low.drew HR0.out _, _, rfl, ?_⟩
    have hkE : ∀ k, k ≠ R → (put3 w10.drew R ⟨xS, some ⟨g6, 0, none⟩, xn, c6, some ⟨g10, 0, none⟩, xrn, c10⟩).heap[k]? = w10.heap[k]? := fun k hk => heap_put3 w10.drew R _ k hk
    have h1 := (HO10.out.keep (w' := put3 w10.drew R ⟨xS, some ⟨g6, 0, none⟩, xn, c6, some ⟨g10, 0, none⟩, xrn, c10⟩) (fun b _ _ hb => hkE b (fun e => absurd (TyB.ne hb (e ▸ HC10.out.res.ty)) (by decide)))).at2
    have h2 := (HU10.out.keep (w' := put3 w10.drew R ⟨xS, some ⟨g6, 0, none⟩, xn, c6, some ⟨g10, 0, none⟩, xrn, c10⟩) (fun b _ _ hb => hkE b (fun e => absurd (TyB.ne hb (e ▸ HC10.out.res.ty)) (by decide)))).at2
    exact ⟨HLN.out.1, HLN.out.2.1.symm, HLN.out.2.2.symm, h1.keep (fun b hb _ => ⟨hb.1, fun h => absurd (TyB.ne hb.2 h) (by decide)⟩) (fun _ _ _ => rfl), h2.keep (fun b hb _ => ⟨hb.1, fun h => absurd (TyB.ne hb.2 h) (by decide)⟩) (fun _ _ _ => rfl), by rw [HLN.out.2.1]; exact ⟨hc6a, hc6b⟩, by rw [HLN.out.2.2]; exact ⟨hc10a, hc10b⟩⟩
  have HG : Hid (NFB (put3 w10.drew R ⟨xS, some ⟨g6, 0, none⟩, xn, c6, some ⟨g10, 0, none⟩, xrn, c10⟩) R ⟨xS, some ⟨g6, 0, none⟩, xn, c6, some ⟨g10, 0, none⟩, xrn, c10⟩) := NFB.put3 (w := w10.drew) (y := ⟨0, none, 0, 0, none, 0, 0⟩) HC10.out.res _
  unfold put3 at HF HG
  simp only at HF HG
  simp only [maxLen] at hc6b hc10b
  have t1 : (xn : Int) ≤ (c6 : Int) := by omega
  have t2 : (xrn : Int) ≤ (c10 : Int) := by omega
  go_region
  all_goals
    go_wp2
    exact bodyPost_ret (res_copied (y := ⟨xS, some ⟨g6, 0, none⟩, xn, c6, some ⟨g10, 0, none⟩, xrn, c10⟩) rfl HG.out) rfl HF.out
end Go.Proofs.Ytjmbimgofceanaa

/- A drawn region of two kinds of operations: some only read, at any time; the others turn the memory, one behind the other. -/
namespace Go.Proofs.Ytjmbimgofceanaa
open Go Go.RowKit

section
variable {P : Program} {ops : Array Oper} {Q : Exit → Act → World → Prop}
/-- each operation behind n waits for the one ahead of it -/
def linked (ops : Array Oper) (n : Nat) : Bool := (List.range ops.size).all fun j => decide (j ≤ n) || match ops[j]? with
  | some o => o.after.any fun e => e.on == j - 1 && Region.binds .any e
  | none => false
theorem linked_at {n j : Nat} {o : Oper} (h : linked ops n = true) (ho : ops[j]? = some o) (hj : n < j) : ∃ e ∈ o.after, e.on = j - 1 ∧ Region.binds .any e = true := by
  have h1 := List.all_eq_true.1 h j (List.mem_range.2 (Array.getElem?_eq_some_iff.1 ho).1)
  rw [Bool.or_eq_true] at h1
  rcases h1 with h1 | h1
  · have := of_decide_eq_true h1; omega
  · rw [ho] at h1
    have h3 : (o.after.any fun e => e.on == j - 1 && Region.binds .any e) = true := h1
    rw [Array.any_eq_true'] at h3
    obtain ⟨x, hx, h4⟩ := h3
    rw [Bool.and_eq_true] at h4
    exact ⟨x, hx, eq_of_beq h4.1, h4.2⟩
/-- it reads, and writes its slot -/
def Got (r : Value → Prop) (o : Oper) (a : Act) (w : World) : Act → World → Prop := fun a' w' => ∃ v, a' = a.put o.dst v ∧ w' = w ∧ r v
theorem wp_region_chain {id : Nat} {a : Act} {w0 : World} (hm : P.follows .mixedOrders = true) (n m : Nat) (hn : ops.size = m) (hnm : n ≤ m) (D : Nat → Nat) (R : Nat → Value → Prop) (S : Nat → Act → World → Prop)
    (hput : ∀ k a w i v, i < n → S k a w → S k (a.put (some (D i)) v) w)
    (hsz : ∀ k a w i, i < n → S k a w → D i < a.tmps.size)
    (hinj : ∀ i j, i < n → j < n → D i = D j → i = j)
    (hlink : linked ops n = true)
    (hduty : AllFrom (fun i o => o.guard = none ∧ (∀ e ∈ o.after, e.on < i) ∧
        (i < n → o.dst = some (D i) ∧ ∀ k a w, S k a w → (∀ e ∈ o.after, Region.binds .any e = true → R e.on (T a (D e.on))) → ∀ Q, o.wp P a w (Got (R i) o a w) Q) ∧
        (n ≤ i → ∀ a w, S i a w → (∀ e ∈ o.after, e.on < n → Region.binds .any e = true → R e.on (T a (D e.on))) → o.wp P a w (fun a' w' => S (i + 1) a' w' ∧ ∀ j, j < n → T a' (D j) = T a (D j)) Q)) 0 ops.toList)
    (hend : ∀ a w, S m a w → (∀ i, i < n → R i (T a (D i))) → Q .normal a w)
    (h0 : S n a w0.drew) : (Code.region id ops true).wp P Q a w0 := by
  have hd := fun i o (ho : ops[i]? = some o) => by
    have := allFrom_at hduty i o (by simpa using ho)
    rw [Nat.zero_add] at this
    exact this
  refine wp_region_inv hm (fun L a w => ∃ k, n ≤ k ∧ k ≤ m ∧ (∀ j, n ≤ j → j < m → (L j = true ↔ j < k)) ∧ S k a w ∧ ∀ i, i < n → L i = true → R i (T a (D i))) ?wf ?step ?fin ?zero
  case wf =>
    intro i o e ho he _
    exact (hd i o ho).2.1 e he
  case zero =>
    intro L hL
    refine ⟨n, Nat.le_refl _, hnm, fun j h1 h2 => ?_, h0, fun i hi h => ?_⟩
    · rw [hL j (by omega)]
      constructor
      · intro h; cases h
      · intro h; omega
    · rw [hL i (by omega)] at h; cases h
  case fin =>
    rintro L a w hL ⟨k, h1, h2, h3, hS, hR⟩
    have hk : k = m := by
      by_cases e : k = m
      · exact e
      · have := (h3 k h1 (by omega)).1 (hL k (by omega))
        omega
    subst hk
    exact hend a w hS (fun i hi => hR i hi (hL i (by omega)))
  case step =>
    intro i o ho
    have hi := (Array.getElem?_eq_some_iff.1 ho).1
    obtain ⟨hg, hlt, hp, hc⟩ := hd i o ho
    refine ⟨hg, ?_⟩
    rintro L a w ⟨k, h1, h2, h3, hS, hR⟩ hLi hE
    by_cases hl : i < n
    · obtain ⟨hdst, hst⟩ := hp hl
      refine Oper.wp_mono ?_ (hst k a w hS (fun e he hb => hR e.on (by have := hlt e he; omega) (hE e he hb)) Q)
      rintro a' w' ⟨v, rfl, rfl, hr⟩
      rw [hdst]
      refine ⟨k, h1, h2, fun j hj hj2 => ?_, hput k a w' i v hl hS, fun j hj hmj => ?_⟩
      · rw [← h3 j hj hj2]
        unfold more
        rw [if_neg (by omega)]
      · by_cases hji : j = i
        · subst hji
          unfold T
          rw [put_same (hsz k a w' j hl hS)]
          exact hr
        · unfold T
          rw [put_other (fun e => hji (hinj i j hl hj e).symm)]
          unfold more at hmj
          rw [if_neg hji] at hmj
          exact hR j hj hmj
    · have hki : k = i := by
        have ha : ¬ i < k := fun h => by rw [(h3 i (by omega) (by omega)).2 h] at hLi; cases hLi
        by_cases e : i = n
        · omega
        · obtain ⟨x, hx, hx1, hx2⟩ := linked_at hlink ho (by omega)
          have := (h3 (i - 1) (by omega) (by omega)).1 (by rw [← hx1]; exact hE x hx hx2)
          omega
      subst hki
      refine Oper.wp_mono ?_ (hc (by omega) a w hS (fun e he hlt hb => hR e.on hlt (hE e he hb)))
      rintro a' w' ⟨hS', hT'⟩
      refine ⟨k + 1, by omega, by omega, fun j hj hj2 => ?_, hS', fun j hj hmj => ?_⟩
      · unfold more
        by_cases hjk : j = k
        · rw [if_pos hjk]
          constructor
          · intro _; omega
          · intro _; rfl
        · rw [if_neg hjk, h3 j hj hj2]
          omega
      · unfold more at hmj
        rw [if_neg (by omega)] at hmj
        rw [hT' j hj]
        exact hR j hj hmj
variable {o : Oper} {a : Act} {w w' : World} {r : Value → Prop}
theorem og_value {v : Value} (h : (execOp a.eval o).run P w = .ok (.value v) w) (hR : r v) : o.wp P a w (Got r o a w) Q := by
  unfold Oper.wp
  rw [h]
  exact ⟨v, rfl, rfl, hR⟩
/-- a call of the chain by its contract -/
theorem oc_enter {K : Act → World → Prop} {f : FuncId} {args : Array Value} (h : (execOp a.eval o).run P w = .ok (.enter f args) w) (hc : Calls P f args w fun e w' => ∃ v, e = .returned v ∧ K (a.put o.dst v) w') : o.wp P a w K Q := by
  unfold Oper.wp
  rw [h]
  refine hc.mono ?_
  rintro e w' ⟨v, rfl, hR⟩
  exact hR
theorem oc_value {K : Act → World → Prop} {v : Value} (h : (execOp a.eval o).run P w = .ok (.value v) w') (hR : K (a.put o.dst v) w') : o.wp P a w K Q := by
  unfold Oper.wp
  rw [h]
  exact hR
attribute [local go_sem] Oper.semAt_some
theorem og_move {p : Nat} {v : Value} (ho : o.op = .move (.tmp p)) (hx : T a p = v) (hr : r v) : o.wp Try.prog a w (Got r o a w) Q := by
  obtain ⟨dst, op, type, pos, after, guard⟩ := o
  simp only at ho
  subst ho
  refine og_value (v := v) ?_ hr
  simp [execOp, Act.eval, hx, go_sem]
theorem og_nil {p : Nat} {ad : Addr} (ho : o.op = .nilCheck (.tmp p)) (hx : T a p = .pointer (some ad)) (hr : r (.pointer (some ad))) : o.wp Try.prog a w (Got r o a w) Q := by
  obtain ⟨dst, op, type, pos, after, guard⟩ := o
  simp only at ho
  subst ho
  refine og_value (v := .pointer (some ad)) ?_ hr
  simp [execOp, Act.eval, hx, go_sem]
theorem og_load3 {p : Nat} {ad : Addr} {v : Int} (ho : o.op = .load 3 (.tmp p)) (hx : T a p = .pointer (some ad)) (hc : w.cell? ad = some (.int .i64 v)) (hr : r (.int .i64 v)) : o.wp Try.prog a w (Got r o a w) Q := by
  obtain ⟨dst, op, type, pos, after, guard⟩ := o
  simp only at ho
  subst ho
  refine og_value (v := .int .i64 v) ?_ hr
  simp [execOp, Act.eval, hx, go_sem, hc]
set_option maxRecDepth 20000 in
theorem og_node {p A : Nat} {x : Nd} (ho : o.op = .load 30 (.tmp p)) (hx : T a p = .pointer (some ⟨A, 0, none⟩)) (hc : NB w A x) (hr : r x.val) : o.wp Try.prog a w (Got r o a w) Q := by
  obtain ⟨dst, op, type, pos, after, guard⟩ := o
  simp only at ho
  subst ho
  obtain ⟨c0, c1, c2, c3, c4, c5, c6, c7⟩ := hc.cells
  refine og_value (v := x.val) ?_ hr
  unfold Nd.val
  simp [execOp, Act.eval, hx, go_sem, c0, c1, c2, c3, c4, c5, c6, c7]
theorem oc_assign {K : Act → World → Prop} {p : Nat} {v : Value} (ho : o.op = .assign (.tmp p)) (hx : T a p = v) (hr : K (a.put o.dst v) w) : o.wp Try.prog a w K Q := by
  obtain ⟨dst, op, type, pos, after, guard⟩ := o
  simp only at ho
  subst ho
  refine oc_value (v := v) (w' := w) ?_ hr
  simp [execOp, Act.eval, hx, go_sem]
end
end Go.Proofs.Ytjmbimgofceanaa

