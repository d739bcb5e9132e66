/- heronref07's Same of two machines that are the same. -/
import Derived.Test.YtjmbimgofceanaaG21
namespace Go.Proofs.Ytjmbimgofceanaa
open Go.RowKit
attribute [local go_sem ↓] Go.wp_at_zero Go.wp_at_succ

set_option maxRecDepth 4000 in
set_option maxHeartbeats 16000000 in
theorem same_any {X Y : Nat → Prop} {M : Ma} {x y : Nf} (w : World) (hx : MaAt X w M x) (hy : MaAt Y w M y) (he : M.es.length ≤ 100000000) (hr : M.rs.length ≤ 100000000) : Calls Try.prog 19 #[x.val, y.val] w fun e w' => e = .returned (.bool true) ∧ Below w.heap.size w w' := by
  have kk : Below w.heap.size w ((w.alloc (.cells #[.int .i64 x.S, .slice x.ea x.en x.ec, .slice x.ra x.rn x.rc] 38)).alloc (.cells #[.int .i64 y.S, .slice y.ea y.en y.ec, .slice y.ra y.rn y.rc] 38)) := ((Below.refl _ _).alloc (Nat.le_refl _) _).alloc (by simp) _
  have HNX : Hid (NFB ((w.alloc (.cells #[.int .i64 x.S, .slice x.ea x.en x.ec, .slice x.ra x.rn x.rc] 38)).alloc (.cells #[.int .i64 y.S, .slice y.ea y.en y.ec, .slice y.ra y.rn y.rc] 38)) w.heap.size x) := (nfb_new w x).later ((Below.refl _ _).alloc (Nat.le_refl _) _)
  have HNY : Hid (NFB ((w.alloc (.cells #[.int .i64 x.S, .slice x.ea x.en x.ec, .slice x.ra x.rn x.rc] 38)).alloc (.cells #[.int .i64 y.S, .slice y.ea y.en y.ec, .slice y.ra y.rn y.rc] 38)) (w.heap.size + 1) y) := by
    have h1 := nfb_new (w.alloc (.cells #[.int .i64 x.S, .slice x.ea x.en x.ec, .slice x.ra x.rn x.rc] 38)) y
    rw [show (w.alloc (.cells #[.int .i64 x.S, .slice x.ea x.en x.ec, .slice x.ra x.rn x.rc] 38)).heap.size = w.heap.size + 1 by simp] at h1
    exact h1
  have HB : Hid (Below w.heap.size w ((w.alloc (.cells #[.int .i64 x.S, .slice x.ea x.en x.ec, .slice x.ra x.rn x.rc] 38)).alloc (.cells #[.int .i64 y.S, .slice y.ea y.en y.ec, .slice y.ra y.rn y.rc] 38))) := kk
  obtain ⟨w2, hw2⟩ : ∃ w2, ((w.alloc (.cells #[.int .i64 x.S, .slice x.ea x.en x.ec, .slice x.ra x.rn x.rc] 38)).alloc (.cells #[.int .i64 y.S, .slice y.ea y.en y.ec, .slice y.ra y.rn y.rc] 38)) = w2 := ⟨_, rfl⟩
  rw [hw2] at HNX HNY HB
  obtain ⟨A, hA⟩ : ∃ A, w.heap.size = A := ⟨_, rfl⟩
  obtain ⟨C, hC⟩ : ∃ C, w.heap.size + 1 = C := ⟨_, rfl⟩
  rw [hA] at HNX
  rw [hC] at HNY
  have HW2 : Hid (((w.alloc (.cells #[.int .i64 x.S, .slice x.ea x.en x.ec, .slice x.ra x.rn x.rc] 38)).alloc (.cells #[.int .i64 y.S, .slice y.ea y.en y.ec, .slice y.ra y.rn y.rc] 38)) = w2) := hw2
  have HAA : Hid (w.heap.size = A) := hA
  have HCC : Hid (w.heap.size + 1 = C) := hC
  have HX : Hid (MaAt X w M x) := hx
  have HY : Hid (MaAt Y w M y) := hy
  clear hw2 hA hC kk hx hy
  obtain ⟨xS, xa, xn, xc, xra, xrn, xrc⟩ := x
  obtain ⟨yS, ya, yn, yc, yra, yrn, yrc⟩ := y
  have e1 : xS = M.S := HX.out.s
  have e2 : yS = M.S := HY.out.s
  have e3 : xn = M.es.length := HX.out.n
  have e4 : yn = M.es.length := HY.out.n
  have e5 : xrn = M.rs.length := HX.out.r
  have e6 : yrn = M.rs.length := HY.out.r
  subst e1 e2 e3 e4 e5 e6
  obtain ⟨n, hn⟩ : ∃ n, M.es.length = n := ⟨_, rfl⟩
  obtain ⟨rn, hrn⟩ : ∃ rn, M.rs.length = rn := ⟨_, rfl⟩
  have HE : Hid (EAt X w xa M.es ∧ EAt Y w ya M.es) := ⟨HX.out.e, HY.out.e⟩
  have HU : Hid (UAt X w xra M.rs ∧ UAt Y w yra M.rs) := ⟨HX.out.u, HY.out.u⟩
  have HN : Hid (M.es.length = n ∧ M.rs.length = rn) := ⟨hn, hrn⟩
  rw [hn] at HNX HNY HW2 he
  rw [hrn] at HNX HNY HW2 hr
  unfold Nf.val
  simp only at HW2 ⊢
  rw [hn, hrn]
  clear hn hrn HX HY
  obtain ⟨S, hS⟩ : ∃ S, M.S = S := ⟨_, rfl⟩
  rw [hS] at HNX HNY HW2 ⊢
  clear hS
  go_enter Try.func19, Try.ntmps19
  go_upto_region 1 with fail
  rw [HW2.out, HCC.out, HAA.out]
  clear HW2
  obtain ⟨x0, x1, x2⟩ := HNX.out.cells
  obtain ⟨y0, y1, y2⟩ := HNY.out.cells
  simp only at x0 x1 x2 y0 y1 y2
  go_wp2_with fail
  clear x0 x1 x2 y0 y1 y2
  go_loopw [5] (fun i u => ∃ j : Nat, i = .int .i64 (j : Nat) ∧ j ≤ n ∧ Hid (Below w2.heap.size w2 u)) (fun i _ => n - (intOf i).toNat)
  case atStart => exact ⟨0, rfl, Nat.zero_le _, Below.refl _ _⟩
  case round =>
    obtain ⟨j, rfl, hjn, HBj⟩ := hrel
    obtain ⟨x0, x1, x2⟩ := (HNX.out.later HBj.out).cells
    obtain ⟨y0, y1, y2⟩ := (HNY.out.later HBj.out).cells
    simp only at x0 x1 x2 y0 y1 y2
    by_cases hlt : j < n
    · have hlt' : (j : Int) < (n : Int) := by omega
      obtain ⟨e, hee⟩ : ∃ e, M.es[j]? = some e := ⟨_, List.getElem?_eq_getElem (by rw [HN.out.1]; exact hlt)⟩
      have HBw : Hid (Below w.heap.size w wr) := below_step HB.out HBj.out
      have HE2 := HE.out
      obtain ⟨b, off, rfl, p0, p1, p2, p3, p4, p5, p6⟩ := (HE2.1.keep (w' := wr) (fun _ h _ => h) (fun k _ hk => HBw.out.block k hk)).nth hee
      obtain ⟨b', off', rfl, q0, q1, q2, q3, q4, q5, q6⟩ := (HE2.2.keep (w' := wr) (fun _ h _ => h) (fun k _ hk => HBw.out.block k hk)).nth hee
      have heq : ∀ u : World, (Op.equalIn 10000 57 (.agg #[.int .i64 e.k, .int .i64 e.f, .int .i64 e.t, .int .u64 (Oct.word e.s 0 : Nat), .int .u64 (Oct.word e.s 1 : Nat), .int .u64 (Oct.word e.s 2 : Nat), .int .u64 (Oct.word e.s 3 : Nat)]) (.agg #[.int .i64 e.k, .int .i64 e.f, .int .i64 e.t, .int .u64 (Oct.word e.s 0 : Nat), .int .u64 (Oct.word e.s 1 : Nat), .int .u64 (Oct.word e.s 2 : Nat), .int .u64 (Oct.word e.s 3 : Nat)])).run Try.prog u = .ok true u := fun u => eq7_same _ _ _ _ _ _ _ u
      have HBd : Hid (Below w2.heap.size w2 wr.drew) := HBj.out.drew
      clear hee HE2
      go_upto_region 6 with fail
      go_region
      all_goals
        go_wp2
        go_roundw
        case rel => exact ⟨j + 1, by go_num, by omega, HBd⟩
        case measure => simp [intOf]; omega
    · have hlt' : ¬ (j : Int) < (n : Int) := by omega
      go_wp2_with fail
      clear x0 x1 x2 y0 y1 y2 hlt hlt' hjn
      obtain ⟨w3, hw3⟩ : ∃ w3 : World, w3 = wr := ⟨_, rfl⟩
      subst hw3
      go_loopw [6] (fun i u => ∃ j : Nat, i = .int .i64 (j : Nat) ∧ j ≤ rn ∧ Hid (Below w2.heap.size w2 u)) (fun i _ => rn - (intOf i).toNat)
      case atStart => exact ⟨0, rfl, Nat.zero_le _, HBj⟩
      case round =>
        clear HBj
        obtain ⟨j, rfl, hjn, HBj⟩ := hrel
        obtain ⟨x0, x1, x2⟩ := (HNX.out.later HBj.out).cells
        obtain ⟨y0, y1, y2⟩ := (HNY.out.later HBj.out).cells
        simp only at x0 x1 x2 y0 y1 y2
        by_cases hlt : j < rn
        · have hlt' : (j : Int) < (rn : Int) := by omega
          obtain ⟨e, hee⟩ : ∃ e, M.rs[j]? = some e := ⟨_, List.getElem?_eq_getElem (by rw [HN.out.2]; exact hlt)⟩
          have HBw : Hid (Below w.heap.size w wr) := below_step HB.out HBj.out
          have HU2 := HU.out
          obtain ⟨b, off, rfl, p0⟩ := (HU2.1.keep (w' := wr) (fun _ h _ => h) (fun k _ hk => HBw.out.block k hk)).nth hee
          obtain ⟨b', off', rfl, q0⟩ := (HU2.2.keep (w' := wr) (fun _ h _ => h) (fun k _ hk => HBw.out.block k hk)).nth hee
          have HBd : Hid (Below w2.heap.size w2 wr.drew) := HBj.out.drew
          clear hee HU2
          go_upto_region 11 with fail
          go_region
          all_goals
            go_wp2
            go_roundw
            case rel => exact ⟨j + 1, by go_num, by omega, HBd⟩
            case measure => simp [intOf]; omega
        · have hlt' : ¬ (j : Int) < (rn : Int) := by omega
          have HBw : Hid (Below w.heap.size w wr) := below_step HB.out HBj.out
          go_wp2
          go_ret
          exact ⟨rfl, HBw.out⟩
end Go.Proofs.Ytjmbimgofceanaa

/- The union of machines: plain; a list of machines in memory; the union under way. -/
namespace Go.Proofs.Ytjmbimgofceanaa
open Go.RowKit

def shiftE (a : Int) (e : Eg) : Eg := ⟨e.k, e.f + a, e.t + a, e.s⟩
def addM (o M : Ma) : Ma := ⟨o.S + M.S, o.es ++ [⟨1, 0, o.S, Oct.none⟩] ++ M.es.map (shiftE o.S), o.rs ++ M.rs⟩
def unions : List Ma → Ma → Ma
  | [], o => o
  | M :: Ms, o => unions Ms (addM o M)
def unionOf (Ms : List Ma) : Ma × Nat := if Ms.all rightOf then (unions Ms ⟨1, [], [0]⟩, 0) else (zeroMa, 70)
theorem unions_le : ∀ (Ms : List Ma) (o : Ma), o.es.length ≤ (unions Ms o).es.length ∧ o.rs.length ≤ (unions Ms o).rs.length
  | [], _ => ⟨Nat.le_refl _, Nat.le_refl _⟩
  | M :: Ms, o => by
    have h := unions_le Ms (addM o M)
    rw [unions]
    simp only [addM, List.length_append, List.length_cons, List.length_nil, List.length_map] at h
    simp only [addM] at h ⊢
    omega
theorem unions_has : ∀ (Ms : List Ma) (o : Ma), ∀ M ∈ Ms, M.es.length ≤ (unions Ms o).es.length ∧ M.rs.length ≤ (unions Ms o).rs.length
  | [], _, M, h => by cases h
  | M' :: Ms, o, M, h => by
    rw [unions]
    rcases List.mem_cons.1 h with rfl | h
    · have h1 := unions_le Ms (addM o M)
      simp only [addM, List.length_append, List.length_cons, List.length_nil, List.length_map] at h1
      simp only [addM] at h1 ⊢
      omega
    · exact unions_has Ms (addM o M') M h
theorem unions_step {Ms : List Ma} {i : Nat} {M : Ma} (h : Ms[i]? = some M) (o : Ma) : unions (Ms.drop i) o = unions (Ms.drop (i + 1)) (addM o M) := by
  have hlt := (List.getElem?_eq_some_iff.1 h).1
  rw [List.drop_eq_getElem_cons hlt, (List.getElem?_eq_some_iff.1 h).2, unions]
theorem right_parts {M : Ma} (h : rightOf M = true) : 1 ≤ M.S ∧ (M.rs.length : Int) = M.S ∧ ∀ e ∈ M.es, 0 ≤ e.f ∧ e.f < M.S ∧ 0 ≤ e.t ∧ e.t < M.S := by
  unfold rightOf at h
  simp only [Bool.and_eq_true, decide_eq_true_eq, List.all_eq_true] at h
  refine ⟨h.1.1, h.1.2, fun e he => ?_⟩
  have := h.2 e he
  unfold okE at this
  simp at this
  omega
/-! ### lists of machines in memory -/
def flatM (xs : List Nf) : List Value := xs.flatMap Nf.cells
theorem flatM_at {xs : List Nf} {i : Nat} {x : Nf} (h : xs[i]? = some x) {m : Nat} (hm : m < 3) : (flatM xs)[3 * i + m]? = x.cells[m]? := by
  induction xs generalizing i with
  | nil => simp at h
  | cons y r ih =>
    have hf : flatM (y :: r) = y.cells ++ flatM r := by simp [flatM]
    have hy : y.cells.length = 3 := rfl
    rw [hf]
    cases i with
    | zero =>
      simp at h
      subst h
      rw [List.getElem?_append_left (by omega)]
      simp
    | succ i =>
      rw [List.getElem?_append_right (by omega), hy, show 3 * (i + 1) + m - 3 = 3 * i + m by omega]
      exact ih (by simpa using h)
def LAt (w : World) (a : Option Addr) (xs : List Nf) : Prop := xs = [] ∨ ∃ b off, a = some ⟨b, off, none⟩ ∧ ∀ j v, (flatM xs)[j]? = some v → w.cell? ⟨b, off + j, none⟩ = some v
theorem LAt.nth {w : World} {a : Option Addr} {xs : List Nf} (h : LAt w a xs) {i : Nat} {x : Nf} (hx : xs[i]? = some x) : ∃ b off, a = some ⟨b, off, none⟩ ∧ w.cell? ⟨b, off + i * 3, none⟩ = some (.int .i64 x.S) ∧ w.cell? ⟨b, off + i * 3 + 1, none⟩ = some (.slice x.ea x.en x.ec) ∧ w.cell? ⟨b, off + i * 3 + 2, none⟩ = some (.slice x.ra x.rn x.rc) := by
  rcases h with h | ⟨b, off, ha, hc⟩
  · subst h; simp at hx
  · rw [Nat.mul_comm i 3]
    refine ⟨b, off, ha, ?_, ?_, ?_⟩
    · exact hc _ _ (flatM_at hx (m := 0) (by decide))
    · rw [Nat.add_assoc]; exact hc _ _ (flatM_at hx (m := 1) (by decide))
    · rw [Nat.add_assoc]; exact hc _ _ (flatM_at hx (m := 2) (by decide))
theorem LAt.later {w w' : World} {a : Option Addr} {xs : List Nf} (h : LAt w a xs) (hb : Below w.heap.size w w') : LAt w' a xs := by
  rcases h with h | ⟨b, off, rfl, hc⟩
  · exact Or.inl h
  · refine Or.inr ⟨b, off, rfl, fun j v hj => ?_⟩
    have h1 := hc j v hj
    exact (World.cell?_of_block (a := ⟨b, off + j, none⟩) (hb.block b (lt_of_cell h1))).trans h1
/-- A LIST OF MACHINES IN MEMORY. -/
structure ListAt (w : World) (a : Option Addr) (Ms : List Ma) (xs : List Nf) : Prop where
  at_ : LAt w a xs
  len : xs.length = Ms.length
  ma : ∀ (i : Nat) (M : Ma) (x : Nf), Ms[i]? = some M → xs[i]? = some x → MaAt (fun _ => True) w M x
theorem ListAt.later {w w' : World} {a : Option Addr} {Ms : List Ma} {xs : List Nf} (h : ListAt w a Ms xs) (hb : Below w.heap.size w w') : ListAt w' a Ms xs :=
  ⟨h.at_.later hb, h.len, fun i M x hM hx => (h.ma i M x hM hx).later hb⟩
/-! ### appends -/
theorem wpList_append_edge {w : World} {ops : Array Oper} {rest : List Oper} {o : Oper} {a : Act} {Q : Exit → Act → World → Prop} (hgd : o.guard = none) (s y : Operand)
    (ho : o.op = .call { callee := .builtin .append, args := #[s, y], argTypes := #[35, 35] })
    (base n : Nat) (V : Value) (es : List Eg) (hs : a.eval s = V) (hlen : es.length = n) (hn : RowE w base V es) (ad : Addr) (cap : Nat) (e : Eg) (hy : a.eval y = .slice (some ad) 1 cap) (hc : ∀ j v, e.cells[j]? = some v → w.cell? (ad.add j) = some v) (hl : n ≤ 20000000) (hb : base ≤ w.heap.size)
    (h : ∀ g cap' w', RowE w' base (.slice (some ⟨g, 0, none⟩) (n + 1) cap') (es ++ [e]) → w.grownBy w' V.ownBlock → wpList Try.prog ops Q rest (a.put o.dst (.slice (some ⟨g, 0, none⟩) (n + 1) cap')) w') : wpList Try.prog ops Q (o :: rest) a w := by
  refine wpList_plain hgd fun K hK => ?_
  subst hlen
  obtain ⟨i0, hi, hz0, hz1, hz2⟩ := info_parts infoE
  obtain ⟨g, cap', w', hr, ho2, hg, hgg, hlt⟩ := run_append_lies (P := Try.prog) w 35 o.type base 57 i0 _ 7 56 Try.underlying35 hi hz0 hz1 hz2 rfl (by decide) V es.length _ hn ad 1 cap e.cells rfl hc
    (by have := flatE_one [e]; simpa [flatE] using this) (by decide) (by simp only [maxLen]; omega) (by omega) hb w.heap.size rfl
  unfold Oper.wp execOp
  simp only [ho, resolve, invoke, builtin, Sem.run_bind, Sem.run_pure, Result.andThen_ok, List.map_toArray, List.map_cons, List.map_nil, hs, hy, hr]
  exact hK _ _ (h g cap' w' (rowE_snoc rfl ho2) hg)
theorem wpList_append_words {w : World} {ops : Array Oper} {rest : List Oper} {o : Oper} {a : Act} {Q : Exit → Act → World → Prop} (hgd : o.guard = none) (s y : Operand)
    (ho : o.op = .call { callee := .builtin .append, args := #[s, y], argTypes := #[36, 36] })
    (base n m : Nat) (V : Value) (rs ts : List Nat) (hs : a.eval s = V) (hlen : rs.length = n) (hn : RowU w base V rs) (b off : Nat) (cap : Nat) (hy : a.eval y = .slice (some ⟨b, off, none⟩) m cap) (hm : ts.length = m) (hm0 : 0 < m) (hc : ∀ j x, ts[j]? = some x → w.cell? ⟨b, off + j, none⟩ = some (.int .u32 (x : Nat))) (hl : n + m ≤ 20000000) (hb : base ≤ w.heap.size)
    (h : ∀ g cap' w', RowU w' base (.slice (some ⟨g, 0, none⟩) (n + m) cap') (rs ++ ts) → w.grownBy w' V.ownBlock → wpList Try.prog ops Q rest (a.put o.dst (.slice (some ⟨g, 0, none⟩) (n + m) cap')) w') : wpList Try.prog ops Q (o :: rest) a w := by
  refine wpList_plain hgd fun K hK => ?_
  subst hlen hm
  obtain ⟨i0, hi, hz0, hz1, hz2⟩ := info_parts infoU
  obtain ⟨g, cap', w', hr, ho2, hg, hgg, hlt⟩ := run_append_lies (P := Try.prog) w 36 o.type base 44 i0 _ 1 4 Try.underlying36 hi hz0 hz1 hz2 rfl (by decide) V rs.length _ hn ⟨b, off, none⟩ ts.length cap (wds ts) (by rw [wds_length, Nat.mul_one])
    (fun j v hj => by
      unfold wds at hj
      rw [List.getElem?_map] at hj
      cases hx : ts[j]? with
      | none => rw [hx] at hj; cases hj
      | some x =>
        rw [hx] at hj
        cases hj
        rw [Go.WideShapes.add_plain]
        exact hc j x hx) (fun v hv => by
      unfold wds at hv
      obtain ⟨x, _, rfl⟩ := List.mem_map.1 hv
      rfl) hm0 (by simp only [maxLen]; omega) (by omega) hb w.heap.size rfl
  unfold Oper.wp execOp
  simp only [ho, resolve, invoke, builtin, Sem.run_bind, Sem.run_pure, Result.andThen_ok, List.map_toArray, List.map_cons, List.map_nil, hs, hy, hr]
  refine hK _ _ (h g cap' w' ?_ hg)
  unfold RowU
  rw [List.length_append]
  have e : wds (rs ++ ts) = wds rs ++ wds ts := by simp [wds]
  rw [e]
  exact ho2
/-! ### the union under way -/
/-- THE STATE of Union: the machine so far, in block O; the answer's block R. -/
structure Un (w : World) (O R : Nat) (u : World) (x : Nf) (o : Ma) : Prop where
  nf : NFB u O x
  res : NFB u R ⟨0, none, 0, 0, none, 0, 0⟩
  s : x.S = o.S
  e : RowE u w.heap.size (.slice x.ea x.en x.ec) o.es
  r : RowU u w.heap.size (.slice x.ra x.rn x.rc) o.rs
  low : Below w.heap.size w u
  hO : w.heap.size ≤ O
  hR : w.heap.size ≤ R
  ne : R ≠ O
section
variable {w : World} {O R : Nat} {u u' : World} {x : Nf} {o : Ma}
theorem Un.later (h : Un w O R u x o) (hb : Below u.heap.size u u') : Un w O R u' x o :=
  ⟨h.nf.later hb, h.res.later hb, h.s, h.e.later hb, h.r.later hb, below_step h.low hb, h.hO, h.hR, h.ne⟩
theorem Un.en (h : Un w O R u x o) : x.en = o.es.length := h.e.at.1
theorem Un.rn (h : Un w O R u x o) : x.rn = o.rs.length := h.r.at.1
/-- the edges gone on in memory, not yet laid down -/
theorem Un.edge (h : Un w O R u x o) {V : Value} {e : Eg} {g cap : Nat} (hV : V = .slice (some ⟨g, 0, none⟩) (x.en + 1) cap) (hr : RowE u' w.heap.size V (o.es ++ [e])) (hg : u.grownBy u' (Value.slice x.ea x.en x.ec).ownBlock) :
    Un w O R (u'.setCell ⟨O, 1, none⟩ V) ⟨x.S, some ⟨g, 0, none⟩, x.en + 1, cap, x.ra, x.rn, x.rc⟩ ⟨o.S, o.es ++ [e], o.rs⟩ ∧ (∃ v, u'.cell? ⟨O, 1, none⟩ = some v) ∧ u'.frozen? ⟨O, 1, none⟩ = false ∧ ∀ (A : Nat) (y : Nf), NFB u A y → A ≠ O → NFB (u'.setCell ⟨O, 1, none⟩ V) A y := by
  subst hV
  have hown := h.e.ty
  have hst : ∀ {t : TypeId} {b : Nat}, TyB u t b → t ≠ 57 → u'.heap[b]? = u.heap[b]? := fun {t b} hb ht => by
    obtain ⟨c, z, hc⟩ := hb
    exact hg.block b (Array.getElem?_eq_some_iff.1 hc).1 (fun e => ht (TyB.ne ⟨c, z, hc⟩ (hown b e.symm).2))
  have h1 : u'.heap[O]? = _ := (hst h.nf.ty (by decide)).trans h.nf
  have h2 : NFB u' R _ := (hst h.res.ty (by decide)).trans h.res
  refine ⟨⟨heap_set h1 1 _, (Below.heap_setCell u' ⟨O, 1, none⟩ _ R h.ne).trans h2, h.s, hr.set (t := 38) ⟨_, _, h1⟩ (by decide) _ _, ?_, ?_, h.hO, h.hR, h.ne⟩, ⟨.slice x.ea x.en x.ec, by simp [World.cell?, h1]⟩, by simp [World.frozen?, h1], fun A y hA hne => (Below.heap_setCell u' ⟨O, 1, none⟩ _ A hne).trans ((hst hA.ty (by decide)).trans hA)⟩
  · exact (h.r.keep (w' := u') (fun b _ _ hb => hst hb (by decide))).set (t := 38) ⟨_, _, h1⟩ (by decide) _ _
  · refine Below.setCell (p := ⟨O, 1, none⟩) ⟨hg.os.trans h.low.os, hg.tape.trans h.low.tape, hg.output.trans h.low.output, Nat.le_trans h.low.size hg.size, fun k hk => (hg.block k (Nat.lt_of_lt_of_le hk h.low.size) (fun e => ?_)).trans (h.low.block k hk)⟩ h.hO _
    have := (hown k e.symm).1
    omega
theorem Un.words (h : Un w O R u x o) {V : Value} {ts : List Nat} {g n cap : Nat} (hV : V = .slice (some ⟨g, 0, none⟩) n cap) (hr : RowU u' w.heap.size V (o.rs ++ ts)) (hg : u.grownBy u' (Value.slice x.ra x.rn x.rc).ownBlock) :
    Un w O R (u'.setCell ⟨O, 2, none⟩ V) ⟨x.S, x.ea, x.en, x.ec, some ⟨g, 0, none⟩, n, cap⟩ ⟨o.S, o.es, o.rs ++ ts⟩ ∧ (∃ v, u'.cell? ⟨O, 2, none⟩ = some v) ∧ u'.frozen? ⟨O, 2, none⟩ = false ∧ ∀ (A : Nat) (y : Nf), NFB u A y → A ≠ O → NFB (u'.setCell ⟨O, 2, none⟩ V) A y := by
  subst hV
  have hown := h.r.ty
  have hst : ∀ {t : TypeId} {b : Nat}, TyB u t b → t ≠ 44 → u'.heap[b]? = u.heap[b]? := fun {t b} hb ht => by
    obtain ⟨c, z, hc⟩ := hb
    exact hg.block b (Array.getElem?_eq_some_iff.1 hc).1 (fun e => ht (TyB.ne ⟨c, z, hc⟩ (hown b e.symm).2))
  have h1 : u'.heap[O]? = _ := (hst h.nf.ty (by decide)).trans h.nf
  have h2 : NFB u' R _ := (hst h.res.ty (by decide)).trans h.res
  refine ⟨⟨heap_set h1 2 _, (Below.heap_setCell u' ⟨O, 2, none⟩ _ R h.ne).trans h2, h.s, ?_, hr.set (t := 38) ⟨_, _, h1⟩ (by decide) _ _, ?_, h.hO, h.hR, h.ne⟩, ⟨.slice x.ra x.rn x.rc, by simp [World.cell?, h1]⟩, by simp [World.frozen?, h1], fun A y hA hne => (Below.heap_setCell u' ⟨O, 2, none⟩ _ A hne).trans ((hst hA.ty (by decide)).trans hA)⟩
  · exact (h.e.keep (w' := u') (fun b _ _ hb => hst hb (by decide))).set (t := 38) ⟨_, _, h1⟩ (by decide) _ _
  · refine Below.setCell (p := ⟨O, 2, none⟩) ⟨hg.os.trans h.low.os, hg.tape.trans h.low.tape, hg.output.trans h.low.output, Nat.le_trans h.low.size hg.size, fun k hk => (hg.block k (Nat.lt_of_lt_of_le hk h.low.size) (fun e => ?_)).trans (h.low.block k hk)⟩ h.hO _
    have := (hown k e.symm).1
    omega
theorem Un.states (h : Un w O R u x o) (S : Int) : Un w O R (u.setCell ⟨O, 0, none⟩ (.int .i64 S)) ⟨S, x.ea, x.en, x.ec, x.ra, x.rn, x.rc⟩ ⟨S, o.es, o.rs⟩ :=
  ⟨heap_set h.nf 0 _, (Below.heap_setCell u ⟨O, 0, none⟩ _ R h.ne).trans h.res, rfl, h.e.set (t := 38) h.nf.ty (by decide) _ _, h.r.set (t := 38) h.nf.ty (by decide) _ _, h.low.setCell (p := ⟨O, 0, none⟩) h.hO _, h.hO, h.hR, h.ne⟩
end
end Go.Proofs.Ytjmbimgofceanaa

/- Sets of states as rows of bools; closing one under moves without a byte. -/
namespace Go.Proofs.Ytjmbimgofceanaa
open Go.RowKit

def bls (bs : List Bool) : List Value := bs.map Value.bool
theorem bls_length (bs : List Bool) : (bls bs).length = bs.length := List.length_map _
def RowB (w : World) (base : Nat) (V : Value) (bs : List Bool) : Prop := w.ownsRow base 4 1 V bs.length (bls bs)
theorem infoB : (Try.prog.info? 4).map (fun i => (i.zero, i.size, i.bytes)) = some (some (.bool false), 1, 1) := by kernel_rfl
section
variable {w w' : World} {base g n c : Nat} {bs : List Bool}
theorem RowB.cell (h : RowB w base (.slice (some ⟨g, 0, none⟩) n c) bs) {i : Nat} {x : Bool} (hx : bs[i]? = some x) : w.cell? ⟨g, i, none⟩ = some (.bool x) ∧ w.frozen? ⟨g, i, none⟩ = false := by
  have hlt := (List.getElem?_eq_some_iff.1 hx).1
  rcases h.2 with ⟨hv, _⟩ | ⟨g', cap, cur, hv, hbg, hg, h1, h2, h3, h4⟩
  · cases hv
  · cases hv
    have e : (bls bs)[i]? = some (.bool x) := by unfold bls; rw [List.getElem?_map, hx]; rfl
    rw [← h4, List.getElem?_take_of_lt (by omega)] at e
    refine ⟨?_, by simp [World.frozen?, hg]⟩
    simp only [World.cell?, hg]
    simpa using e
theorem RowB.put (h : RowB w base (.slice (some ⟨g, 0, none⟩) n c) bs) (i : Nat) (x : Bool) : RowB (w.setCell ⟨g, i, none⟩ (.bool x)) base (.slice (some ⟨g, 0, none⟩) n c) (bs.set i x) := by
  refine ⟨by simp [bls], ?_⟩
  rcases h.2 with ⟨hv, _⟩ | ⟨g', cap, cur, hv, hbg, hg, h1, h2, h3, h4⟩
  · cases hv
  · cases hv
    refine Or.inr ⟨g, c, _, by simp, hbg, heap_set hg i _, by simpa using h1, h2, by simpa using h3, ?_⟩
    rw [Array.toList_setIfInBounds, List.take_set]
    have e : bls (bs.set i x) = (bls bs).set i (.bool x) := by unfold bls; rw [List.map_set]
    rw [e, List.length_set, h4]
theorem RowB.same (h : RowB w base (.slice (some ⟨g, 0, none⟩) n c) bs) (e : w'.heap[g]? = w.heap[g]?) : RowB w' base (.slice (some ⟨g, 0, none⟩) n c) bs := by
  refine ⟨h.1, ?_⟩
  rcases h.2 with ⟨hv, _⟩ | ⟨g', cap, cur, hv, hbg, hg, rest⟩
  · cases hv
  · cases hv
    exact Or.inr ⟨g, c, cur, rfl, hbg, e.trans hg, rest⟩
theorem RowB.lt (h : RowB w base (.slice (some ⟨g, 0, none⟩) n c) bs) : g < w.heap.size ∧ n = bs.length ∧ base ≤ g := by
  rcases h.2 with ⟨hv, _⟩ | ⟨g', cap, cur, hv, hbg, hg, _⟩
  · cases hv
  · cases hv
    exact ⟨(Array.getElem?_eq_some_iff.1 hg).1, rfl, hbg⟩
theorem RowB.ty (h : RowB w base (.slice (some ⟨g, 0, none⟩) n c) bs) : TyB w 4 g := by
  rcases h.2 with ⟨hv, _⟩ | ⟨g', cap, cur, hv, hbg, hg, _⟩
  · cases hv
  · cases hv
    exact ⟨_, _, hg⟩
end
/-- a move without a byte -/
def moves (b e : Bool) (x : Eg) : Bool := decide (x.k = 1) || (decide (x.k = 3) && b) || (decide (x.k = 4) && e)
def at_ (l : List Bool) (i : Int) : Bool := (l[i.toNat]?).getD false
/-- closed under such moves -/
def Closed (es : List Eg) (b e : Bool) (l : List Bool) : Prop := ∀ x ∈ es, moves b e x = true → at_ l x.f = true → at_ l x.t = true
def Sub (l m : List Bool) : Prop := l.length = m.length ∧ ∀ i : Nat, (l[i]?).getD false = true → (m[i]?).getD false = true
/-- THE CLOSURE of a set of states: the least that is closed. -/
structure Clo (es : List Eg) (b e : Bool) (l m : List Bool) : Prop where
  sub : Sub l m
  closed : Closed es b e m
  least : ∀ k, Sub l k → Closed es b e k → Sub m k
theorem Sub.refl (l : List Bool) : Sub l l := ⟨rfl, fun _ h => h⟩
theorem Sub.trans {l m k : List Bool} (h : Sub l m) (h2 : Sub m k) : Sub l k := ⟨h.1.trans h2.1, fun i hi => h2.2 i (h.2 i hi)⟩
theorem sub_set (l : List Bool) (i : Nat) : Sub l (l.set i true) := by
  refine ⟨by simp, fun j hj => ?_⟩
  rw [List.getElem?_set]
  split
  · split
    · rfl
    · rename_i h1 h2
      subst h1
      rw [List.getElem?_eq_none (by omega)] at hj
      simp at hj
  · exact hj
theorem set_sub {l k : List Bool} (h : Sub l k) {i : Nat} (hk : (k[i]?).getD false = true) : Sub (l.set i true) k := by
  refine ⟨by simpa using h.1, fun j hj => ?_⟩
  by_cases e : i = j
  · subst e; exact hk
  · rw [List.getElem?_set_ne e] at hj
    exact h.2 j hj
theorem count_set : ∀ {l : List Bool} {i : Nat}, l[i]? = some false → (l.set i true).count false + 1 = l.count false
  | [], i, h => by simp at h
  | x :: l, 0, h => by simp at h; subst h; simp
  | x :: l, i + 1, h => by
    have := count_set (l := l) (i := i) (by simpa using h)
    simp only [List.set_cons_succ, List.count_cons]
    omega
end Go.Proofs.Ytjmbimgofceanaa

/- heronlaw07's reach. -/
namespace Go.Proofs.Ytjmbimgofceanaa
open Go.RowKit
attribute [local go_sem ↓] Go.wp_at_zero Go.wp_at_succ

def isF : Value → Bool
  | .bool false => true
  | _ => false
def tv : Value → Nat
  | .bool true => 1
  | _ => 0
def cfw (u : World) (g n : Nat) : Nat := match u.heap[g]? with
  | some (.cells cur _ _) => (cur.toList.take n).countP isF
  | _ => 0
theorem countP_bls (bs : List Bool) : (bls bs).countP isF = bs.count false := by
  induction bs with
  | nil => rfl
  | cons x r ih =>
    simp only [bls, List.map_cons, List.countP_cons, List.count_cons] at ih ⊢
    rw [ih]
    cases x <;> simp [isF]
theorem RowB.cf {w : World} {base g n c : Nat} {bs : List Bool} (h : RowB w base (.slice (some ⟨g, 0, none⟩) n c) bs) : cfw w g n = bs.count false := by
  have hn := h.lt.2.1
  rcases h.2 with ⟨hv, _⟩ | ⟨g', cap, cur, hv, hbg, hg, h1, h2, h3, h4⟩
  · cases hv
  · cases hv
    unfold cfw
    rw [hg]
    simp only
    rw [← countP_bls, ← h4, Nat.mul_one]
/-- THE STATE of reach. -/
structure Rc (w : World) (A g base n c : Nat) (x : Nf) (u : World) (cur : List Bool) : Prop where
  nf : NFB u A x
  row : RowB u base (.slice (some ⟨g, 0, none⟩) n c) cur
  fr : w.grownBy u (some g)
  ne : A ≠ g
section
variable {w : World} {A g base n c : Nat} {x : Nf} {u u' : World} {cur : List Bool}
theorem Rc.later (h : Rc w A g base n c x u cur) (hb : Below u.heap.size u u') : Rc w A g base n c x u' cur :=
  ⟨h.nf.later hb, h.row.same (hb.block g h.row.lt.1), ⟨hb.os.trans h.fr.os, hb.tape.trans h.fr.tape, hb.output.trans h.fr.output, Nat.le_trans h.fr.size hb.size, fun k hk hne => (hb.block k (Nat.lt_of_lt_of_le hk h.fr.size)).trans (h.fr.block k hk hne)⟩, h.ne⟩
theorem Rc.put (h : Rc w A g base n c x u cur) (i : Nat) (v : Bool) : Rc w A g base n c x (u.setCell ⟨g, i, none⟩ (.bool v)) (cur.set i v) :=
  ⟨(Below.heap_setCell u ⟨g, i, none⟩ _ A h.ne).trans h.nf, h.row.put i v, ⟨h.fr.os, h.fr.tape, h.fr.output, by simpa [World.setCell] using h.fr.size, fun k hk hne => (Below.heap_setCell u ⟨g, i, none⟩ _ k (fun e => hne (by rw [e]))).trans (h.fr.block k hk hne)⟩, h.ne⟩
end
theorem closed_snoc {es : List Eg} {b e : Bool} {l : List Bool} {k : Nat} {y : Eg} (h : Closed (es.take k) b e l) (hy : es[k]? = some y) (hm : moves b e y = true → at_ l y.f = true → at_ l y.t = true) : Closed (es.take (k + 1)) b e l := by
  intro z hz
  rw [List.take_add_one, hy] at hz
  rcases List.mem_append.1 hz with hz | hz
  · exact h z hz
  · simp at hz
    subst hz
    exact hm
set_option maxRecDepth 4000 in
set_option maxHeartbeats 32000000 in
theorem reach_any {M : Ma} {x : Nf} {g n c base : Nat} {bs : List Bool} (w : World) (hM : MaAt (fun b => b ≠ g) w M x) (hE : M.es.length ≤ 10000000) (hR : ∀ y ∈ M.es, 0 ≤ y.f ∧ y.f < n ∧ 0 ≤ y.t ∧ y.t < n) (hB : RowB w base (.slice (some ⟨g, 0, none⟩) n c) bs) (b e : Bool) :
    Calls Try.prog 36 #[x.val, (.slice (some ⟨g, 0, none⟩) n c), .bool b, .bool e] w fun r w' => r = .returned (.tuple #[]) ∧ w.grownBy w' (some g) ∧ ∃ ms, Clo M.es b e bs ms ∧ RowB w' base (.slice (some ⟨g, 0, none⟩) n c) ms := by
  have kk : Below w.heap.size w (w.alloc (.cells #[.int .i64 x.S, .slice x.ea x.en x.ec, .slice x.ra x.rn x.rc] 38)) := (Below.refl _ _).alloc (Nat.le_refl _) _
  have HRC : Hid (Rc w w.heap.size g base n c x (w.alloc (.cells #[.int .i64 x.S, .slice x.ea x.en x.ec, .slice x.ra x.rn x.rc] 38)) bs) := ⟨nfb_new w x, hB.same (kk.block g hB.lt.1), ⟨kk.os, kk.tape, kk.output, kk.size, fun k hk _ => kk.block k hk⟩, by have := hB.lt.1; omega⟩
  obtain ⟨w1, hw1⟩ : ∃ w1, w.alloc (.cells #[.int .i64 x.S, .slice x.ea x.en x.ec, .slice x.ra x.rn x.rc] 38) = w1 := ⟨_, rfl⟩
  obtain ⟨A, hA⟩ : ∃ A, w.heap.size = A := ⟨_, rfl⟩
  rw [hw1] at HRC
  rw [hA] at HRC
  have HW1 : Hid (w.alloc (.cells #[.int .i64 x.S, .slice x.ea x.en x.ec, .slice x.ra x.rn x.rc] 38) = w1) := hw1
  have HAA : Hid (w.heap.size = A) := hA
  have HMA : Hid (MaAt (fun b => b ≠ g) w M x) := hM
  have HRG : Hid (∀ y ∈ M.es, 0 ≤ y.f ∧ y.f < n ∧ 0 ≤ y.t ∧ y.t < n) := hR
  have HBN : Hid (bs.length = n) := hB.lt.2.1.symm
  clear hw1 hA kk hM hR hB
  obtain ⟨xS, xa, en, xc, xra, xrn, xrc⟩ := x
  have e3 : en = M.es.length := HMA.out.n
  have HEN : Hid (M.es.length = en) := e3.symm
  rw [← e3] at hE
  clear e3
  unfold Nf.val
  simp only at HW1 ⊢
  go_enter Try.func36, Try.ntmps36
  go_upto_region 1 with fail
  rw [HW1.out, HAA.out]
  clear HW1
  go_wp2_with fail
  go_loopw [8] (fun mv u => ∃ (cur : List Bool) (more : Bool), mv = .bool more ∧ Hid (Rc w A g base n c ⟨xS, xa, en, xc, xra, xrn, xrc⟩ u cur) ∧ Hid (Sub bs cur) ∧ Hid (∀ k, Sub bs k → Closed M.es b e k → Sub cur k) ∧ Hid (more = false → Closed M.es b e cur)) (fun mv u => 2 * cfw u g n + tv mv)
  case atStart => exact ⟨bs, true, rfl, HRC, Sub.refl _, fun _ h _ => h, fun h => by cases h⟩
  case round =>
    clear HRC
    obtain ⟨cur0, more0, rfl, HRc0, HSb0, HLs0, HCl0⟩ := hrel
    cases more0 with
    | false =>
      have HF : Hid (w.grownBy wr (some g) ∧ ∃ ms, Clo M.es b e bs ms ∧ RowB wr base (.slice (some ⟨g, 0, none⟩) n c) ms) := ⟨HRc0.out.fr, cur0, ⟨HSb0.out, HCl0.out rfl, HLs0.out⟩, HRc0.out.row⟩
      go_wp2
      go_end0
      exact ⟨rfl, HF.out⟩
    | true =>
      have HM0 : Hid (cfw wr g n = cur0.count false) := HRc0.out.row.cf
      obtain ⟨x0, x1, x2⟩ := HRc0.out.nf.cells
      simp only at x0 x1 x2
      obtain ⟨v0, hv0⟩ : ∃ v0 : World, v0 = wr := ⟨_, rfl⟩
      subst hv0
      go_wp2_with fail
      clear x0 x1 x2
      go_loopw [8, 16] (fun mv i u => ∃ (k : Nat) (cur : List Bool) (more : Bool), mv = .bool more ∧ i = .int .i64 (k : Nat) ∧ k ≤ en ∧ Hid (Rc w A g base n c ⟨xS, xa, en, xc, xra, xrn, xrc⟩ u cur) ∧ Hid (Sub bs cur) ∧ Hid (∀ k, Sub bs k → Closed M.es b e k → Sub cur k) ∧ Hid (more = false → cur = cur0 ∧ Closed (M.es.take k) b e cur) ∧ Hid (more = true → cur.count false < cur0.count false)) (fun _ i _ => en - (intOf i).toNat)
      case atStart => exact ⟨0, cur0, false, rfl, rfl, Nat.zero_le _, HRc0, HSb0, HLs0, fun _ => ⟨rfl, fun z hz => by simp at hz⟩, fun h => by cases h⟩
      case round =>
        clear HRc0 HSb0 HLs0
        obtain ⟨k, cur, more, rfl, rfl, hkn, HRc, HSb, HLs, HCl, HCt⟩ := hrel
        by_cases hlt : k < en
        · have hlt' : (k : Int) < (en : Int) := by omega
          obtain ⟨y, hy⟩ : ∃ y, M.es[k]? = some y := ⟨_, List.getElem?_eq_getElem (by rw [HEN.out]; exact hlt)⟩
          obtain ⟨hf0, hf1, ht0, ht1⟩ := HRG.out y (List.mem_of_getElem? hy)
          have HE2 := HMA.out.e
          obtain ⟨b', off, rfl, p0, p1, p2, p3, p4, p5, p6⟩ := (HE2.keep (w' := wr) (Y := fun _ => True) (fun _ _ _ => trivial) (fun k hX hk => HRc.out.fr.block k hk (fun e => hX (Option.some.inj e)))).nth hy
          have HYY : Hid (M.es[k]? = some y) := hy
          clear hy HE2
          have kk : Below wr.heap.size wr (wr.alloc (.cells #[.int .i64 y.k, .int .i64 y.f, .int .i64 y.t, .int .u64 (Oct.word y.s 0 : Nat), .int .u64 (Oct.word y.s 1 : Nat), .int .u64 (Oct.word y.s 2 : Nat), .int .u64 (Oct.word y.s 3 : Nat)] 57)) := (Below.refl _ _).alloc (Nat.le_refl _) _
          have HR1 : Hid (Rc w A g base n c ⟨xS, some ⟨b', off, none⟩, en, xc, xra, xrn, xrc⟩ (wr.alloc (.cells #[.int .i64 y.k, .int .i64 y.f, .int .i64 y.t, .int .u64 (Oct.word y.s 0 : Nat), .int .u64 (Oct.word y.s 1 : Nat), .int .u64 (Oct.word y.s 2 : Nat), .int .u64 (Oct.word y.s 3 : Nat)] 57)) cur) := HRc.out.later kk
          have HG4 : Hid ((wr.alloc (.cells #[.int .i64 y.k, .int .i64 y.f, .int .i64 y.t, .int .u64 (Oct.word y.s 0 : Nat), .int .u64 (Oct.word y.s 1 : Nat), .int .u64 (Oct.word y.s 2 : Nat), .int .u64 (Oct.word y.s 3 : Nat)] 57)).heap[wr.heap.size]? = some (.cells #[.int .i64 y.k, .int .i64 y.f, .int .i64 y.t, .int .u64 (Oct.word y.s 0 : Nat), .int .u64 (Oct.word y.s 1 : Nat), .int .u64 (Oct.word y.s 2 : Nat), .int .u64 (Oct.word y.s 3 : Nat)] 57 (0, 0))) := heap_alloc_new wr _
          clear kk
          go_upto_region 7 with fail
          obtain ⟨w4, hw4⟩ : ∃ w4, wr.alloc (.cells #[.int .i64 y.k, .int .i64 y.f, .int .i64 y.t, .int .u64 (Oct.word y.s 0 : Nat), .int .u64 (Oct.word y.s 1 : Nat), .int .u64 (Oct.word y.s 2 : Nat), .int .u64 (Oct.word y.s 3 : Nat)] 57) = w4 := ⟨_, rfl⟩
          obtain ⟨G, hG⟩ : ∃ G, wr.heap.size = G := ⟨_, rfl⟩
          rw [hw4] at HR1 HG4 ⊢
          rw [hG] at HG4 ⊢
          clear hw4 hG p0 p1 p2 p3 p4 p5 p6 HRc
          have g0 : w4.cell? ⟨G, 0, none⟩ = some (.int .i64 y.k) := by simp [World.cell?, HG4.out]
          have g1 : w4.cell? ⟨G, 1, none⟩ = some (.int .i64 y.f) := by simp [World.cell?, HG4.out]
          have g2 : w4.cell? ⟨G, 2, none⟩ = some (.int .i64 y.t) := by simp [World.cell?, HG4.out]
          obtain ⟨fv, hfv⟩ : ∃ fv, moves b e y = fv := ⟨_, rfl⟩
          have HFV : Hid (moves b e y = fv) := hfv
          clear hfv
          go_cut [11] (fun v wx => v = .bool fv ∧ wx = w4)
          case first =>
            by_cases h1 : y.k = 1
            · have h1a : (y.k == 1) = true := by simp [h1]
              go_wp2_with fail
              go_meet
              case rel => exact ⟨by rw [← HFV.out]; unfold moves; simp [h1], rfl⟩
            have h1a : (y.k == 1) = false := by simp [h1]
            by_cases h3 : y.k = 3
            · have h3a : (y.k == 3) = true := by simp [h3]
              have h4a : (y.k == 4) = false := by simp [h3]
              cases b with
              | false =>
                go_wp2_with fail
                go_meet
                case rel => exact ⟨by rw [← HFV.out]; unfold moves; simp [h3], rfl⟩
              | true =>
                go_wp2_with fail
                go_meet
                case rel => exact ⟨by rw [← HFV.out]; unfold moves; simp [h3], rfl⟩
            have h3a : (y.k == 3) = false := by simp [h3]
            by_cases h4 : y.k = 4
            · have h4a : (y.k == 4) = true := by simp [h4]
              cases e with
              | false =>
                go_wp2_with fail
                go_meet
                case rel => exact ⟨by rw [← HFV.out]; unfold moves; simp [h4], rfl⟩
              | true =>
                go_wp2_with fail
                go_meet
                case rel => exact ⟨by rw [← HFV.out]; unfold moves; simp [h4], rfl⟩
            have h4a : (y.k == 4) = false := by simp [h4]
            go_wp2_with fail
            go_meet
            case rel => exact ⟨by rw [← HFV.out]; unfold moves; simp [h1, h3, h4], rfl⟩
          case rest =>
          obtain ⟨rfl, hwc⟩ := hcut
          subst hwc
          have HLC : Hid (cur.length = n) := HSb.out.1.symm.trans HBN.out
          obtain ⟨F, hF⟩ : ∃ F : Nat, y.f = (F : Nat) := ⟨y.f.toNat, by omega⟩
          obtain ⟨T, hT⟩ : ∃ T : Nat, y.t = (T : Nat) := ⟨y.t.toNat, by omega⟩
          have HFT : Hid (y.f = (F : Nat) ∧ y.t = (T : Nat)) := ⟨hF, hT⟩
          rw [hF] at g1 hf0 hf1
          rw [hT] at g2 ht0 ht1
          clear hF hT
          obtain ⟨p, hp⟩ : ∃ p, cur[F]? = some p := ⟨_, List.getElem?_eq_getElem (by rw [HLC.out]; omega)⟩
          obtain ⟨q, hq⟩ : ∃ q, cur[T]? = some q := ⟨_, List.getElem?_eq_getElem (by rw [HLC.out]; omega)⟩
          have HPQ : Hid (cur[F]? = some p ∧ cur[T]? = some q) := ⟨hp, hq⟩
          obtain ⟨c1, _⟩ := HR1.out.row.cell hp
          obtain ⟨c2, f2⟩ := HR1.out.row.cell hq
          have HAF : Hid (at_ cur y.f = p ∧ at_ cur y.t = q) := by
            unfold at_
            rw [HFT.out.1, HFT.out.2, Int.toNat_natCast, Int.toNat_natCast, hp, hq]
            exact ⟨rfl, rfl⟩
          clear hp hq
          cases fv with
          | false =>
            have HCn : Hid (more = false → cur = cur0 ∧ Closed (M.es.take (k + 1)) b e cur) := fun h => ⟨(HCl.out h).1, closed_snoc (HCl.out h).2 HYY.out (fun h2 => by rw [HFV.out] at h2; cases h2)⟩
            go_wp2_with fail
            go_roundw
            case rel => exact ⟨k + 1, cur, more, rfl, by go_num, by omega, HR1, HSb, HLs, HCn, HCt⟩
            case measure => simp [intOf]; omega
          | true =>
          cases p with
          | false =>
            have HCn : Hid (more = false → cur = cur0 ∧ Closed (M.es.take (k + 1)) b e cur) := fun h => ⟨(HCl.out h).1, closed_snoc (HCl.out h).2 HYY.out (fun _ h2 => by rw [HAF.out.1] at h2; cases h2)⟩
            go_wp2_with fail
            go_roundw
            case rel => exact ⟨k + 1, cur, more, rfl, by go_num, by omega, HR1, HSb, HLs, HCn, HCt⟩
            case measure => simp [intOf]; omega
          | true =>
          cases q with
          | true =>
            have HCn : Hid (more = false → cur = cur0 ∧ Closed (M.es.take (k + 1)) b e cur) := fun h => ⟨(HCl.out h).1, closed_snoc (HCl.out h).2 HYY.out (fun _ _ => HAF.out.2)⟩
            go_wp2_with fail
            go_roundw
            case rel => exact ⟨k + 1, cur, more, rfl, by go_num, by omega, HR1, HSb, HLs, HCn, HCt⟩
            case measure => simp [intOf]; omega
          | false =>
            have HR2 : Hid (Rc w A g base n c ⟨xS, some ⟨b', off, none⟩, en, xc, xra, xrn, xrc⟩ (wc.setCell ⟨g, T, none⟩ (.bool true)) (cur.set T true)) := HR1.out.put T true
            have HS2 : Hid (Sub bs (cur.set T true)) := HSb.out.trans (sub_set cur T)
            have HL2 : Hid (∀ k, Sub bs k → Closed M.es b e k → Sub (cur.set T true) k) := fun k' h1 h2 => by
              have h3 := HLs.out k' h1 h2
              refine set_sub h3 ?_
              have h4 : at_ k' y.f = true := by
                unfold at_
                rw [HFT.out.1, Int.toNat_natCast]
                exact h3.2 F (by rw [HPQ.out.1]; rfl)
              have h5 := h2 y (List.mem_of_getElem? HYY.out) HFV.out h4
              unfold at_ at h5
              rw [HFT.out.2, Int.toNat_natCast] at h5
              exact h5
            have HT2 : Hid (true = true → (cur.set T true).count false < cur0.count false) := fun _ => by
              have h1 := count_set HPQ.out.2
              cases more with
              | false => have h2 := (HCl.out rfl).1; rw [h2] at h1 ⊢; omega
              | true => have h2 := HCt.out rfl; omega
            go_wp2_with fail
            go_roundw
            case rel => exact ⟨k + 1, cur.set T true, true, rfl, by go_num, by omega, HR2, HS2, HL2, (fun h => by cases h), HT2⟩
            case measure => simp [intOf]; omega
        · have hlt' : ¬ (k : Int) < (en : Int) := by omega
          have HC2 : Hid (more = false → Closed M.es b e cur) := fun h => by
            have h2 := (HCl.out h).2
            rw [List.take_of_length_le (by rw [HEN.out]; omega)] at h2
            exact h2
          have HM1 : Hid (cfw wr g n = cur.count false) := HRc.out.row.cf
          have HM2 : Hid (2 * cur.count false + tv (.bool more) < 2 * cur0.count false + 1) := by
            show _ < _
            cases more with
            | false => rw [(HCl.out rfl).1]; simp [tv]
            | true => have := HCt.out rfl; simp [tv]; omega
          go_wp2_with fail
          go_roundw
          case rel => exact ⟨cur, more, rfl, HRc, HSb, HLs, HC2⟩
          case measure => rw [HM0.out, HM1.out]; exact HM2.out
end Go.Proofs.Ytjmbimgofceanaa
