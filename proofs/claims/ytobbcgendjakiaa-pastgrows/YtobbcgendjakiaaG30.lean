/- A past in memory. -/
import Derived.Test.YtobbcgendjakiaaG28
import Derived.DeepKeys4
namespace Go.Proofs.Ytobbcgendjakiaa
open Go.RowKit Go.Maps Sf

/-! ### maps whose keys are pairs of numbers -/
def kvG (k : Int × Int) : Value := .agg #[.int .i64 k.1, .int .i64 k.2]
def goodG (k : Int × Int) : Prop := goodI k.1 ∧ goodI k.2
theorem kvG_inj (a b : Int × Int) (h : kvG a = kvG b) : a = b := by
  obtain ⟨a1, a2⟩ := a
  obtain ⟨b1, b2⟩ := b
  simp [kvG] at h
  exact Prod.ext h.1 h.2
set_option maxRecDepth 20000 in
theorem lawG : Keyed Try.prog 79 := Keyed.of_law (deep_law (m := 2) (by omega) (by kernel_rfl) (by kernel_rfl) (by kernel_rfl))
theorem wf_goodI {x : Int} (h : goodI x) : (Lit.int .i64 x).wf = true := by
  unfold goodI at h
  simp [Lit.wf, IntKind.min, IntKind.max, IntKind.signed, IntKind.bits]; omega
set_option maxRecDepth 20000 in
theorem keyG (p : Int × Int) (h : goodG p) : keyOf Try.prog 79 (kvG p) = some (klit 79 kvG p) := by
  have hs : (keyOf Try.prog 79 (kvG p)).isSome = true := by
    have hu := Try.underlying79
    have hu2 : Try.prog.underlying 3 = some (.int .i64) := Try.underlying3
    have hk : Try.prog.keyType 79 = true := by kernel_rfl
    have hc : Try.prog.cellsOf 79 = 2 := by kernel_rfl
    have hc2 : Try.prog.cellsOf 3 = 1 := by kernel_rfl
    have hf : (kvG p).formed Try.prog 79 = true := by simp [kvG, Value.formed, hu, hc]
    obtain ⟨n, hn⟩ : ∃ n, Try.prog.types.size = n + 1 := ⟨Try.prog.types.size - 1, by kernel_rfl⟩
    unfold keyOf
    rw [hu]
    simp only [hk, hf, hn]
    simp [kvG, Program.keyLits, hu, hu2, hc, hc2, Value.cells, wf_goodI h.1, wf_goodI h.2]
  unfold klit
  cases e : keyOf Try.prog 79 (kvG p) with
  | none => rw [e] at hs; cases hs
  | some l => rfl
/-! ### a past -/
def labV (q : Nat) (V : Value) : Value := .agg #[.int .i64 (q : Nat), V]
def labZ : Value := .agg #[.int .i64 0, .slice none 0 0]
structure La where
  ms : Nat
  mg : Nat
  mn : Nat
  cs : Nat
  cg : Nat
  cn : Nat
  tv : Int × Int → Option Value
  lv : ByteArray → Option Value
def OwnI (w : World) (V : Value) (l : List Int) : Prop := w.ownsRow 0 3 1 V l.length (ints l)
def gnF (p : Pv) (n : Int) : Option Value := if p.gn n = 0 then none else some (.int .i64 (p.gn n : Nat))
def lbF (p : Pv) (L : La) (s : ByteArray) : Option Value := (L.lv s).map fun V => labV (p.lb s).1 V
structure PaAt (P : Nat → Prop) (w : World) (B : Nat) (p : Pv) (L : La) : Prop where
  b : w.heap[B]? = some (.cells #[.map (some L.ms), .map (some L.mg), .map (some L.mn)] 77 (0, 0))
  shm : MapB 79 kvG goodG (.slice none 0 0) w L.ms L.cs L.tv
  gnm : MapB 3 kvI goodI (.int .i64 0) w L.mg L.cg (gnF p)
  lbm : MapB 9 kvS goodS labZ w L.mn L.cn (lbF p L)
  tx : ∀ k V, L.tv k = some V → OwnB w V (p.sh k)
  tn : ∀ k, L.tv k = none → p.sh k = []
  lx : ∀ s V, L.lv s = some V → OwnI w V (p.lb s).2
  ln : ∀ s, L.lv s = none → p.lb s = (0, [])
  pB : P B ∧ P L.ms ∧ P L.mg ∧ P L.mn
  pT : ∀ k V g, L.tv k = some V → V.ownBlock = some g → P g
  pL : ∀ s V g, L.lv s = some V → V.ownBlock = some g → P g
  low : ∀ k, P k → k < w.heap.size
  aT : ∀ k k' V V' g, L.tv k = some V → L.tv k' = some V' → k ≠ k' → V.ownBlock = some g → V'.ownBlock ≠ some g
  aL : ∀ s s' V V' g, L.lv s = some V → L.lv s' = some V' → s ≠ s' → V.ownBlock = some g → V'.ownBlock ≠ some g
  mm : L.ms ≠ L.mg ∧ L.ms ≠ L.mn ∧ L.mg ≠ L.mn
section
variable {P : Nat → Prop} {w u : World} {B : Nat} {p : Pv} {L : La} {V : Value}
theorem OwnI.keep {l : List Int} (h : OwnI w V l) (hk : ∀ b, V.ownBlock = some b → b < w.heap.size → u.heap[b]? = w.heap[b]?) : OwnI u V l := ownsRow_keep h (fun b hb _ hl => hk b hb hl)
theorem OwnI.ty {l : List Int} (h : OwnI w V l) {b : Nat} (hb : V.ownBlock = some b) : TyB w 3 b ∧ b < w.heap.size := by
  rcases h.2 with ⟨rfl, _⟩ | ⟨g, cap, cur, rfl, _, hg, _⟩
  · simp [Value.ownBlock] at hb
  · simp [Value.ownBlock] at hb
    subst hb
    exact ⟨⟨_, _, hg⟩, (Array.getElem?_eq_some_iff.1 hg).1⟩
theorem OwnI.form {l : List Int} (h : OwnI w V l) : ∃ a c, V = .slice a l.length c ∧ l.length ≤ c ∧ c ≤ 9223372036854775807 := by
  obtain ⟨a, c, e, h1, h2, _⟩ := owns_lat h
  have hl : (ints l).length = l.length := by simp [ints]
  rw [hl] at e h1
  exact ⟨a, c, e, h1, h2⟩
theorem PaAt.keep (h : PaAt P w B p L) (hk : ∀ k, P k → u.heap[k]? = w.heap[k]?) (hs : w.heap.size ≤ u.heap.size) : PaAt P u B p L :=
  ⟨(hk B h.pB.1).trans h.b, h.shm.same (hk _ h.pB.2.1), h.gnm.same (hk _ h.pB.2.2.1), h.lbm.same (hk _ h.pB.2.2.2), fun k V hV => (h.tx k V hV).keep (fun g hg _ => hk g (h.pT k V g hV hg)), h.tn, fun s V hV => (h.lx s V hV).keep (fun g hg _ => hk g (h.pL s V g hV hg)), h.ln, h.pB, h.pT, h.pL, fun k hp => Nat.lt_of_lt_of_le (h.low k hp) hs, h.aT, h.aL, h.mm⟩
theorem PaAt.later (h : PaAt P w B p L) (hb : Below w.heap.size w u) : PaAt P u B p L := h.keep (fun k hp => hb.block k (h.low k hp)) hb.size
theorem PaAt.mono {P' : Nat → Prop} (h : PaAt P w B p L) (hp : ∀ k, P k → P' k) (hl : ∀ k, P' k → k < w.heap.size) : PaAt P' w B p L :=
  ⟨h.b, h.shm, h.gnm, h.lbm, h.tx, h.tn, h.lx, h.ln, ⟨hp _ h.pB.1, hp _ h.pB.2.1, hp _ h.pB.2.2.1, hp _ h.pB.2.2.2⟩, fun k V g h1 h2 => hp _ (h.pT k V g h1 h2), fun s V g h1 h2 => hp _ (h.pL s V g h1 h2), hl, h.aT, h.aL, h.mm⟩
theorem PaAt.more (h : PaAt P w B p L) (hb : Below w.heap.size w u) : PaAt (More P w u) u B p L :=
  (h.later hb).mono (fun _ hp => .inl hp) (fun k hp => by rcases hp with hp | hp; exact Nat.lt_of_lt_of_le (h.low k hp) hb.size; exact hp.2)
theorem PaAt.tyB (h : PaAt P w B p L) : TyB w 77 B := ⟨_, _, h.b⟩
theorem PaAt.cells (h : PaAt P w B p L) : w.cell? ⟨B, 0, none⟩ = some (.map (some L.ms)) ∧ w.cell? ⟨B, 1, none⟩ = some (.map (some L.mg)) ∧ w.cell? ⟨B, 2, none⟩ = some (.map (some L.mn)) := by
  simp [World.cell?, h.b]
theorem map_cells {t : TypeId} {b : Nat} (h : TyB w t b) {es : Array MapEntry} {c : Nat} : w.heap[b]? ≠ some (.map es c) := fun e => map_ty e h
/-- a number of generations is written -/
theorem PaAt.gens (h : PaAt P w B p L) {p' : Pv} (he : p'.sh = p.sh ∧ p'.lb = p.lb) (hm : MapB 3 kvI goodI (.int .i64 0) u L.mg (L.cg + 1) (gnF p')) (hfr : FrP (fun k => k = L.mg) w u) : PaAt (More P w u) u B p' { L with cg := L.cg + 1 } := by
  obtain ⟨e1, e2⟩ := he
  obtain ⟨es, c, hmg⟩ := h.gnm.isMap
  have ne : ∀ k, P k → k ≠ L.mg → u.heap[k]? = w.heap[k]? := fun k hk hn => hfr.block k (h.low k hk) hn
  have nt : ∀ {t : TypeId} {k : Nat}, TyB w t k → k ≠ L.mg := fun hk e => by subst e; exact map_ty hmg hk
  have hlb : lbF p' { L with cg := L.cg + 1 } = lbF p L := by funext s; unfold lbF; rw [e2]
  refine ⟨(ne B h.pB.1 (nt h.tyB)).trans h.b, h.shm.same (ne _ h.pB.2.1 h.mm.1), hm, ?_, fun k V hV => ?_, fun k hk => by rw [e1]; exact h.tn k hk, fun s V hV => ?_, fun s hs => by rw [e2]; exact h.ln s hs, ⟨.inl h.pB.1, .inl h.pB.2.1, .inl h.pB.2.2.1, .inl h.pB.2.2.2⟩, fun k V g h1 h2 => .inl (h.pT k V g h1 h2), fun s V g h1 h2 => .inl (h.pL s V g h1 h2), fun k hk => ?_, h.aT, h.aL, h.mm⟩
  · rw [hlb]
    exact h.lbm.same (ne _ h.pB.2.2.2 (fun e => h.mm.2.2 e.symm))
  · rw [e1]
    exact (h.tx k V hV).keep (fun g hg _ => ne g (h.pT k V g hV hg) (nt ((h.tx k V hV).ty hg).1))
  · rw [e2]
    exact (h.lx s V hV).keep (fun g hg _ => ne g (h.pL s V g hV hg) (nt ((h.lx s V hV).ty hg).1))
  · rcases hk with hk | hk
    · exact Nat.lt_of_lt_of_le (h.low k hk) hfr.size
    · exact hk.2
/-- a text is written -/
theorem PaAt.text (h : PaAt P w B p L) (k0 : Int × Int) {V' : Value} {l' : List UInt8} (hm : MapB 79 kvG goodG (.slice none 0 0) u L.ms (L.cs + 1) (fun k => if k = k0 then some V' else L.tv k)) (ho : OwnB u V' l')
    (hfr : FrP (fun k => k = L.ms ∨ ∃ V, L.tv k0 = some V ∧ V.ownBlock = some k) w u) (hv : ∀ g, V'.ownBlock = some g → (∃ V, L.tv k0 = some V ∧ V.ownBlock = some g) ∨ w.heap.size ≤ g) :
    PaAt (More P w u) u B ⟨fun k => if k = k0 then l' else p.sh k, p.gn, p.lb⟩ { L with cs := L.cs + 1, tv := fun k => if k = k0 then some V' else L.tv k } := by
  obtain ⟨es, c, hms⟩ := h.shm.isMap
  have n5 : ∀ k, (∃ V, L.tv k0 = some V ∧ V.ownBlock = some k) → TyB w 5 k := fun k ⟨V, h1, h2⟩ => ((h.tx k0 V h1).ty h2).1
  have ne : ∀ {t : TypeId} {k : Nat}, P k → TyB w t k → t ≠ 5 → u.heap[k]? = w.heap[k]? := fun {t k} hp hk ht => by
    refine hfr.block k (h.low k hp) ?_
    rintro (e | e)
    · subst e; exact map_ty hms hk
    · exact ht (TyB.ne hk (n5 k e))
  have nm : ∀ {k : Nat} {es : Array MapEntry} {c : Nat}, P k → w.heap[k]? = some (.map es c) → k ≠ L.ms → u.heap[k]? = w.heap[k]? := fun {k es c} hp hk hn => by
    refine hfr.block k (h.low k hp) ?_
    rintro (e | e)
    · exact hn e
    · exact map_ty hk (n5 k e)
  have hV' : ∀ g, V'.ownBlock = some g → More P w u g ∧ ∀ k V, k ≠ k0 → L.tv k = some V → V.ownBlock ≠ some g := fun g hg => by
    have hlt := ((show OwnB u V' l' from ho).ty hg).2
    rcases hv g hg with ⟨V, h1, h2⟩ | hge
    · exact ⟨.inl (h.pT k0 V g h1 h2), fun k V2 hk hV2 => h.aT k0 k V V2 g h1 hV2 (fun e => hk e.symm) h2⟩
    · refine ⟨.inr ⟨hge, hlt⟩, fun k V2 _ hV2 e => ?_⟩
      have := h.low g (h.pT k V2 g hV2 e)
      omega
  obtain ⟨eg, cg, hmg⟩ := h.gnm.isMap
  obtain ⟨en, cn, hmn⟩ := h.lbm.isMap
  refine ⟨(ne h.pB.1 h.tyB (by decide)).trans h.b, hm, h.gnm.same (nm h.pB.2.2.1 hmg (fun e => h.mm.1 e.symm)), h.lbm.same (nm h.pB.2.2.2 hmn (fun e => h.mm.2.1 e.symm)), fun k V hV => ?_, fun k hk => ?_, fun s V hV => ?_, h.ln, ⟨.inl h.pB.1, .inl h.pB.2.1, .inl h.pB.2.2.1, .inl h.pB.2.2.2⟩, fun k V g h1 h2 => ?_, fun s V g h1 h2 => .inl (h.pL s V g h1 h2), fun k hk => ?_, fun k k' V V2 g h1 h2 hk hg => ?_, h.aL, h.mm⟩
  · by_cases e : k = k0
    · subst e
      simp only [if_true] at hV ⊢
      cases hV
      exact ho
    · simp only [if_neg e] at hV ⊢
      refine (h.tx k V hV).keep (fun g hg hl => hfr.block g hl ?_)
      rintro (x | ⟨V2, x1, x2⟩)
      · subst x; exact map_ty hms ((h.tx k V hV).ty hg).1
      · exact h.aT k k0 V V2 g hV x1 e hg x2
  · by_cases e : k = k0
    · subst e; simp at hk
    · simp only [if_neg e] at hk ⊢
      exact h.tn k hk
  · exact (h.lx s V hV).keep (fun g hg _ => ne (h.pL s V g hV hg) ((h.lx s V hV).ty hg).1 (by decide))
  · by_cases e : k = k0
    · subst e
      simp only [if_true] at h1
      cases h1
      exact (hV' g h2).1
    · simp only [if_neg e] at h1
      exact .inl (h.pT k V g h1 h2)
  · rcases hk with hk | hk
    · exact Nat.lt_of_lt_of_le (h.low k hk) hfr.size
    · exact hk.2
  · by_cases e : k = k0
    · subst e
      simp only [if_true] at h1
      cases h1
      have hk' : ¬ k' = k := fun x => hk x.symm
      simp only [if_neg hk'] at h2
      exact (hV' g hg).2 k' V2 hk' h2
    · simp only [if_neg e] at h1
      by_cases e' : k' = k0
      · subst e'
        simp only [if_true] at h2
        cases h2
        exact fun x => (hV' g x).2 k V e h1 hg
      · simp only [if_neg e'] at h2
        exact h.aT k k' V V2 g h1 h2 hk hg
/-- what a name has had is written -/
theorem PaAt.lab (h : PaAt P w B p L) (s0 : ByteArray) {V' : Value} {q : Nat} {l' : List Int} (hm : MapB 9 kvS goodS labZ u L.mn (L.cn + 1) (fun s => if s = s0 then some (labV q V') else lbF p L s)) (ho : OwnI u V' l')
    (hfr : FrP (fun k => k = L.mn ∨ ∃ V, L.lv s0 = some V ∧ V.ownBlock = some k) w u) (hv : ∀ g, V'.ownBlock = some g → (∃ V, L.lv s0 = some V ∧ V.ownBlock = some g) ∨ w.heap.size ≤ g) :
    PaAt (More P w u) u B ⟨p.sh, p.gn, fun s => if s = s0 then (q, l') else p.lb s⟩ { L with cn := L.cn + 1, lv := fun s => if s = s0 then some V' else L.lv s } := by
  obtain ⟨en, cn, hmn⟩ := h.lbm.isMap
  have n5 : ∀ k, (∃ V, L.lv s0 = some V ∧ V.ownBlock = some k) → TyB w 3 k := fun k ⟨V, h1, h2⟩ => ((h.lx s0 V h1).ty h2).1
  have ne : ∀ {t : TypeId} {k : Nat}, P k → TyB w t k → t ≠ 3 → u.heap[k]? = w.heap[k]? := fun {t k} hp hk ht => by
    refine hfr.block k (h.low k hp) ?_
    rintro (e | e)
    · subst e; exact map_ty hmn hk
    · exact ht (TyB.ne hk (n5 k e))
  have nm : ∀ {k : Nat} {es : Array MapEntry} {c : Nat}, P k → w.heap[k]? = some (.map es c) → k ≠ L.mn → u.heap[k]? = w.heap[k]? := fun {k es c} hp hk hn => by
    refine hfr.block k (h.low k hp) ?_
    rintro (e | e)
    · exact hn e
    · exact map_ty hk (n5 k e)
  have hV' : ∀ g, V'.ownBlock = some g → More P w u g ∧ ∀ k V, k ≠ s0 → L.lv k = some V → V.ownBlock ≠ some g := fun g hg => by
    have hlt := ((show OwnI u V' l' from ho).ty hg).2
    rcases hv g hg with ⟨V, h1, h2⟩ | hge
    · exact ⟨.inl (h.pL s0 V g h1 h2), fun k V2 hk hV2 => h.aL s0 k V V2 g h1 hV2 (fun e => hk e.symm) h2⟩
    · refine ⟨.inr ⟨hge, hlt⟩, fun k V2 _ hV2 e => ?_⟩
      have := h.low g (h.pL k V2 g hV2 e)
      omega
  obtain ⟨eg, cg, hmg⟩ := h.gnm.isMap
  obtain ⟨es, cs, hms⟩ := h.shm.isMap
  have hlb : lbF ⟨p.sh, p.gn, fun s => if s = s0 then (q, l') else p.lb s⟩ { L with cn := L.cn + 1, lv := fun s => if s = s0 then some V' else L.lv s } = fun s => if s = s0 then some (labV q V') else lbF p L s := by
    funext s
    unfold lbF
    by_cases e : s = s0
    · subst e; simp
    · simp only [if_neg e]
  refine ⟨(ne h.pB.1 h.tyB (by decide)).trans h.b, h.shm.same (nm h.pB.2.1 hms h.mm.2.1), h.gnm.same (nm h.pB.2.2.1 hmg h.mm.2.2), by rw [hlb]; exact hm, fun k V hV => ?_, h.tn, fun s V hV => ?_, fun s hs => ?_, ⟨.inl h.pB.1, .inl h.pB.2.1, .inl h.pB.2.2.1, .inl h.pB.2.2.2⟩, fun k V g h1 h2 => .inl (h.pT k V g h1 h2), fun s V g h1 h2 => ?_, fun k hk => ?_, h.aT, fun k k' V V2 g h1 h2 hk hg => ?_, h.mm⟩
  · exact (h.tx k V hV).keep (fun g hg _ => ne (h.pT k V g hV hg) ((h.tx k V hV).ty hg).1 (by decide))
  · by_cases e : s = s0
    · subst e
      simp only [if_true] at hV ⊢
      cases hV
      exact ho
    · simp only [if_neg e] at hV ⊢
      refine (h.lx s V hV).keep (fun g hg hl => hfr.block g hl ?_)
      rintro (x | ⟨V2, x1, x2⟩)
      · subst x; exact map_ty hmn ((h.lx s V hV).ty hg).1
      · exact h.aL s s0 V V2 g hV x1 e hg x2
  · by_cases e : s = s0
    · subst e; simp at hs
    · simp only [if_neg e] at hs ⊢
      exact h.ln s hs
  · by_cases e : s = s0
    · subst e
      simp only [if_true] at h1
      cases h1
      exact (hV' g h2).1
    · simp only [if_neg e] at h1
      exact .inl (h.pL s V g h1 h2)
  · rcases hk with hk | hk
    · exact Nat.lt_of_lt_of_le (h.low k hk) hfr.size
    · exact hk.2
  · by_cases e : k = s0
    · subst e
      simp only [if_true] at h1
      cases h1
      have hk' : ¬ k' = k := fun x => hk x.symm
      simp only [if_neg hk'] at h2
      exact (hV' g hg).2 k' V2 hk' h2
    · simp only [if_neg e] at h1
      by_cases e' : k' = s0
      · subst e'
        simp only [if_true] at h2
        cases h2
        exact fun x => (hV' g x).2 k V e h1 hg
      · simp only [if_neg e'] at h2
        exact h.aL k k' V V2 g h1 h2 hk hg
end
/-! ### a past, as calls hand it on -/
structure PvOk (p : Pv) (C : Nat) : Prop where
  sh : ∀ k, (p.sh k).length ≤ 1048576
  gn : ∀ n, p.gn n ≤ 2000000
  lb : ∀ s, (p.lb s).1 ≤ 1000000 ∧ (p.lb s).2.length ≤ C
def PaS (P : Nat → Prop) (w : World) (B : Nat) (p : Pv) (C : Nat) : Prop := ∃ L, PaAt P w B p L ∧ L.cs ≤ C ∧ L.cg ≤ C ∧ L.cn ≤ C
structure Pst (P : Nat → Prop) (w : World) (B : Nat) (p : Pv) (C : Nat) : Prop where
  ok : PvOk p C
  m : PaS P w B p C
  c : C ≤ 1000000000
def PaTo (P : Nat → Prop) (w : World) (B : Nat) (p : Pv) (C : Nat) (u : World) : Prop := Pst (More P w u) u B p C ∧ FrP P w u
section
variable {P : Nat → Prop} {w u v : World} {B C : Nat} {p q : Pv}
theorem Pst.low (h : Pst P w B p C) : ∀ k, P k → k < w.heap.size := by obtain ⟨L, h1, _⟩ := h.m; exact h1.low
theorem Pst.later (h : Pst P w B p C) (hb : Below w.heap.size w u) : Pst P u B p C := by obtain ⟨L, h1, h2⟩ := h.m; exact ⟨h.ok, ⟨L, h1.later hb, h2⟩, h.c⟩
theorem Pst.keep (h : Pst P w B p C) (hk : ∀ k, P k → u.heap[k]? = w.heap[k]?) (hs : w.heap.size ≤ u.heap.size) : Pst P u B p C := by obtain ⟨L, h1, h2⟩ := h.m; exact ⟨h.ok, ⟨L, h1.keep hk hs, h2⟩, h.c⟩
theorem PvOk.up {C' : Nat} (h : PvOk p C) (hc : C ≤ C') : PvOk p C' := ⟨h.sh, h.gn, fun s => ⟨(h.lb s).1, Nat.le_trans (h.lb s).2 hc⟩⟩
theorem Pst.up {C' : Nat} (h : Pst P w B p C) (hc : C ≤ C') (h2 : C' ≤ 1000000000) : Pst P w B p C' := by obtain ⟨L, h1, h3⟩ := h.m; exact ⟨h.ok.up hc, ⟨L, h1, by omega, by omega, by omega⟩, h2⟩
theorem PaTo.trans {p' : Pv} {C' : Nat} (h : PaTo P w B p C u) (h2 : PaTo (More P w u) u B p' C' v) (hlow : ∀ k, P k → k < w.heap.size) : PaTo P w B p' C' v := by
  have hs := h.2.size
  have hs2 := h2.2.size
  obtain ⟨⟨hok, ⟨L, hL, hc⟩, hC⟩, hf⟩ := h2
  refine ⟨⟨hok, ⟨L, hL.mono (fun k hk => ?_) (fun k hk => ?_), hc⟩, hC⟩, h.2.trans hf (fun k hk hm => ?_)⟩
  · rcases hk with (hk | hk) | hk
    · exact .inl hk
    · exact .inr ⟨hk.1, by omega⟩
    · exact .inr ⟨by omega, hk.2⟩
  · rcases hk with hk | hk
    · have := hlow k hk; omega
    · exact hk.2
  · rcases hm with hm | hm
    · exact hm
    · omega
theorem PaTo.of_below {C : Nat} (hp : ∀ k, P k → k < w.heap.size) (h1 : Below w.heap.size w u) (h2 : PaTo P u B p C v) : PaTo P w B p C v := by
  obtain ⟨⟨hok, ⟨L, hL, hc⟩, hC⟩, hf⟩ := h2
  have := h1.size
  refine ⟨⟨hok, ⟨L, hL.mono (fun k hk => ?_) (fun k hk => ?_), hc⟩, hC⟩, (FrP.of_below P h1).trans hf (fun _ _ h => h)⟩
  · rcases hk with hk | hk
    · exact .inl hk
    · exact .inr ⟨by omega, hk.2⟩
  · rcases hk with hk | hk
    · have := hp k hk; have := hf.size; omega
    · exact hk.2
theorem PaTo.then (h : PaTo P w B p C u) (hb : Below u.heap.size u v) : PaTo P w B p C v := by
  obtain ⟨⟨hok, ⟨L, hL, hc⟩, hC⟩, hf⟩ := h
  refine ⟨⟨hok, ⟨L, (hL.later hb).mono (fun k hk => ?_) (fun k hk => ?_), hc⟩, hC⟩, hf.below hb⟩
  · have := hb.size
    rcases hk with hk | hk
    · exact .inl hk
    · exact .inr ⟨hk.1, by omega⟩
  · rcases hk with hk | hk
    · exact Nat.lt_of_lt_of_le (hL.low k (.inl hk)) hb.size
    · exact hk.2
theorem Pst.to (h : Pst P w B p C) (hb : Below w.heap.size w u) : PaTo P w B p C u := by
  obtain ⟨L, h1, h2⟩ := h.m
  exact ⟨⟨h.ok, ⟨L, h1.more hb, h2⟩, h.c⟩, FrP.of_below P hb⟩
end
end Go.Proofs.Ytobbcgendjakiaa
