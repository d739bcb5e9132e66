/- Arrays of 256 numbers, by value. -/
import Derived.Deep.WholeRow
import Derived.Deep.Cut
import Derived.Deep.DeepCutAuto
import Derived.Test.YtemmicnhnaafmaaG02
import Derived.DeepKeys4
import Derived.Maps.OwnSet
import Derived.Maps.Views
import Derived.Test.YtemmicnhnaafmaaG05
namespace Go.Proofs.Ytemmicnhnaafmaa
open Go.RowKit

def cv (f : Nat → Int) : Array Value := ((List.range 256).map fun i => Value.int .i64 (f i)).toArray
theorem cv_size (f : Nat → Int) : (cv f).size = 256 := by simp [cv]
theorem cv_at (f : Nat → Int) {i : Nat} (h : i < 256) : (cv f)[i]? = some (.int .i64 (f i)) := by simp [cv, h]
theorem cv_out (f : Nat → Int) {i : Nat} (h : 256 ≤ i) : (cv f)[i]? = none := by simp [cv, h]
theorem cv_congr {f g : Nat → Int} (h : ∀ i, i < 256 → f i = g i) : cv f = cv g := by
  unfold cv
  congr 1
  refine List.map_congr_left (fun i hi => ?_)
  rw [h i (by simpa using hi)]
theorem cv_set (f : Nat → Int) (i : Nat) (x : Int) : (cv f).setIfInBounds i (.int .i64 x) = cv (fun j => if j = i then x else f j) := by
  apply Array.ext_getElem?
  intro k
  rw [Array.getElem?_setIfInBounds]
  by_cases hk : k < 256
  · rw [cv_at _ hk, cv_at _ hk, cv_size]
    by_cases e : i = k
    · subst e; simp [hk]
    · simp [e, show ¬ k = i from fun h => e h.symm]
  · rw [cv_out _ (by omega), cv_out _ (by omega), cv_size]
    split
    · split
      · omega
      · rfl
    · rfl
theorem cv_one (f : Nat → Int) : (cv f).all (·.oneCell') = true := by
  rw [Array.all_eq_true_iff_forall_mem]
  intro v hv
  simp [cv] at hv
  obtain ⟨i, _, rfl⟩ := hv
  rfl
theorem infoArr : (Try.prog.info? 38).map (fun i => (i.zero, i.size)) = some (some (.agg (cv fun _ => 0)), 256) := by kernel_rfl
theorem zeroArr (w : World) : (zeroValue 38).run Try.prog w = .ok (.agg (cv fun _ => 0)) w := (zero_of_info infoArr).1 w
theorem sizeArr : (Try.prog.info? 38).map (·.size) = some 256 := (zero_of_info infoArr).2
theorem underArr : Try.prog.underlying 38 = some (.array 256 3) := by kernel_rfl
/-- block A is an array of 256 numbers -/
def AB (w : World) (A : Nat) (f : Nat → Int) : Prop := w.heap[A]? = some (.cells (cv f) 38 (0, 0))
theorem AB.lt {w : World} {A : Nat} {f : Nat → Int} (h : AB w A f) : A < w.heap.size := (Array.getElem?_eq_some_iff.1 h).1
theorem AB.later {w w' : World} {A : Nat} {f : Nat → Int} (h : AB w A f) (hb : Below w.heap.size w w') : AB w' A f := (hb.block A h.lt).trans h
theorem AB.same {w w' : World} {A : Nat} {f : Nat → Int} (h : AB w A f) (e : w'.heap[A]? = w.heap[A]?) : AB w' A f := e.trans h
theorem AB.cell {w : World} {A : Nat} {f : Nat → Int} (h : AB w A f) {i : Nat} (hi : i < 256) : w.cell? ⟨A, i, none⟩ = some (.int .i64 (f i)) ∧ w.frozen? ⟨A, i, none⟩ = false := by
  unfold AB at h
  refine ⟨?_, by simp [World.frozen?, h]⟩
  simp [World.cell?, h, cv_at _ hi]
theorem ab_new (w : World) (f : Nat → Int) : AB (w.alloc (.cells (cv f) 38)) w.heap.size f := heap_alloc_new w _
theorem AB.load {w : World} {A : Nat} {f : Nat → Int} (h : AB w A f) : (Instr.loadAt 38 (.pointer (some ⟨A, 0, none⟩))).run Try.prog w = .ok (.agg (cv f)) w := by
  simp only [Instr.loadAt, Instr.sureAddr, Sem.run_bind, Sem.run_pure, Result.andThen]
  exact run_loadVar_row w A _ _ _ (0, 0) _ h underArr rfl (by rw [cv_size]; exact sizeArr)
theorem AB.store {w : World} {A : Nat} {f : Nat → Int} (h : AB w A f) (g : Nat → Int) : (Instr.storeAt 38 (.pointer (some ⟨A, 0, none⟩)) (.agg (cv g))).run Try.prog w = .ok () (w.setRow A (cv g)) := by
  simp only [Instr.storeAt, Instr.sureAddr, Sem.run_bind, Sem.run_pure, Result.andThen]
  exact run_storeVar_row w A _ _ _ _ h (by rw [cv_size]; exact sizeArr) (by rw [cv_size, cv_size]) (cv_one g)
theorem AB.put {w : World} {A : Nat} {f : Nat → Int} (h : AB w A f) (g : Nat → Int) : AB (w.setRow A (cv g)) A g := setRow_heap w A (cv f) (cv g) _ _ h
theorem heap_row (w : World) (A k : Nat) (c : Array Value) (h : k ≠ A) : (w.setRow A c).heap[k]? = w.heap[k]? := by
  unfold World.setRow
  simp only
  rw [Array.getElem?_modify, if_neg (fun e => h e.symm)]
theorem size_row (w : World) (A : Nat) (c : Array Value) : (w.setRow A c).heap.size = w.heap.size := by
  unfold World.setRow
  simp
theorem below_row {w u : World} {B A : Nat} (h : Below B w u) (hA : B ≤ A) (c : Array Value) : Below B w (u.setRow A c) :=
  ⟨h.os, h.tape, h.output, by rw [size_row]; exact h.size, fun k hk => by rw [heap_row _ _ _ _ (by omega)]; exact h.block k hk⟩
theorem AB.set {w : World} {A : Nat} {f : Nat → Int} (h : AB w A f) (i : Nat) (x : Int) : AB (w.setCell ⟨A, i, none⟩ (.int .i64 x)) A (fun j => if j = i then x else f j) := by
  have e := setCell_eq_setRow w A i (cv f) _ _ (.int .i64 x) h
  rw [e, cv_set]
  exact h.put _
theorem AB.index (f : Nat → Int) {i : Nat} (hi : i < 256) (w : World) : (Instr.index 38 (.agg (cv f)) (.int .i64 (i : Nat))).run Try.prog w = .ok (.int .i64 (f i)) w := by
  have h2 := cv_at f hi
  simp [Instr.index, run_underlying underArr, go_sem, h2]
  intro h
  omega
theorem wpList_load_arr {ops : Array Oper} {rest : List Oper} {o : Oper} {a : Act} {w : World} {Q : Exit → Act → World → Prop} (hgd : o.guard = none) (x : Operand) (ho : o.op = .load 38 x) {A : Nat} {f : Nat → Int} (h : AB w A f) (hx : a.eval x = .pointer (some ⟨A, 0, none⟩))
    (hk : wpList Try.prog ops Q rest (a.put o.dst (.agg (cv f))) w) : wpList Try.prog ops Q (o :: rest) a w :=
  wpList_load_row hgd _ x ho A hx _ _ (0, 0) _ h underArr rfl (by rw [cv_size]; exact sizeArr) hk
theorem wpList_store_arr {ops : Array Oper} {rest : List Oper} {o : Oper} {a : Act} {w : World} {Q : Exit → Act → World → Prop} (hgd : o.guard = none) (x y : Operand) (ho : o.op = .store 38 x y) {A : Nat} {f g : Nat → Int} (h : AB w A f) (hx : a.eval x = .pointer (some ⟨A, 0, none⟩)) (hy : a.eval y = .agg (cv g))
    (hk : wpList Try.prog ops Q rest (a.put o.dst undef) (w.setRow A (cv g))) : wpList Try.prog ops Q (o :: rest) a w :=
  wpList_plain hgd fun _ hK => wp_store_row _ x y ho A (cv g) hx hy _ _ h (by rw [cv_size]; exact sizeArr) (by rw [cv_size, cv_size]) (cv_one g) (hK _ _ hk)
theorem results_arr_int {fn : Func} {p q : Tmp} (h : fn.results = #[.cell p 38, .tmp q]) (tmps : Array Value) (w : World) {A : Nat} {f : Nat → Int} (hA : AB w A f) {v : Value} (hp : tmps.getD p undef = .pointer (some ⟨A, 0, none⟩)) (hq : tmps.getD q undef = v) :
    (results fn tmps).run Try.prog w = .ok (.tuple #[.agg (cv f), v]) w := by
  have hp' : tmps[p]?.getD undef = .pointer (some ⟨A, 0, none⟩) := by simpa using hp
  have hq' : tmps[q]?.getD undef = v := by simpa using hq
  have hl := run_loadVar_row w A _ _ _ (0, 0) _ hA underArr rfl (by rw [cv_size]; exact sizeArr)
  simp [results, h, hp', hq', asAddr, hl]
end Go.Proofs.Ytemmicnhnaafmaa

/- Maps whose keys are arrays of words, made by the call. -/
namespace Go.Proofs.Ytemmicnhnaafmaa
open Go.RowKit Go.Maps

/-- an element reads as itself -/
def rawR (v : Value) : Option (DataW Value × List MemPlace) := some (.held v, [])
section
variable {K : Type} (kt : TypeId) (kv : K → Value) (good : K → Prop)
noncomputable def klit (k : K) : Lit := (keyOf Try.prog kt (kv k)).getD (.bool false)
/-- BLOCK B IS A MAP of n entries: F tells what lies at a key. -/
def MapA (z : Value) (w : World) (B n : Nat) (F : K → Option Value) : Prop :=
  ∃ D : DataW Value, w.ownsMap Try.prog kt rawR B n D ∧ IsMap D ∧ Maps.size D = n ∧ ∀ k, good k → Maps.has D (klit kt kv k) = (F k).isSome ∧ D.atKey (klit kt kv k) (.held z) = .held ((F k).getD z)
variable {kt kv good} {z : Value} {w : World} {B n : Nat} {F : K → Option Value}
theorem MapA.lt (h : MapA kt kv good z w B n F) : B < w.heap.size := by obtain ⟨D, h1, _⟩ := h; exact h1.lt
theorem MapA.same {w' : World} (h : MapA kt kv good z w B n F) (e : w'.heap[B]? = w.heap[B]?) : MapA kt kv good z w' B n F := by
  obtain ⟨D, ⟨es, clock, hb, rest⟩, h2⟩ := h
  exact ⟨D, ⟨es, clock, e.trans hb, rest⟩, h2⟩
theorem MapA.later {w' : World} (h : MapA kt kv good z w B n F) (hb : Below w.heap.size w w') : MapA kt kv good z w' B n F := h.same (hb.block B h.lt)
theorem mapA_made (w : World) (kt : TypeId) (kv : K → Value) (good : K → Prop) (z : Value) : MapA kt kv good z (w.alloc (.map #[] 0)) w.heap.size 0 (fun _ => none) :=
  ⟨.map [], World.ownsMap_made w Try.prog kt rawR, isMap_empty, rfl, fun _ _ => ⟨rfl, rfl⟩⟩
theorem MapA.look {mt e : TypeId} (h : MapA kt kv good z w B n F) (KD : Keyed Try.prog kt) (ht : Try.prog.underlying mt = some (.map kt e)) (hz : (zeroValue e).run Try.prog w = .ok z w) {k : K} (hg : good k) (hk : keyOf Try.prog kt (kv k) = some (klit kt kv k)) :
    (Instr.lookup mt (.map (some B)) (kv k) true).run Try.prog w = .ok (.tuple #[(F k).getD z, .bool (F k).isSome]) w := by
  obtain ⟨D, hD, _, _, hF⟩ := h
  obtain ⟨v, ps, hrun, hv⟩ := hD.look_ok KD ht hz (zd := .held z) (zp := []) rfl hk
  obtain ⟨h1, h2⟩ := hF k hg
  rw [h2] at hv
  unfold rawR at hv
  cases hv
  rw [h1] at hrun
  exact hrun
theorem MapA.len {mt e : TypeId} (h : MapA kt kv good z w B n F) (ht : Try.prog.underlying mt = some (.map kt e)) (ty : TypeId) : (Builtin.len_ #[mt] ty #[.map (some B)]).run Try.prog w = .ok (.int .i64 (n : Nat)) w := by
  obtain ⟨D, hD, _, hs, _⟩ := h
  have := hD.len ht ty
  rw [hs] at this
  exact this
theorem MapA.put [DecidableEq K] {mt e : TypeId} (h : MapA kt kv good z w B n F) (KD : Keyed Try.prog kt) (ht : Try.prog.underlying mt = some (.map kt e)) (hn : n < maxLen) {k : K} (hg : good k) (hkl : ∀ k, good k → keyOf Try.prog kt (kv k) = some (klit kt kv k)) (hinj : ∀ a b, kv a = kv b → a = b) (hno : F k = none) (v : Value) :
    ∃ w', (Instr.mapUpdate mt (.map (some B)) (kv k) v).run Try.prog w = .ok () w' ∧ MapA kt kv good z w' B (n + 1) (fun y => if y = k then some v else F y) ∧ w.grownBy w' (some B) ∧ w'.heap.size = w.heap.size := by
  obtain ⟨D, hD, hm, hs, hF⟩ := h
  obtain ⟨w', hrun, ho, hg2⟩ := hD.store KD ht hn (d := .held v) (ps := []) (hkl k hg) rfl
  have hsz : w'.heap.size = w.heap.size := by
    obtain ⟨es, clock, es', clock', hb, rfl⟩ := hg2
    simp [Go.ChangeMaps.setBlock]
  refine ⟨w', hrun, ⟨_, ho, hm.put _ _, ?_, fun y hy => ?_⟩, hg2.grown, hsz⟩
  · rw [size_put (hD.tidy KD), (hF k hg).1, hno, hs]
    rfl
  · by_cases e : y = k
    · subst e
      simp only [if_pos]
      exact ⟨has_put_same hm (KD.key (hkl y hg)) _, atKey_put_same hm (KD.key (hkl y hg)) _ _⟩
    · have hne : klit kt kv y ≠ klit kt kv k := fun h => e (hinj _ _ (KD.inj (hkl y hy) (by rw [h]; exact hkl k hg)))
      simp only [if_neg e]
      rw [has_put_other hne, atKey_put_other hne]
      exact hF y hy
end
/-! ### the two kinds of keys -/
def kv2 (p : Nat × Nat) : Value := .agg #[.int .u64 (p.1 : Nat), .int .u64 (p.2 : Nat)]
def good2 (p : Nat × Nat) : Prop := p.1 < 18446744073709551616 ∧ p.2 < 18446744073709551616
theorem kv2_inj (a b : Nat × Nat) (h : kv2 a = kv2 b) : a = b := by
  obtain ⟨a1, a2⟩ := a
  obtain ⟨b1, b2⟩ := b
  simp [kv2] at h
  exact Prod.ext (Int.ofNat.inj h.1) (Int.ofNat.inj h.2)
theorem law2 : Keyed Try.prog 66 := Keyed.of_law (deep_law (m := 2) (by omega) (by kernel_rfl) (by kernel_rfl) (by kernel_rfl))
theorem wf_u64 {x : Nat} (h : x < 18446744073709551616) : (Lit.int .u64 (x : Nat)).wf = true := by
  simp [Lit.wf, IntKind.min, IntKind.max, IntKind.signed, IntKind.bits]; omega
theorem key2 (p : Nat × Nat) (h : good2 p) : keyOf Try.prog 66 (kv2 p) = some (klit 66 kv2 p) := by
  have hs : (keyOf Try.prog 66 (kv2 p)).isSome = true := by
    have hu : Try.prog.underlying 66 = some (.array 2 29) := by kernel_rfl
    have hu2 : Try.prog.underlying 29 = some (.int .u64) := by kernel_rfl
    have hk : Try.prog.keyType 66 = true := by kernel_rfl
    have hc : Try.prog.cellsOf 66 = 2 := by kernel_rfl
    have hc2 : Try.prog.cellsOf 29 = 1 := by kernel_rfl
    have hf : (kv2 p).formed Try.prog 66 = true := by simp [kv2, Value.formed, hu, hc]
    obtain ⟨n, hn⟩ : ∃ n, Try.prog.types.size = n + 1 := ⟨Try.prog.types.size - 1, by kernel_rfl⟩
    unfold keyOf
    rw [hu]
    simp only [hk, hf, hn]
    simp [kv2, Program.keyLits, hu, hu2, hc, hc2, Value.cells, wf_u64 h.1, wf_u64 h.2, List.range_succ]
  unfold klit
  cases e : keyOf Try.prog 66 (kv2 p) with
  | none => rw [e] at hs; cases hs
  | some l => rfl
def kv4 (p : Nat × Nat × Nat × Nat) : Value := .agg #[.int .u64 (p.1 : Nat), .int .u64 (p.2.1 : Nat), .int .u64 (p.2.2.1 : Nat), .int .u64 (p.2.2.2 : Nat)]
def good4 (p : Nat × Nat × Nat × Nat) : Prop := p.1 < 18446744073709551616 ∧ p.2.1 < 18446744073709551616 ∧ p.2.2.1 < 18446744073709551616 ∧ p.2.2.2 < 18446744073709551616
theorem kv4_inj (a b : Nat × Nat × Nat × Nat) (h : kv4 a = kv4 b) : a = b := by
  obtain ⟨a1, a2, a3, a4⟩ := a
  obtain ⟨b1, b2, b3, b4⟩ := b
  simp [kv4] at h
  obtain ⟨h1, h2, h3, h4⟩ := h
  exact Prod.ext (Int.ofNat.inj h1) (Prod.ext (Int.ofNat.inj h2) (Prod.ext (Int.ofNat.inj h3) (Int.ofNat.inj h4)))
theorem law4 : Keyed Try.prog 31 := Keyed.of_law (deep_law (m := 2) (by omega) (by kernel_rfl) (by kernel_rfl) (by kernel_rfl))
theorem key4 (p : Nat × Nat × Nat × Nat) (h : good4 p) : keyOf Try.prog 31 (kv4 p) = some (klit 31 kv4 p) := by
  have hs : (keyOf Try.prog 31 (kv4 p)).isSome = true := by
    have hu : Try.prog.underlying 31 = some (.array 4 29) := by kernel_rfl
    have hu2 : Try.prog.underlying 29 = some (.int .u64) := by kernel_rfl
    have hk : Try.prog.keyType 31 = true := by kernel_rfl
    have hc : Try.prog.cellsOf 31 = 4 := by kernel_rfl
    have hc2 : Try.prog.cellsOf 29 = 1 := by kernel_rfl
    have hf : (kv4 p).formed Try.prog 31 = true := by simp [kv4, Value.formed, hu, hc]
    obtain ⟨n, hn⟩ : ∃ n, Try.prog.types.size = n + 1 := ⟨Try.prog.types.size - 1, by kernel_rfl⟩
    unfold keyOf
    rw [hu]
    simp only [hk, hf, hn]
    simp [kv4, Program.keyLits, hu, hu2, hc, hc2, Value.cells, wf_u64 h.1, wf_u64 h.2.1, wf_u64 h.2.2.1, wf_u64 h.2.2.2, List.range_succ]
  unfold klit
  cases e : keyOf Try.prog 31 (kv4 p) with
  | none => rw [e] at hs; cases hs
  | some l => rfl
end Go.Proofs.Ytemmicnhnaafmaa

/- part.which: which of a few sets have a byte. -/
namespace Go.Proofs.Ytemmicnhnaafmaa
open Go.RowKit

theorem or_num {x k : Nat} (h : x < 2 ^ k) (hk : k < 64) : bits .or .u64 (x : Nat) (IntKind.u64.wrap (2 ^ k)) = ((x + 2 ^ k : Nat) : Int) := by
  have h1 : x < 18446744073709551616 := Nat.lt_trans h (pow_lt64 hk)
  rw [wrap_pow hk, u64_or_nat _ _ h1 (pow_lt64 hk), Pt.or_pow h]
set_option maxRecDepth 20000 in
set_option maxHeartbeats 1000000 in
theorem which_any (a : Option Addr) (n cap b : Nat) (ss : List Oct.S) (w : World) (hn : n = ss.length) (hl : n ≤ 64) (hat : SetsAt w a ss) (hb : b < 256) :
    Calls Try.prog 29 #[.slice a n cap, .int .u8 (b : Nat)] w fun e w' => e = .returned (.int .u64 (Pt.wordB ss b : Nat)) ∧ Below w.heap.size w w' := by
  have HA : Hid (SetsAt w a ss) := hat
  have HN : Hid (n = ss.length) := hn
  clear hat hn
  go_enter Try.func29, Try.ntmps29
  go_wp2
  go_loopw [5, 10] (fun x i u => ∃ k y : Nat, k ≤ n ∧ i = .int .i64 (k : Nat) ∧ x = .int .u64 (y : Nat) ∧ Hid (y = Pt.wordB (ss.take k) b) ∧ Hid (Below w.heap.size w u)) (fun _ i _ => n - (intOf i).toNat)
  case atStart => exact ⟨0, 0, Nat.zero_le _, rfl, rfl, rfl, Below.refl _ _⟩
  case round =>
    obtain ⟨k, y, hk, rfl, rfl, HY, HB⟩ := hrel
    by_cases hlt : k < n
    · have hlt' : (k : Int) < (n : Int) := by omega
      obtain ⟨s, hs⟩ : ∃ s, ss[k]? = some s := ⟨_, List.getElem?_eq_getElem (by rw [← HN.out]; exact hlt)⟩
      obtain ⟨g, off, rfl, c0, c1, c2, c3⟩ := setsAt_cell HA.out HB.out hs
      have HT : Hid (Pt.wordB (ss.take (k + 1)) b = y + (if s b then 2 ^ k else 0)) := by
        show _ = _
        rw [HY.out, List.take_add_one, hs, show (some s).toList = [s] from rfl, Pt.wordB_snoc, List.length_take, ← HN.out, Nat.min_eq_left (by omega)]
      have HL : Hid (y < 2 ^ k) := by
        show _ < _
        rw [HY.out]
        have := Pt.wordB_lt (ss.take k) b
        rw [List.length_take, ← HN.out, Nat.min_eq_left (by omega)] at this
        exact this
      have HO : Hid (bits .or .u64 (y : Nat) (IntKind.u64.wrap (2 ^ k)) = ((y + 2 ^ k : Nat) : Int)) := or_num HL.out (by omega)
      clear hs
      have HB1 : Hid (Below w.heap.size w (wr.alloc (.cells #[.int .u64 (Oct.word s 0 : Nat), .int .u64 (Oct.word s 1 : Nat), .int .u64 (Oct.word s 2 : Nat), .int .u64 (Oct.word s 3 : Nat)] 31))) := HB.out.alloc HB.out.size _
      go_wp2_with fail
      refine (has_gen s b _ hb).mono ?_
      rintro e w3 ⟨rfl, hb3⟩
      have HB3 : Hid (Below w.heap.size w w3) := below_trans HB1.out hb3 HB1.out.size
      clear hb3 HB HB1 c0 c1 c2 c3
      cases hsb : s b
      · have HT2 : Hid (y = Pt.wordB (ss.take (k + 1)) b) := by
          show _ = _
          rw [HT.out, hsb]
          rfl
        go_wp2
        go_roundw
        case rel => exact ⟨k + 1, y, by omega, by go_num, rfl, HT2, HB3⟩
        case measure => simp [intOf]; omega
      · have HT2 : Hid (y + 2 ^ k = Pt.wordB (ss.take (k + 1)) b) := by
          show _ = _
          rw [HT.out, hsb]
          rfl
        have ho := HO.out
        obtain ⟨z, hz⟩ : ∃ z, z = y + 2 ^ k := ⟨_, rfl⟩
        rw [← hz] at ho HT2
        clear hz
        go_wp2
        go_roundw
        case rel => exact ⟨k + 1, z, by omega, by go_num, rfl, HT2, HB3⟩
        case measure => simp [intOf]; omega
    · have hge : ¬ (k : Int) < (n : Int) := by omega
      have HE : Hid (Pt.wordB ss b = y) := by
        show _ = _
        rw [HY.out, List.take_of_length_le (by rw [← HN.out]; omega)]
      go_wp2
      go_ret
      rw [HE.out]
      exact ⟨rfl, HB.out⟩
end Go.Proofs.Ytemmicnhnaafmaa
