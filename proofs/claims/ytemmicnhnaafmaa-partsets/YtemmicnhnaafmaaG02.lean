/- What the walks over sets find in memory: bytes and sets read from a slice; a set's block written word by word; the state of a loop that gathers a set. -/
import Derived.Test.YtemmicnhnaafmaaG01
import Derived.Laws.StructEq
namespace Go.Proofs.Ytemmicnhnaafmaa
open Go.RowKit

/-- BYTES READ FROM A SLICE: there are none, or they lie from the address on. -/
def BytesAt (w : World) (a : Option Addr) (bs : List Nat) : Prop :=
  bs = [] ∨ ∃ b off, a = some ⟨b, off, none⟩ ∧ ∀ k, k < bs.length → w.cell? ⟨b, off + k, none⟩ = some (.int .u8 (bs.getD k 0 : Nat))
theorem bytesAt_later {w w' : World} {a : Option Addr} {bs : List Nat} (h : Below w.heap.size w w') (hT : BytesAt w a bs) : BytesAt w' a bs := by
  rcases hT with h0 | ⟨b, off, rfl, hc⟩
  · exact Or.inl h0
  · exact Or.inr ⟨b, off, rfl, fun k hk => by rw [h.cell (p := ⟨b, off + k, none⟩) (World.block_lt_of_cell? w _ (hc k hk))]; exact hc k hk⟩
theorem bytesAt_cell {w w' : World} {a : Option Addr} {bs : List Nat} (hT : BytesAt w a bs) (h : Below w.heap.size w w') {k : Nat} (hk : k < bs.length) : ∃ b off, a = some ⟨b, off, none⟩ ∧ w'.cell? ⟨b, off + k, none⟩ = some (.int .u8 (bs.getD k 0 : Nat)) := by
  rcases bytesAt_later h hT with rfl | ⟨b, off, rfl, hc⟩
  · simp at hk
  · exact ⟨b, off, rfl, hc k hk⟩
theorem bytesAt_new (w : World) (bs : List Nat) (t : TypeId) (fr : Nat × Nat) : BytesAt (w.alloc (.cells (bs.map (fun z => Value.int .u8 (z : Nat))).toArray t fr)) (some ⟨w.heap.size, 0, none⟩) bs := by
  refine Or.inr ⟨_, 0, rfl, fun k hk => ?_⟩
  rw [World.cell?_alloc_mark]
  simp [hk]
/-- SETS READ FROM A SLICE. -/
def SetsAt (w : World) (a : Option Addr) (l : List Oct.S) : Prop :=
  l = [] ∨ ∃ b off, a = some ⟨b, off, none⟩ ∧ ∀ k s, l[k]? = some s →
    w.cell? ⟨b, off + k * 4, none⟩ = some (.int .u64 (Oct.word s 0 : Nat)) ∧ w.cell? ⟨b, off + k * 4 + 1, none⟩ = some (.int .u64 (Oct.word s 1 : Nat)) ∧ w.cell? ⟨b, off + k * 4 + 2, none⟩ = some (.int .u64 (Oct.word s 2 : Nat)) ∧ w.cell? ⟨b, off + k * 4 + 3, none⟩ = some (.int .u64 (Oct.word s 3 : Nat))
theorem setsAt_later {w w' : World} {a : Option Addr} {l : List Oct.S} (hb : Below w.heap.size w w') (h : SetsAt w a l) : SetsAt w' a l := by
  rcases h with h0 | ⟨b, off, rfl, hc⟩
  · exact Or.inl h0
  · refine Or.inr ⟨b, off, rfl, fun k s hk => ?_⟩
    obtain ⟨h0, h1, h2, h3⟩ := hc k s hk
    have hlt := World.block_lt_of_cell? w _ h0
    exact ⟨(hb.cell (p := ⟨b, off + k * 4, none⟩) hlt).trans h0, (hb.cell (p := ⟨b, off + k * 4 + 1, none⟩) hlt).trans h1, (hb.cell (p := ⟨b, off + k * 4 + 2, none⟩) hlt).trans h2, (hb.cell (p := ⟨b, off + k * 4 + 3, none⟩) hlt).trans h3⟩
theorem setsAt_cell {w w' : World} {a : Option Addr} {l : List Oct.S} (h : SetsAt w a l) (hb : Below w.heap.size w w') {k : Nat} {s : Oct.S} (hk : l[k]? = some s) :
    ∃ b off, a = some ⟨b, off, none⟩ ∧ w'.cell? ⟨b, off + k * 4, none⟩ = some (.int .u64 (Oct.word s 0 : Nat)) ∧ w'.cell? ⟨b, off + k * 4 + 1, none⟩ = some (.int .u64 (Oct.word s 1 : Nat)) ∧ w'.cell? ⟨b, off + k * 4 + 2, none⟩ = some (.int .u64 (Oct.word s 2 : Nat)) ∧ w'.cell? ⟨b, off + k * 4 + 3, none⟩ = some (.int .u64 (Oct.word s 3 : Nat)) := by
  rcases setsAt_later hb h with rfl | ⟨b, off, rfl, hc⟩
  · simp at hk
  · exact ⟨b, off, rfl, hc k s hk⟩

/-- one word of a set's block written -/
theorem SB.set {w : World} {A : Nat} {s t : Oct.S} (h : SB w A s) (j : Nat) (hj : j < 4) (x : Int) (hx : x = (Oct.word t j : Nat)) (ho : ∀ i, i < 4 → i ≠ j → Oct.word s i = Oct.word t i) : SB (w.setCell ⟨A, j, none⟩ (.int .u64 x)) A t := by
  unfold SB at h ⊢
  simp only [World.setCell, Array.getElem?_modify, h]
  have h4 : j = 0 ∨ j = 1 ∨ j = 2 ∨ j = 3 := by omega
  rcases h4 with rfl | rfl | rfl | rfl
  · rw [hx, ho 1 (by decide) (by decide), ho 2 (by decide) (by decide), ho 3 (by decide) (by decide)]; rfl
  · rw [hx, ho 0 (by decide) (by decide), ho 2 (by decide) (by decide), ho 3 (by decide) (by decide)]; rfl
  · rw [hx, ho 0 (by decide) (by decide), ho 1 (by decide) (by decide), ho 3 (by decide) (by decide)]; rfl
  · rw [hx, ho 0 (by decide) (by decide), ho 1 (by decide) (by decide), ho 2 (by decide) (by decide)]; rfl

/-- THE STATE OF A LOOP THAT GATHERS A SET: nothing in the result yet, so much in the variable; all from before the call stands. -/
def St (w u : World) (R V : Nat) (s : Oct.S) : Prop := SB u R Oct.none ∧ SB u V s ∧ Below w.heap.size w u
theorem St.later {w u u' : World} {R V : Nat} {s : Oct.S} (h : St w u R V s) (hb : Below u.heap.size u u') : St w u' R V s := ⟨h.1.later hb, h.2.1.later hb, below_trans h.2.2 hb h.2.2.size⟩
theorem St.put {w u : World} {R V : Nat} {s : Oct.S} (h : St w u R V s) (hne : R ≠ V) (hV : w.heap.size ≤ V) (t : Oct.S) : St w (put4 u V t) R V t := ⟨h.1.put4_other hne t, h.2.1.put4 t, below_put4 h.2.2 hV t⟩
theorem St.set {w u : World} {R V : Nat} {s t : Oct.S} (h : St w u R V s) (hne : R ≠ V) (hV : w.heap.size ≤ V) (j : Nat) (hj : j < 4) (x : Int) (hx : x = (Oct.word t j : Nat)) (ho : ∀ i, i < 4 → i ≠ j → Oct.word s i = Oct.word t i) : St w (u.setCell ⟨V, j, none⟩ (.int .u64 x)) R V t :=
  ⟨h.1.other hne _ _, h.2.1.set j hj x hx ho, h.2.2.setCell (p := ⟨V, j, none⟩) hV _⟩
theorem St.as {w u : World} {R V : Nat} {s t : Oct.S} (h : St w u R V s) (e : ∀ b, b < 256 → s b = t b) : St w u R V t := by
  refine ⟨h.1, ?_, h.2.2⟩
  have h2 := h.2.1
  unfold SB at h2 ⊢
  rw [Oct.word_congr (s := s) (t := t) (i := 0) (fun k hk => e _ (by omega)), Oct.word_congr (s := s) (t := t) (i := 1) (fun k hk => e _ (by omega)), Oct.word_congr (s := s) (t := t) (i := 2) (fun k hk => e _ (by omega)), Oct.word_congr (s := s) (t := t) (i := 3) (fun k hk => e _ (by omega))] at h2
  exact h2
/-- what the walk wants of a state -/
theorem St.facts {w u : World} {R V : Nat} {s : Oct.S} (h : St w u R V s) :
    (u.cell? ⟨V, 0, none⟩ = some (.int .u64 (Oct.word s 0 : Nat)) ∧ u.cell? ⟨V, 1, none⟩ = some (.int .u64 (Oct.word s 1 : Nat)) ∧ u.cell? ⟨V, 2, none⟩ = some (.int .u64 (Oct.word s 2 : Nat)) ∧ u.cell? ⟨V, 3, none⟩ = some (.int .u64 (Oct.word s 3 : Nat))) ∧
    (u.frozen? ⟨V, 0, none⟩ = false ∧ u.frozen? ⟨V, 1, none⟩ = false ∧ u.frozen? ⟨V, 2, none⟩ = false ∧ u.frozen? ⟨V, 3, none⟩ = false) ∧
    (u.cell? ⟨R, 0, none⟩ = some (.int .u64 (Oct.word Oct.none 0 : Nat)) ∧ u.cell? ⟨R, 1, none⟩ = some (.int .u64 (Oct.word Oct.none 1 : Nat)) ∧ u.cell? ⟨R, 2, none⟩ = some (.int .u64 (Oct.word Oct.none 2 : Nat)) ∧ u.cell? ⟨R, 3, none⟩ = some (.int .u64 (Oct.word Oct.none 3 : Nat))) ∧
    (u.frozen? ⟨R, 0, none⟩ = false ∧ u.frozen? ⟨R, 1, none⟩ = false ∧ u.frozen? ⟨R, 2, none⟩ = false ∧ u.frozen? ⟨R, 3, none⟩ = false) :=
  ⟨h.2.1.cells, ⟨h.2.1.frozen 0, h.2.1.frozen 1, h.2.1.frozen 2, h.2.1.frozen 3⟩, h.1.cells, ⟨h.1.frozen 0, h.1.frozen 1, h.1.frozen 2, h.1.frozen 3⟩⟩
theorem start2 (w : World) : St w ((w.alloc (.cells #[.int .u64 0, .int .u64 0, .int .u64 0, .int .u64 0] 31)).alloc (.cells #[.int .u64 0, .int .u64 0, .int .u64 0, .int .u64 0] 31)) w.heap.size (w.heap.size + 1) Oct.none := by
  have h := sb_zero (w.alloc (.cells #[.int .u64 0, .int .u64 0, .int .u64 0, .int .u64 0] 31))
  rw [World.size_alloc] at h
  exact ⟨(sb_zero w).later ((Below.refl _ _).alloc (Nat.le_refl _) _), h, ((Below.refl _ _).alloc (Nat.le_refl _) _).alloc (by simp) _⟩
theorem start2_hid (w : World) : Hid (St w ((w.alloc (.cells #[.int .u64 0, .int .u64 0, .int .u64 0, .int .u64 0] 31)).alloc (.cells #[.int .u64 0, .int .u64 0, .int .u64 0, .int .u64 0] 31)) w.heap.size (w.heap.size + 1) Oct.none) := start2 w
theorem start2' (w0 w : World) (hb : Below w0.heap.size w0 w) : St w0 ((w.alloc (.cells #[.int .u64 0, .int .u64 0, .int .u64 0, .int .u64 0] 31)).alloc (.cells #[.int .u64 0, .int .u64 0, .int .u64 0, .int .u64 0] 31)) w.heap.size (w.heap.size + 1) Oct.none :=
  ⟨(start2 w).1, (start2 w).2.1, below_trans hb (start2 w).2.2 hb.size⟩
/-- the variable into the result: the function's end -/
theorem St.ret {w u : World} {R V : Nat} {s : Oct.S} (h : St w u R V s) (f : Func) (slot : Nat) (hf : f.results = #[.cell slot 31]) {a : Act} (hd : a.defers = []) (ha : a.tmps[slot]?.getD undef = .pointer (some ⟨R, 0, none⟩)) (hR : w.heap.size ≤ R) (t : Oct.S) (e : ∀ b, b < 256 → s b = t b) :
    bodyPost Try.prog f (fun e w' => e = .returned (setV t) ∧ Below w.heap.size w w') .ret a (put4 u R s) :=
  post_set f slot hf hd ha (h.1.put4 s) ⟨by rw [setV_congr e], below_put4 h.2.2 hR s⟩
/-- a set that a call answered, into the result -/
theorem St.put4_ret {w u : World} {R V : Nat} {s : Oct.S} (h : St w u R V s) (x : Oct.S) (f : Func) (slot : Nat) (hf : f.results = #[.cell slot 31]) {a : Act} (hd : a.defers = []) (ha : a.tmps[slot]?.getD undef = .pointer (some ⟨R, 0, none⟩)) (hR : w.heap.size ≤ R) (t : Oct.S) (e : ∀ b, b < 256 → x b = t b) :
    bodyPost Try.prog f (fun e w' => e = .returned (setV t) ∧ Below w.heap.size w w') .ret a (put4 u R x) :=
  post_set f slot hf hd ha (h.1.put4 x) ⟨by rw [setV_congr e], below_put4 h.2.2 hR x⟩
theorem info29 : (Try.prog.info? 29).map (fun i => (i.zero, i.size, i.bytes)) = some (some (.int .u64 0), 1, 8) := by kernel_rfl
theorem idx0 (a b c d : Value) (w : World) : (Instr.index 31 (.agg #[a, b, c, d]) (.int .i64 0)).run Try.prog w = .ok a w := by
  obtain ⟨i0, hi, hz0, hz1, hz2⟩ := info_parts info29
  simp [Instr.index, asIntOf, run_underlying Try.underlying31, sizeOf, typeInfo, hi, hz1, part, Try.isAgg29]
theorem idx1 (a b c d : Value) (w : World) : (Instr.index 31 (.agg #[a, b, c, d]) (.int .i64 1)).run Try.prog w = .ok b w := by
  obtain ⟨i0, hi, hz0, hz1, hz2⟩ := info_parts info29
  simp [Instr.index, asIntOf, run_underlying Try.underlying31, sizeOf, typeInfo, hi, hz1, part, Try.isAgg29]
theorem idx2 (a b c d : Value) (w : World) : (Instr.index 31 (.agg #[a, b, c, d]) (.int .i64 2)).run Try.prog w = .ok c w := by
  obtain ⟨i0, hi, hz0, hz1, hz2⟩ := info_parts info29
  simp [Instr.index, asIntOf, run_underlying Try.underlying31, sizeOf, typeInfo, hi, hz1, part, Try.isAgg29]
theorem idx3 (a b c d : Value) (w : World) : (Instr.index 31 (.agg #[a, b, c, d]) (.int .i64 3)).run Try.prog w = .ok d w := by
  obtain ⟨i0, hi, hz0, hz1, hz2⟩ := info_parts info29
  simp [Instr.index, asIntOf, run_underlying Try.underlying31, sizeOf, typeInfo, hi, hz1, part, Try.isAgg29]
theorem eq4_same (a b c d : Int) (w : World) : (Op.equalIn 10000 31 (.agg #[.int .u64 a, .int .u64 b, .int .u64 c, .int .u64 d]) (.agg #[.int .u64 a, .int .u64 b, .int .u64 c, .int .u64 d])).run Try.prog w = .ok true w := by
  obtain ⟨i0, hi, hz0, hz1, hz2⟩ := info_parts info29
  have h1 : ∀ x : Int, (Op.equalIn 9999 29 (.int .u64 x) (.int .u64 x)).run Try.prog w = .ok true w := fun x => by
    rw [run_equalIn_int w 9998 29 .u64 .u64 x x Try.underlying29]; simp
  rw [show (10000 : Nat) = 9999 + 1 from rfl, Op.equalIn]
  simp [run_underlying Try.underlying31, sizeOf, typeInfo, hi, hz1, part, Try.isAgg29, Std.Legacy.Range.forIn_eq_forIn_range', Std.Legacy.Range.size, List.range'_succ, List.range'_zero, h1]
theorem getD_mem {bs : List Nat} {k : Nat} (h : k < bs.length) : bs.getD k 0 ∈ bs := by
  simp [List.getD, h]
theorem with_sum (s : Oct.S) (f k : Nat) (w : World) (hb : f + k < 256) : Calls Try.prog 30 #[setV s, .int .u8 ((f : Int) + (k : Int))] w fun e w' => e = .returned (setV (Oct.ins s (f + k))) ∧ Below w.heap.size w w' := by
  have h := with_any s (f + k) w hb
  rw [Int.natCast_add] at h
  exact h
end Go.Proofs.Ytemmicnhnaafmaa

/- Contracts of octets.Of, Span and Count: by walking their bodies. -/
namespace Go.Proofs.Ytemmicnhnaafmaa
open Go.RowKit

set_option maxHeartbeats 400000 in
theorem of_any (a : Option Addr) (n cap : Nat) (bs : List Nat) (w : World) (hn : n = bs.length) (hl : n ≤ maxLen) (hat : BytesAt w a bs) (hb : ∀ b ∈ bs, b < 256) :
    Calls Try.prog 24 #[.slice a n cap] w fun e w' => e = .returned (setV (Oct.has bs)) ∧ Below w.heap.size w w' := by
  unfold maxLen at hl
  have HN : Hid (n = bs.length) := hn
  have HAT : Hid (BytesAt w a bs) := hat
  have HBS : Hid (∀ b ∈ bs, b < 256) := hb
  clear hn hat hb
  have H0 := start2_hid w
  go_enter Try.func24, Try.ntmps24
  go_wp2
  go_loopw [8] (fun i u => ∃ k : Nat, k ≤ n ∧ i = .int .i64 k ∧ Hid (St w u w.heap.size (w.heap.size + 1) (Oct.has (bs.take k)))) (fun i _ => n - (intOf i).toNat)
  case atStart => exact ⟨0, Nat.zero_le _, rfl, H0.out.as (fun b _ => by simp [Oct.has, Oct.none])⟩
  case round =>
    clear H0
    obtain ⟨k, hk, rfl, hs⟩ := hrel
    obtain ⟨s, hS⟩ : ∃ s, s = Oct.has (bs.take k) := ⟨_, rfl⟩
    have HS : Hid (s = Oct.has (bs.take k)) := hS
    rw [← hS] at hs
    clear hS
    obtain ⟨⟨c0, c1, c2, c3⟩, ⟨f0, f1, f2, f3⟩, ⟨d0, d1, d2, d3⟩, ⟨g0, g1, g2, g3⟩⟩ := hs.out.facts
    by_cases hlt : k < n
    · have hkl : k < bs.length := by rw [← HN.out]; exact hlt
      obtain ⟨g, o, rfl, h1⟩ := bytesAt_cell HAT.out hs.out.2.2 hkl
      have h2 : bs.getD k 0 < 256 := HBS.out _ (getD_mem hkl)
      obtain ⟨b, hbe⟩ : ∃ b, b = bs.getD k 0 := ⟨_, rfl⟩
      rw [← hbe] at h1 h2
      have HBE : Hid (b = bs.getD k 0) := hbe
      have HKL : Hid (k < bs.length) := hkl
      clear hbe hkl
      go_wp2_with fail
      refine (with_any s b _ h2).mono ?_
      rintro e w3 ⟨rfl, hb3⟩
      have HS3 : Hid (St w w3 w.heap.size (w.heap.size + 1) s) := hs.out.later hb3
      clear hs hb3 c0 c1 c2 c3 f0 f1 f2 f3 d0 d1 d2 d3 g0 g1 g2 g3 h1
      obtain ⟨⟨c0, c1, c2, c3⟩, ⟨f0, f1, f2, f3⟩, _, _⟩ := HS3.out.facts
      unfold setV
      go_wp2
      go_roundw
      case rel => exact ⟨k + 1, by omega, by go_num, (HS3.out.put (by omega) (by omega) (Oct.ins s b)).as (fun c _ => by rw [HS.out, HBE.out]; exact Oct.has_take_succ bs k HKL.out c)⟩
      case measure => simp [intOf]; omega
    · go_wp2
      exact hs.out.ret Try.f24 2 rfl rfl rfl (Nat.le_refl _) _ (fun c _ => by rw [HS.out, List.take_of_length_le (by rw [← HN.out]; omega)])

set_option maxRecDepth 4000 in
set_option maxHeartbeats 400000 in
theorem count_core (s : Oct.S) (N : Nat) (w : World) (hN : N = Oct.count s 256) : Calls Try.prog 18 #[setV s] w fun e w' => e = .returned (.int .i64 (N : Nat)) ∧ Below w.heap.size w w' := by
  have HN : Hid (N = Oct.count s 256) := hN
  clear hN
  have H0 : Hid (SB (w.alloc (.cells #[.int .u64 (Oct.word s 0 : Nat), .int .u64 (Oct.word s 1 : Nat), .int .u64 (Oct.word s 2 : Nat), .int .u64 (Oct.word s 3 : Nat)] 31)) w.heap.size s) := sb_new w s
  have HB : Hid (Below w.heap.size w (w.alloc (.cells #[.int .u64 (Oct.word s 0 : Nat), .int .u64 (Oct.word s 1 : Nat), .int .u64 (Oct.word s 2 : Nat), .int .u64 (Oct.word s 3 : Nat)] 31))) := (Below.refl w.heap.size w).alloc (Nat.le_refl _) _
  unfold setV
  go_enter Try.func18, Try.ntmps18
  go_wp2
  go_loopw [3, 5] (fun n i u => ∃ k : Nat, k ≤ 256 ∧ i = .int .i64 k ∧ n = .int .i64 (Oct.count s k : Nat) ∧ Hid (SB u w.heap.size s) ∧ Hid (Below w.heap.size w u)) (fun _ i _ => 256 - (intOf i).toNat)
  case atStart => exact ⟨0, Nat.zero_le _, rfl, rfl, H0.out, HB.out⟩
  case round =>
    clear H0 HB
    obtain ⟨k, hk, rfl, rfl, hs, hb⟩ := hrel
    have hc := Oct.count_le s k
    have HC : Hid (Oct.count s (k + 1) = Oct.count s k + if s k then 1 else 0) := Oct.count_succ s k
    obtain ⟨c, hce⟩ : ∃ c, c = Oct.count s k := ⟨_, rfl⟩
    rw [← hce] at hc HC ⊢
    have HCE : Hid (c = Oct.count s k) := hce
    clear hce
    obtain ⟨c0, c1, c2, c3⟩ := hs.out.cells
    by_cases hlt : k < 256
    · go_wp2_with fail
      refine (has_any s k _ hlt).mono ?_
      rintro e w3 ⟨rfl, hb3⟩
      have HS3 : Hid (SB w3 w.heap.size s) := hs.out.later hb3
      have HB3 : Hid (Below w.heap.size w w3) := below_trans hb.out hb3 hb.out.size
      clear hs hb hb3 c0 c1 c2 c3
      cases hsk : s k with
      | true =>
        have HT : Hid (s k = true) := hsk
        clear hsk
        go_wp2
        go_roundw
        case rel => exact ⟨k + 1, by omega, by go_num, by rw [HC.out, if_pos HT.out]; go_num, HS3.out, HB3.out⟩
        case measure => simp [intOf]; omega
      | false =>
        have HT : Hid (s k = false) := hsk
        clear hsk
        go_wp2
        go_roundw
        case rel => exact ⟨k + 1, by omega, by go_num, by rw [HC.out, if_neg (by rw [HT.out]; decide)]; go_num, HS3.out, HB3.out⟩
        case measure => simp [intOf]; omega
    · have HK : Hid (k = 256) := by show k = 256; omega
      go_wp2
      go_ret
      exact ⟨ret_int (by rw [HN.out, HCE.out, HK.out]), hb.out⟩
theorem count_any (s : Oct.S) (w : World) : Calls Try.prog 18 #[setV s] w fun e w' => e = .returned (.int .i64 (Oct.count s 256 : Nat)) ∧ Below w.heap.size w w' := count_core s _ w rfl
end Go.Proofs.Ytemmicnhnaafmaa

/- Contracts of octets.Join, Meet and Not: by walking their bodies. -/
namespace Go.Proofs.Ytemmicnhnaafmaa
open Go.RowKit

theorem or_words (s t : Oct.S) (i : Nat) : bits .or .u64 (Oct.word s i : Nat) (Oct.word t i : Nat) = (Oct.word (Oct.join s t) i : Nat) := by
  rw [u64_or_nat _ _ (Oct.word_lt s i) (Oct.word_lt t i), Oct.word_join]
theorem and_words (s t : Oct.S) (i : Nat) : bits .and .u64 (Oct.word s i : Nat) (Oct.word t i : Nat) = (Oct.word (Oct.meet s t) i : Nat) := by
  rw [u64_and_nat _ _ (Oct.word_lt s i) (Oct.word_lt t i), Oct.word_meet]

set_option maxHeartbeats 1000000 in
theorem join_any (a : Option Addr) (n cap : Nat) (l : List Oct.S) (w : World) (hn : n = l.length) (hl : n ≤ maxLen) (hat : SetsAt w a l) :
    Calls Try.prog 17 #[.slice a n cap] w fun e w' => e = .returned (setV (Oct.joins l)) ∧ Below w.heap.size w w' := by
  unfold maxLen at hl
  have HN : Hid (n = l.length) := hn
  have HAT : Hid (SetsAt w a l) := hat
  clear hn hat
  have H0 := start2_hid w
  go_enter Try.func17, Try.ntmps17
  go_wp2
  go_loopw [10] (fun i u => ∃ k : Nat, k ≤ n ∧ i = .int .i64 k ∧ Hid (St w u w.heap.size (w.heap.size + 1) (Oct.joins (l.take k)))) (fun i _ => n - (intOf i).toNat)
  case atStart => exact ⟨0, Nat.zero_le _, rfl, H0.out.as (fun b _ => by simp [Oct.joins, Oct.none])⟩
  case round =>
    clear H0
    obtain ⟨k, hk, rfl, hs⟩ := hrel
    obtain ⟨s, hS⟩ : ∃ s, s = Oct.joins (l.take k) := ⟨_, rfl⟩
    have HS : Hid (s = Oct.joins (l.take k)) := hS
    rw [← hS] at hs
    clear hS
    obtain ⟨⟨c0, c1, c2, c3⟩, ⟨f0, f1, f2, f3⟩, ⟨d0, d1, d2, d3⟩, ⟨g0, g1, g2, g3⟩⟩ := hs.out.facts
    by_cases hlt : k < n
    · have hkl : k < l.length := by rw [← HN.out]; exact hlt
      obtain ⟨x, hx⟩ : ∃ x, l[k]? = some x := ⟨_, List.getElem?_eq_getElem hkl⟩
      obtain ⟨g, o, rfl, h0, h1, h2, h3⟩ := setsAt_cell HAT.out hs.out.2.2 hx
      have HX : Hid (l[k]? = some x) := hx
      clear hx hkl
      have H2 : Hid (St w (wr.alloc (.cells #[.int .u64 (Oct.word x 0 : Nat), .int .u64 (Oct.word x 1 : Nat), .int .u64 (Oct.word x 2 : Nat), .int .u64 (Oct.word x 3 : Nat)] 31)) w.heap.size (w.heap.size + 1) s) := hs.out.later ((Below.refl _ _).alloc (Nat.le_refl _) _)
      go_wp2
      go_loopw [15] (fun i u => ∃ j : Nat, j ≤ 4 ∧ i = .int .i64 j ∧ Hid (St w u w.heap.size (w.heap.size + 1) (Oct.upto j (Oct.join s x) s))) (fun i _ => 4 - (intOf i).toNat)
      case atStart => exact ⟨0, Nat.zero_le _, rfl, by rw [Oct.upto_zero]; exact H2⟩
      case round =>
        obtain ⟨j, hj, rfl, hs2⟩ := hrel
        clear c0 c1 c2 c3 f0 f1 f2 f3 d0 d1 d2 d3 g0 g1 g2 g3 h0 h1 h2 h3 hs H2
        obtain ⟨⟨c0, c1, c2, c3⟩, ⟨f0, f1, f2, f3⟩, ⟨d0, d1, d2, d3⟩, ⟨g0, g1, g2, g3⟩⟩ := hs2.out.facts
        by_cases hj4 : j < 4
        · have hcases : j = 0 ∨ j = 1 ∨ j = 2 ∨ j = 3 := by omega
          clear hj4 hj
          rcases hcases with rfl | rfl | rfl | rfl
          all_goals
            have i0 := idx0
            have i1 := idx1
            have i2 := idx2
            have i3 := idx3
            go_wp2
            go_roundw
            case rel => exact ⟨_, by decide, rfl, hs2.out.set (by omega) (by omega) _ (by decide) _ (by rw [Oct.word_upto_ge _ _ _ _ (Nat.le_refl _), or_words, Oct.word_upto_lt _ _ _ _ (by decide)]) (fun i _ hne => Oct.word_upto_step _ _ i _ hne)⟩
            case measure => simp [intOf]
        · obtain rfl : j = 4 := by omega
          go_wp2
          go_roundw
          case rel => exact ⟨k + 1, by omega, by go_num, hs2.out.as (fun c hc => by rw [Oct.upto_all _ _ _ hc, HS.out]; exact Oct.joins_take_succ l k x HX.out c)⟩
          case measure => simp [intOf]; omega
    · go_wp2
      exact hs.out.ret Try.f17 2 rfl rfl rfl (Nat.le_refl _) _ (fun c _ => by rw [HS.out, List.take_of_length_le (by rw [← HN.out]; omega)])

theorem start_meet (w : World) (s t : Oct.S) : ∃ u, u = (((w.alloc (.cells #[.int .u64 (Oct.word s 0 : Nat), .int .u64 (Oct.word s 1 : Nat), .int .u64 (Oct.word s 2 : Nat), .int .u64 (Oct.word s 3 : Nat)] 31)).alloc (.cells #[.int .u64 (Oct.word t 0 : Nat), .int .u64 (Oct.word t 1 : Nat), .int .u64 (Oct.word t 2 : Nat), .int .u64 (Oct.word t 3 : Nat)] 31)).alloc (.cells #[.int .u64 0, .int .u64 0, .int .u64 0, .int .u64 0] 31)).alloc (.cells #[.int .u64 0, .int .u64 0, .int .u64 0, .int .u64 0] 31) ∧
    SB u w.heap.size s ∧ SB u (w.heap.size + 1) t ∧ St w u (w.heap.size + 2) (w.heap.size + 3) Oct.none := by
  refine ⟨_, rfl, ?_⟩
  obtain ⟨w1, h1⟩ : ∃ w1, w1 = w.alloc (.cells #[.int .u64 (Oct.word s 0 : Nat), .int .u64 (Oct.word s 1 : Nat), .int .u64 (Oct.word s 2 : Nat), .int .u64 (Oct.word s 3 : Nat)] 31) := ⟨_, rfl⟩
  have b1 : Below w.heap.size w w1 := by rw [h1]; exact (Below.refl _ _).alloc (Nat.le_refl _) _
  have z1 : w1.heap.size = w.heap.size + 1 := by rw [h1]; simp
  have a1 : SB w1 w.heap.size s := by rw [h1]; exact sb_new w s
  rw [← h1]
  clear h1
  obtain ⟨w2, h2⟩ : ∃ w2, w2 = w1.alloc (.cells #[.int .u64 (Oct.word t 0 : Nat), .int .u64 (Oct.word t 1 : Nat), .int .u64 (Oct.word t 2 : Nat), .int .u64 (Oct.word t 3 : Nat)] 31) := ⟨_, rfl⟩
  have b2 : Below w1.heap.size w1 w2 := by rw [h2]; exact (Below.refl _ _).alloc (Nat.le_refl _) _
  have z2 : w2.heap.size = w.heap.size + 2 := by rw [h2]; simp [z1]
  have a2 : SB w2 (w.heap.size + 1) t := by rw [h2, ← z1]; exact sb_new w1 t
  rw [← h2]
  clear h2
  have h3 := start2' w w2 (below_trans b1 b2 b1.size)
  rw [z2] at h3
  exact ⟨(a1.later b2).later (start2 w2).2.2, a2.later (start2 w2).2.2, h3⟩
set_option maxHeartbeats 1000000 in
theorem meet_any (s t : Oct.S) (w : World) : Calls Try.prog 16 #[setV s, setV t] w fun e w' => e = .returned (setV (Oct.meet s t)) ∧ Below w.heap.size w w' := by
  obtain ⟨u0, hu0, hA, hB, hst⟩ := start_meet w s t
  have HB0 : Hid (SB u0 (w.heap.size + 1) t) := hB
  have H0 : Hid (St w u0 (w.heap.size + 2) (w.heap.size + 3) Oct.none) := hst
  have HU : Hid (u0 = _) := hu0
  clear hA hB hst
  clear hu0
  unfold setV
  go_enter Try.func16, Try.ntmps16
  go_wp2
  rw [← HU.out]
  clear HU
  go_loopw [9] (fun i u => ∃ j : Nat, j ≤ 4 ∧ i = .int .i64 j ∧ Hid (SB u (w.heap.size + 1) t) ∧ Hid (St w u (w.heap.size + 2) (w.heap.size + 3) (Oct.upto j (Oct.meet s t) Oct.none))) (fun i _ => 4 - (intOf i).toNat)
  case atStart => exact ⟨0, Nat.zero_le _, rfl, HB0, by rw [Oct.upto_zero]; exact H0⟩
  case round =>
    clear HB0 H0
    obtain ⟨j, hj, rfl, hb, hs⟩ := hrel
    obtain ⟨⟨c0, c1, c2, c3⟩, ⟨f0, f1, f2, f3⟩, ⟨d0, d1, d2, d3⟩, ⟨g0, g1, g2, g3⟩⟩ := hs.out.facts
    obtain ⟨e0, e1, e2, e3⟩ := hb.out.cells
    by_cases hj4 : j < 4
    · have hcases : j = 0 ∨ j = 1 ∨ j = 2 ∨ j = 3 := by omega
      clear hj4 hj
      rcases hcases with rfl | rfl | rfl | rfl
      all_goals
        have i0 := idx0
        have i1 := idx1
        have i2 := idx2
        have i3 := idx3
        go_wp2
        go_roundw
        case rel => exact ⟨_, by decide, rfl, hb.out.other (by omega) _ _, hs.out.set (by omega) (by omega) _ (by decide) _ (by rw [and_words, Oct.word_upto_lt _ _ _ _ (by decide)]) (fun i _ hne => Oct.word_upto_step _ _ i _ hne)⟩
        case measure => simp [intOf]
    · obtain rfl : j = 4 := by omega
      go_wp2
      exact hs.out.ret Try.f16 4 rfl rfl rfl (by omega) _ (fun c hc => Oct.upto_all _ _ _ hc)

theorem start_not (w : World) (s : Oct.S) : ∃ u, u = ((w.alloc (.cells #[.int .u64 (Oct.word s 0 : Nat), .int .u64 (Oct.word s 1 : Nat), .int .u64 (Oct.word s 2 : Nat), .int .u64 (Oct.word s 3 : Nat)] 31)).alloc (.cells #[.int .u64 0, .int .u64 0, .int .u64 0, .int .u64 0] 31)).alloc (.cells #[.int .u64 0, .int .u64 0, .int .u64 0, .int .u64 0] 31) ∧
    SB u w.heap.size s ∧ St w u (w.heap.size + 1) (w.heap.size + 2) Oct.none := by
  refine ⟨_, rfl, ?_⟩
  obtain ⟨w1, h1⟩ : ∃ w1, w1 = w.alloc (.cells #[.int .u64 (Oct.word s 0 : Nat), .int .u64 (Oct.word s 1 : Nat), .int .u64 (Oct.word s 2 : Nat), .int .u64 (Oct.word s 3 : Nat)] 31) := ⟨_, rfl⟩
  have b1 : Below w.heap.size w w1 := by rw [h1]; exact (Below.refl _ _).alloc (Nat.le_refl _) _
  have z1 : w1.heap.size = w.heap.size + 1 := by rw [h1]; simp
  have a1 : SB w1 w.heap.size s := by rw [h1]; exact sb_new w s
  rw [← h1]
  clear h1
  have h3 := start2' w w1 b1
  rw [z1] at h3
  exact ⟨a1.later (start2 w1).2.2, h3⟩
theorem xor_word (s : Oct.S) (i : Nat) : bits .xor .u64 (if IntKind.u64.signed = true then -1 else IntKind.u64.max) (Oct.word s i : Nat) = (Oct.word (fun c => !(s c)) i : Nat) := by
  have e : (if IntKind.u64.signed = true then (-1 : Int) else IntKind.u64.max) = ((18446744073709551615 : Nat) : Int) := by simp [IntKind.signed, IntKind.max, IntKind.bits]
  rw [e, u64_xor_nat _ _ (by decide) (Oct.word_lt s i)]
  congr 1
  refine Oct.word_eq (Nat.xor_lt_two_pow (n := 64) (by decide) (Oct.word_lt s i)) (fun k hk => ?_)
  rw [Nat.testBit_xor, show (18446744073709551615 : Nat) = 2 ^ 64 - 1 from rfl, Nat.testBit_two_pow_sub_one, Oct.word_bit]
  simp [hk]
end Go.Proofs.Ytemmicnhnaafmaa

/- The contracts of octets in the form that a region of many calls wants: arguments and answers written out, the lists of Join by their blocks. -/
namespace Go.Proofs.Ytemmicnhnaafmaa
open Go.RowKit

/-- a set's words as cells -/
def cells4 (s : Oct.S) : List Value := [.int .u64 (Oct.word s 0 : Nat), .int .u64 (Oct.word s 1 : Nat), .int .u64 (Oct.word s 2 : Nat), .int .u64 (Oct.word s 3 : Nat)]
def flat (l : List Oct.S) : List Value := l.flatMap cells4
theorem flat_length (l : List Oct.S) : (flat l).length = 4 * l.length := by
  induction l with
  | nil => rfl
  | cons s r ih => simp only [flat, List.flatMap_cons, List.length_append, List.length_cons] at ih ⊢; rw [ih]; simp [cells4]; omega
theorem flat_at (l : List Oct.S) (k j : Nat) (s : Oct.S) (hk : l[k]? = some s) (hj : j < 4) : (flat l)[k * 4 + j]? = (cells4 s)[j]? := by
  induction l generalizing k with
  | nil => simp at hk
  | cons x r ih =>
    simp only [flat, List.flatMap_cons] at ih ⊢
    cases k with
    | zero =>
      simp at hk
      subst hk
      rw [List.getElem?_append_left (by simp [cells4]; omega)]
      simp
    | succ k =>
      simp at hk
      rw [List.getElem?_append_right (by simp [cells4]; omega), ← ih k hk]
      congr 1
      simp [cells4]
      omega
/-- A LIST OF SETS IN A BLOCK OF ITS OWN. -/
structure SL (w : World) (g : Nat) (l : List Oct.S) : Prop where
  block : w.heap[g]? = some (.cells (flat l).toArray 31 (0, 0))
theorem SL.at {w : World} {g : Nat} {l : List Oct.S} (h : SL w g l) : SetsAt w (some ⟨g, 0, none⟩) l := by
  refine Or.inr ⟨g, 0, rfl, fun k s hk => ?_⟩
  have h := h.block
  have h0 := flat_at l k 0 s hk (by decide)
  have h1 := flat_at l k 1 s hk (by decide)
  have h2 := flat_at l k 2 s hk (by decide)
  have h3 := flat_at l k 3 s hk (by decide)
  simp only [Nat.add_zero] at h0
  refine ⟨?_, ?_, ?_, ?_⟩ <;> simp [World.cell?, h, h0, h1, h2, h3, cells4]
theorem SL.later {w w' : World} {g : Nat} {l : List Oct.S} (h : SL w g l) (hb : Below w.heap.size w w') : SL w' g l := ⟨(hb.block g (Array.getElem?_eq_some_iff.1 h.block).1).trans h.block⟩
theorem SL.alloc {w : World} {g : Nat} {l : List Oct.S} (h : SL w g l) (o : Obj) : SL (w.alloc o) g l := h.later ((Below.refl _ _).alloc (Nat.le_refl _) _)
theorem sl2_new (w : World) (s t : Oct.S) (g : Nat) (hg : g = w.heap.size) : SL (w.alloc (.cells #[.int .u64 (Oct.word s 0 : Nat), .int .u64 (Oct.word s 1 : Nat), .int .u64 (Oct.word s 2 : Nat), .int .u64 (Oct.word s 3 : Nat), .int .u64 (Oct.word t 0 : Nat), .int .u64 (Oct.word t 1 : Nat), .int .u64 (Oct.word t 2 : Nat), .int .u64 (Oct.word t 3 : Nat)] 31)) g [s, t] := by
  subst hg
  exact ⟨heap_alloc_new w _⟩
theorem sl3_new (w : World) (s t r : Oct.S) (g : Nat) (hg : g = w.heap.size) : SL (w.alloc (.cells #[.int .u64 (Oct.word s 0 : Nat), .int .u64 (Oct.word s 1 : Nat), .int .u64 (Oct.word s 2 : Nat), .int .u64 (Oct.word s 3 : Nat), .int .u64 (Oct.word t 0 : Nat), .int .u64 (Oct.word t 1 : Nat), .int .u64 (Oct.word t 2 : Nat), .int .u64 (Oct.word t 3 : Nat), .int .u64 (Oct.word r 0 : Nat), .int .u64 (Oct.word r 1 : Nat), .int .u64 (Oct.word r 2 : Nat), .int .u64 (Oct.word r 3 : Nat)] 31)) g [s, t, r] := by
  subst hg
  exact ⟨heap_alloc_new w _⟩
theorem sl2_next (w : World) (o : Obj) (s t : Oct.S) : SL ((w.alloc o).alloc (.cells #[.int .u64 (Oct.word s 0 : Nat), .int .u64 (Oct.word s 1 : Nat), .int .u64 (Oct.word s 2 : Nat), .int .u64 (Oct.word s 3 : Nat), .int .u64 (Oct.word t 0 : Nat), .int .u64 (Oct.word t 1 : Nat), .int .u64 (Oct.word t 2 : Nat), .int .u64 (Oct.word t 3 : Nat)] 31)) (w.heap.size + 1) [s, t] := sl2_new (w.alloc o) s t _ (by simp)
theorem sl3_next (w : World) (o : Obj) (s t r : Oct.S) : SL ((w.alloc o).alloc (.cells #[.int .u64 (Oct.word s 0 : Nat), .int .u64 (Oct.word s 1 : Nat), .int .u64 (Oct.word s 2 : Nat), .int .u64 (Oct.word s 3 : Nat), .int .u64 (Oct.word t 0 : Nat), .int .u64 (Oct.word t 1 : Nat), .int .u64 (Oct.word t 2 : Nat), .int .u64 (Oct.word t 3 : Nat), .int .u64 (Oct.word r 0 : Nat), .int .u64 (Oct.word r 1 : Nat), .int .u64 (Oct.word r 2 : Nat), .int .u64 (Oct.word r 3 : Nat)] 31)) (w.heap.size + 1) [s, t, r] := sl3_new (w.alloc o) s t r _ (by simp)
/-- an answer written out -/
def Gives (w : World) (s : Oct.S) : Ending → World → Prop := fun e w' => e = .returned (.agg #[.int .u64 (Oct.word s 0 : Nat), .int .u64 (Oct.word s 1 : Nat), .int .u64 (Oct.word s 2 : Nat), .int .u64 (Oct.word s 3 : Nat)]) ∧ Below w.heap.size w w'
theorem join0_gen (w : World) : Calls Try.prog 17 #[.slice none 0 0] w fun e w' => e = .returned (.agg #[.int .u64 (Oct.word Oct.none 0 : Nat), .int .u64 (Oct.word Oct.none 1 : Nat), .int .u64 (Oct.word Oct.none 2 : Nat), .int .u64 (Oct.word Oct.none 3 : Nat)]) ∧ Below w.heap.size w w' :=
  join_any none 0 0 [] w rfl (by simp [maxLen]) (Or.inl rfl)
theorem join2_gen {w : World} {g : Nat} {s t : Oct.S} (h : SL w g [s, t]) : Calls Try.prog 17 #[.slice (some ⟨g, 0, none⟩) 2 2] w fun e w' => e = .returned (.agg #[.int .u64 (Oct.word (Oct.join s t) 0 : Nat), .int .u64 (Oct.word (Oct.join s t) 1 : Nat), .int .u64 (Oct.word (Oct.join s t) 2 : Nat), .int .u64 (Oct.word (Oct.join s t) 3 : Nat)]) ∧ Below w.heap.size w w' := by
  refine (join_any _ 2 2 [s, t] w rfl (by simp [maxLen]) h.at).mono ?_
  rintro e w' ⟨rfl, hb⟩
  exact ⟨by rw [setV_congr (s := Oct.joins [s, t]) (t := Oct.join s t) (fun b _ => by simp [Oct.joins, Oct.join])]; rfl, hb⟩
theorem join3_gen {w : World} {g : Nat} {s t r : Oct.S} (h : SL w g [s, t, r]) : Calls Try.prog 17 #[.slice (some ⟨g, 0, none⟩) 3 3] w fun e w' => e = .returned (.agg #[.int .u64 (Oct.word (Oct.join s (Oct.join t r)) 0 : Nat), .int .u64 (Oct.word (Oct.join s (Oct.join t r)) 1 : Nat), .int .u64 (Oct.word (Oct.join s (Oct.join t r)) 2 : Nat), .int .u64 (Oct.word (Oct.join s (Oct.join t r)) 3 : Nat)]) ∧ Below w.heap.size w w' := by
  refine (join_any _ 3 3 [s, t, r] w rfl (by simp [maxLen]) h.at).mono ?_
  rintro e w' ⟨rfl, hb⟩
  exact ⟨by rw [setV_congr (s := Oct.joins [s, t, r]) (t := Oct.join s (Oct.join t r)) (fun b _ => by simp [Oct.joins, Oct.join])]; rfl, hb⟩
theorem meet_gen (s t : Oct.S) (w : World) : Calls Try.prog 16 #[.agg #[.int .u64 (Oct.word s 0 : Nat), .int .u64 (Oct.word s 1 : Nat), .int .u64 (Oct.word s 2 : Nat), .int .u64 (Oct.word s 3 : Nat)], .agg #[.int .u64 (Oct.word t 0 : Nat), .int .u64 (Oct.word t 1 : Nat), .int .u64 (Oct.word t 2 : Nat), .int .u64 (Oct.word t 3 : Nat)]] w fun e w' => e = .returned (.agg #[.int .u64 (Oct.word (Oct.meet s t) 0 : Nat), .int .u64 (Oct.word (Oct.meet s t) 1 : Nat), .int .u64 (Oct.word (Oct.meet s t) 2 : Nat), .int .u64 (Oct.word (Oct.meet s t) 3 : Nat)]) ∧ Below w.heap.size w w' := meet_any s t w
theorem has_gen (s : Oct.S) (b : Nat) (w : World) (hb : b < 256) : Calls Try.prog 14 #[.agg #[.int .u64 (Oct.word s 0 : Nat), .int .u64 (Oct.word s 1 : Nat), .int .u64 (Oct.word s 2 : Nat), .int .u64 (Oct.word s 3 : Nat)], .int .u8 b] w fun e w' => e = .returned (.bool (s b)) ∧ Below w.heap.size w w' := has_any s b w hb
def cnt (s : Oct.S) : Nat := Oct.count s 256
theorem cnt_le (s : Oct.S) : cnt s ≤ 256 := Oct.count_le s 256
theorem count_gen (s : Oct.S) (w : World) : Calls Try.prog 18 #[.agg #[.int .u64 (Oct.word s 0 : Nat), .int .u64 (Oct.word s 1 : Nat), .int .u64 (Oct.word s 2 : Nat), .int .u64 (Oct.word s 3 : Nat)]] w fun e w' => e = .returned (.int .i64 (cnt s : Nat)) ∧ Below w.heap.size w w' := count_any s w
/-- a set's block in all later worlds -/
theorem SB.held {w : World} {A : Nat} {s : Oct.S} (h : SB w A s) : ∀ u, Below w.heap.size w u → u.cell? ⟨A, 0, none⟩ = some (.int .u64 (Oct.word s 0 : Nat)) ∧ u.cell? ⟨A, 1, none⟩ = some (.int .u64 (Oct.word s 1 : Nat)) ∧ u.cell? ⟨A, 2, none⟩ = some (.int .u64 (Oct.word s 2 : Nat)) ∧ u.cell? ⟨A, 3, none⟩ = some (.int .u64 (Oct.word s 3 : Nat)) :=
  fun _ hu => (h.later hu).cells
end Go.Proofs.Ytemmicnhnaafmaa

/- A region that draws its order, whose callees make memory but turn none of what was there: one walk in the order of the text serves every order. -/
namespace Go.Proofs.Ytemmicnhnaafmaa
open Go.RowKit

/-- a world in which all that w had stands as it stood -/
structure Later (w : World) where
  at_ : World
  below : Below w.heap.size w at_

theorem wp_region_later {P : Program} {id : Nat} {Q : Exit → Act → World → Prop} {a : Act} {w : World} {l : List Oper} (hm : P.follows .mixedOrders = true) (hB : Region.lexB .any l.toArray = true)
    (h : wpQuiet P l.toArray (fun w' => ∃ u : Later w, w' = u.at_) (fun a' => ∀ w', (∃ u : Later w, w' = u.at_) → Q .normal a' w') l a) : (Code.region id l.toArray true).wp P Q a w :=
  wp_region_quiet (C := fun w' => ∃ u : Later w, w' = u.at_) hm hB ⟨⟨w.drew, (Below.refl _ _).drew⟩, rfl⟩ (by simpa using h)
theorem calls_later {P : Program} {f : FuncId} {args : Array Value} {w : World} {u : Later w} {v : Value} (h : Calls P f args u.at_ fun e w' => e = .returned v ∧ Below u.at_.heap.size u.at_ w') :
    Calls P f args u.at_ fun e w'' => e = .returned v ∧ ∃ m : Later w, w'' = m.at_ :=
  h.mono fun _ w' ⟨he, hb⟩ => ⟨he, ⟨w', below_trans u.below hb u.below.size⟩, rfl⟩
theorem calls_later_same {P : Program} {f : FuncId} {args : Array Value} {w : World} {u : Later w} {v : Value} (h : Calls P f args u.at_ fun e w' => e = .returned v ∧ w' = u.at_) :
    Calls P f args u.at_ fun e w'' => e = .returned v ∧ ∃ m : Later w, w'' = m.at_ :=
  h.mono fun _ _ ⟨he, hb⟩ => ⟨he, u, hb⟩
end Go.Proofs.Ytemmicnhnaafmaa
