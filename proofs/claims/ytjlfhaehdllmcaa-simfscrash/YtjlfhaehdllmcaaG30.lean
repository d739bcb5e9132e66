/- heronlaw14: text, begins. -/
import Derived.Test.YtjlfhaehdllmcaaG29
import Derived.Lib.AppendStr
namespace Go.Proofs.Ytjlfhaehdllmcaa
open Go.RowKit Go.Maps Sf
attribute [local go_sem ↓] Go.wp_at_zero Go.wp_at_succ

structure Opr where
  kind : Int
  dd : Int
  a : ByteArray
  b : ByteArray
  s : ByteArray
  tm : Int
  nn : Int
  mm : Int
  oo : Int
  zz : Int
  kv : Value
  keep : List Int
def Opr.cells (o : Opr) : Array Value := #[.int .i64 o.kind, .int .i64 o.dd, .string o.a, .string o.b, .string o.s, .int .i64 o.tm, .int .i64 o.nn, .int .i64 o.mm, .int .i64 o.oo, .int .i64 o.zz, o.kv]
structure Opr.Ok (o : Opr) : Prop where
  a : o.a.size ≤ maxLen
  b : o.b.size ≤ maxLen
  s : o.s.size ≤ maxLen
  t : goodI o.tm
  k : ∀ z ∈ o.keep, goodI z
def OpAt (w : World) (b : Nat) (o : Opr) : Prop := w.heap[b]? = some (.cells o.cells 28 (0, 0))
theorem OpAt.cellsAt {w : World} {b : Nat} {o : Opr} (h : OpAt w b o) : w.cell? ⟨b, 0, none⟩ = some (.int .i64 o.kind) ∧ w.cell? ⟨b, 2, none⟩ = some (.string o.a) ∧ w.cell? ⟨b, 3, none⟩ = some (.string o.b) ∧ w.cell? ⟨b, 4, none⟩ = some (.string o.s) ∧ w.cell? ⟨b, 5, none⟩ = some (.int .i64 o.tm) ∧ w.cell? ⟨b, 10, none⟩ = some o.kv := by
  simp [World.cell?, show w.heap[b]? = _ from h, Opr.cells]
theorem OpAt.lt {w : World} {b : Nat} {o : Opr} (h : OpAt w b o) : b < w.heap.size := (Array.getElem?_eq_some_iff.1 h).1
theorem OpAt.later {w u : World} {b : Nat} {o : Opr} (h : OpAt w b o) (hb : Below w.heap.size w u) : OpAt u b o := (hb.block b h.lt).trans h
theorem strCells_uv (s : ByteArray) : Lib.strCells s = uv s.data.toList := by simp [Lib.strCells, uv]
structure TxI (w w1 : World) (o : Opr) (v : Value) (l : List UInt8) (u : World) : Prop where
  lo : Below w.heap.size w u
  op : OpAt u w.heap.size o
  ow : u.ownsRow w1.heap.size 5 1 v l.length (uv l)
  ll : l.length ≤ 70000
  sz : w1.heap.size ≤ u.heap.size
  nz : l = [] ∨ o.s.size ≤ 70000
def TextPost (w : World) (e : Ending) (w' : World) : Prop := ∃ V l, e = .returned V ∧ l.length ≤ 70000 ∧ w'.ownsRow w.heap.size 5 1 V l.length (uv l) ∧ Below w.heap.size w w'
theorem tx_step {w w1 : World} {o : Opr} {v V5 : Value} {l : List UInt8} {u w5 : World} {n : Nat} {va : Option Addr} {vc : Nat} (h : TxI w w1 o v l u) (hn : l.length = n) (how : u.ownsRow w1.heap.size 5 1 (.slice va n vc) n (uv l)) (hl : n + o.s.size ≤ 70000) (hA : w.heap.size < w1.heap.size) (ho : w5.ownsRow w1.heap.size 5 1 V5 (n + o.s.size) (uv l ++ Lib.strCells o.s)) (hg : u.grownBy w5 (Value.slice va n vc).ownBlock) : TxI w w1 o V5 (l ++ o.s.data.toList) w5 := by
  have hb : ∀ k, (Value.slice va n vc).ownBlock = some k → w1.heap.size ≤ k := fun k hk => by
    rcases how.2 with ⟨e, _⟩ | ⟨g, cap, cur, e, hg, _⟩
    · rw [e] at hk; cases hk
    · rw [e] at hk
      have : g = k := Option.some.inj hk
      omega
  have hss : o.s.data.toList.length = o.s.size := by rw [Array.length_toList]; rfl
  refine ⟨h.lo.grown hg h.lo.size (fun k hk => by have := hb k hk; omega), (hg.block _ h.op.lt (fun e => by have := hb _ e.symm; omega)).trans h.op, ?_, by rw [List.length_append, hn, hss]; exact hl, Nat.le_trans h.sz hg.size, .inr (by omega)⟩
  rw [strCells_uv] at ho
  rw [uv_app, List.length_append, hn, hss]
  exact ho
set_option maxRecDepth 8000 in
set_option maxHeartbeats 1000000 in
theorem text_any (o : Opr) (ho : o.Ok) (w : World) :
    Calls Try.prog 26 #[.agg o.cells, .int .i64 70000] w (TextPost w) := by
  obtain ⟨w1, hw1⟩ : ∃ w1, w.alloc (.cells o.cells 28) = w1 := ⟨_, rfl⟩
  have k1 : Below w.heap.size w w1 := by rw [← hw1]; exact (Below.refl _ _).alloc (Nat.le_refl _) _
  have op1 : OpAt w1 w.heap.size o := by rw [← hw1]; exact heap_alloc_new w _
  obtain ⟨A, hA⟩ : ∃ A, w.heap.size = A := ⟨_, rfl⟩
  have HA : Hid (w.heap.size = A) := hA
  have H0 : Hid (TxI w w1 o (.slice none 0 0) [] w1) := ⟨k1, op1, owns_nil _ _ _, by simp, Nat.le_refl _, .inl rfl⟩
  have HW : Hid (w.alloc (.cells o.cells 28) = w1 ∧ w.heap.size < w1.heap.size) := ⟨hw1, op1.lt⟩
  unfold Opr.cells at HW
  have hs := ho.s
  have ht := ho.t
  unfold goodI at ht
  unfold maxLen at hs
  obtain ⟨i0, hi, hz0, hz1, hz2⟩ := info_parts infB
  have HIN : Hid (Try.prog.info? 5 = some i0 ∧ i0.zero = some (.int .u8 0) ∧ i0.size = 1 ∧ i0.bytes = 1) := ⟨hi, hz0, hz1, hz2⟩
  clear k1 op1 hw1 hA ho hi hz0 hz1 hz2
  unfold Opr.cells
  go_enter Try.func26, Try.ntmps26
  go_wp2_with fail
  rw [HW.out.1, HA.out]
  go_loopw [5, 6] (fun v i u => ∃ (j : Nat) (l : List UInt8), i = .int .i64 (j : Nat) ∧ (j : Int) ≤ max o.tm 0 ∧ Hid (TxI w w1 o v l u)) (fun _ i _ => (max o.tm 0 - Go.RowKit.intOf i).toNat)
  case atStart => exact ⟨0, [], rfl, by omega, H0⟩
  case round =>
    obtain ⟨j, l, rfl, hj, HT⟩ := hrel
    clear H0
    obtain ⟨c0, c2, c3, c4, c5, c10⟩ := HT.out.op.cellsAt
    rw [HA.out] at c4 c5
    have HEND : Hid (TextPost w (.returned u5) wr) := ⟨u5, l, rfl, HT.out.ll, own_low HT.out.ow (Nat.le_of_lt HW.out.2), HT.out.lo⟩
    obtain ⟨va, vc, hv⟩ := own_form HT.out.ow
    have HV : Hid (u5 = .slice va l.length vc) := hv
    obtain ⟨n, hn⟩ : ∃ n, l.length = n := ⟨_, rfl⟩
    have hll := HT.out.ll
    have hov : l.length + o.s.size ≤ 9223372036854775807 := by
      rcases HT.out.nz with x | x
      · rw [x]; simp; omega
      · omega
    rw [hn] at hov
    have HN : Hid (l.length = n) := hn
    rw [hn] at hv hll
    clear c0 c2 c3 c10 hn
    subst hv
    by_cases h1 : (j : Int) < o.tm
    · by_cases h2 : (n : Int) + (o.s.size : Int) ≤ 70000
      · by_cases h3 : (0 : Int) < (o.s.size : Int)
        · have HOW : Hid (wr.ownsRow w1.heap.size 5 1 (.slice va n vc) n (uv l)) := by have := HT.out.ow; rw [HN.out] at this; exact this
          have HSZ : Hid (w1.heap.size ≤ wr.heap.size) := HT.out.sz
          go_wp2_with (first
            | (refine Lib.wpList_append_own_string (P := Try.prog) _ rfl (.tmp 29) (.tmp 31) 50 9 rfl w1.heap.size 5 i0 (by kernel_rfl) Try.underlying9 HIN.out.1 HIN.out.2.1 HIN.out.2.2.1 HIN.out.2.2.2 _ n (uv l) rfl HOW.out o.s rfl (by unfold maxLen; omega) (by omega) HSZ.out ?_; intro V5 w5 ho5 hg5 hn5; have HT5 : Hid (TxI w w1 o V5 (l ++ o.s.data.toList) w5) := tx_step HT.out HN.out HOW.out (by omega) HW.out.2 ho5 hg5; clear ho5 hg5 hn5)
            | fail)
          go_roundw
          case rel => exact ⟨j + 1, _, by go_num, by omega, HT5⟩
          case measure => simp [Go.RowKit.intOf]; omega
        · have h3' : decide ((0 : Int) < (o.s.size : Int)) = false := decide_eq_false h3
          go_wp2
          go_ret
          exact HEND.out
      · have h2' : decide ((n : Int) + (o.s.size : Int) ≤ 70000) = false := decide_eq_false h2
        go_wp2
        go_ret
        exact HEND.out
    · have h1' : decide ((j : Int) < o.tm) = false := decide_eq_false h1
      go_wp2
      go_ret
      exact HEND.out
end Go.Proofs.Ytjlfhaehdllmcaa
