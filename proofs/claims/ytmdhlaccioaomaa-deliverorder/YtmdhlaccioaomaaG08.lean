/- ring's functions, of alerts: place, Full, Len, Front. -/
import Derived.Test.YtmdhlaccioaomaaG07
namespace Go.Proofs.Ytmdhlaccioaomaa
open Go.RowKit Go.Maps Rg
attribute [local go_sem ↓] Go.wp_at_zero Go.wp_at_succ loadAl_eq storeAl_eq

theorem tplace_any {w : World} {B R n f c : Nat} (h : RBox w B R n f c) (hf : f < n) (hn : n ≤ 64) (k : Nat) (hk : k ≤ 64) :
    Calls Try.prog 38 #[.pointer (some ⟨B, 0, none⟩), .int .i64 (k : Nat)] w fun e w' => e = .returned (.int .i64 (((f + k) % n : Nat) : Nat)) ∧ w' = w.drew := by
  obtain ⟨c0, c1, c2⟩ := h.cells
  have HN : Hid (((f : Int) + k).tmod n = (((f + k) % n : Nat) : Nat)) := by
    show _ = _
    rw [show (f : Int) + k = ((f + k : Nat) : Int) by omega, Int.ofNat_tmod]
  have hb : f < 64 ∧ k ≤ 64 ∧ n ≤ 64 ∧ 0 < n := by omega
  have hnz : (n : Int) ≠ 0 := by omega
  clear h
  go_enter Try.func38, Try.ntmps38
  go_upto_region 1 with fail
  go_region
  go_wp2
  go_ret
  exact ⟨ret_int HN.out, rfl⟩
theorem tfull_any {w : World} {B R n f c : Nat} (h : RBox w B R n f c) :
    Calls Try.prog 25 #[.pointer (some ⟨B, 0, none⟩)] w fun e w' => e = .returned (.bool (decide (c = n))) ∧ w' = w.drew := by
  obtain ⟨c0, c1, c2⟩ := h.cells
  clear h
  go_enter Try.func25, Try.ntmps25
  go_upto_region 1 with fail
  go_region
  go_wp2
  go_ret
  exact ⟨ret_bool (by by_cases e : c = n <;> simp [e]; omega), rfl⟩
theorem tlen_any {w : World} {B R n f c : Nat} (h : RBox w B R n f c) :
    Calls Try.prog 39 #[.pointer (some ⟨B, 0, none⟩)] w fun e w' => e = .returned (.int .i64 (c : Nat)) ∧ w' = w := by
  obtain ⟨c0, c1, c2⟩ := h.cells
  clear h
  go_enter Try.func39, Try.ntmps39
  go_wp2
  go_ret
  exact ⟨rfl, rfl⟩
theorem tdrew_below (w : World) (q : Nat) : Below w.heap.size w (w.drewN q) := ⟨rfl, rfl, rfl, Nat.le_refl _, fun _ _ => rfl⟩
theorem tdrew2 (w : World) : Below w.heap.size w w.drew.drew := ⟨rfl, rfl, rfl, Nat.le_refl _, fun _ _ => rfl⟩
theorem tdrew3 (w : World) : Below w.heap.size w w.drew.drew.drew := ⟨rfl, rfl, rfl, Nat.le_refl _, fun _ _ => rfl⟩
theorem tset_drew (w : World) (a : Addr) (v : Value) : w.drew.setCell a v = (w.setCell a v).drew := rfl
theorem below_put {w u : World} (h : Below w.heap.size w u) {A : Nat} (hA : w.heap.size ≤ A) (j : Nat) (v : Value) : Below w.heap.size w (u.setCell ⟨A, j, none⟩ v) := by
  refine ⟨h.os, h.tape, h.output, ?_, fun k hk => ?_⟩
  · have := h.size
    simp only [World.setCell, Array.size_modify]
    exact this
  · exact (Below.heap_setCell u ⟨A, j, none⟩ _ k (by show k ≠ A; omega)).trans (h.block k hk)
theorem below_puts {w u : World} (h : Below w.heap.size w u) {A : Nat} (hA : w.heap.size ≤ A) (o : Nat) (vs : List Value) : Below w.heap.size w (u.setCells A o vs) := by
  obtain ⟨h1, h2, h3, h4⟩ := rest_setCells A vs o u
  exact ⟨h1.trans h.os, h2.trans h.tape, h3.trans h.output, by rw [h4]; exact h.size, fun k hk => (other_setCells A vs o u k (by omega)).trans (h.block k hk)⟩
theorem below_d {w u : World} (h : Below w.heap.size w u) : Below w.heap.size w u.drew := (h.trans (((Below.refl _ u).drew).mono h.size) : Below _ _ _)
theorem below_new (w : World) (ob : Obj) : Below w.heap.size w (w.alloc ob) := (Below.refl _ _).alloc (Nat.le_refl _) _
theorem al_res2 {F : Func} {k j : Nat} {b : Value} {u : World} {tmps : Array Value} {A : Nat} {x : Al} (hF : F.results = #[.cell k 41, .tmp j]) (h2 : tmps[k]?.getD undef = .pointer (some ⟨A, 0, none⟩)) (h3 : tmps[j]?.getD undef = b) (h : AlB u A x) : (results F tmps).run Try.prog u = .ok (.tuple #[alV x, b]) u := by
  have hl := h.loadv
  simp [results, hF, h2, h3, asAddr, hl]
theorem al_res3 {F : Func} {k i j : Nat} {a b : Value} {u : World} {tmps : Array Value} {A : Nat} {x : Al} (hF : F.results = #[.cell k 41, .tmp i, .tmp j]) (h2 : tmps[k]?.getD undef = .pointer (some ⟨A, 0, none⟩)) (h4 : tmps[i]?.getD undef = a) (h3 : tmps[j]?.getD undef = b) (h : AlB u A x) : (results F tmps).run Try.prog u = .ok (.tuple #[alV x, a, b]) u := by
  have hl := h.loadv
  simp [results, hF, h2, h3, h4, asAddr, hl]
/-- the zero alert's box, new -/
theorem zal_new {w w1 : World} {A : Nat} (hw1 : w.alloc (.cells (alC alZ).toArray 41) = w1) (hA : w.heap.size = A) : AlB w1 A alZ ∧ Below w.heap.size w w1 ∧ w1.heap.size = A + 1 := by
  subst hw1 hA
  exact ⟨alB_new w alZ, below_new w _, Array.size_push ..⟩
theorem tfront_any {w : World} {B R n f : Nat} {l : List Al} (h : AgAt w B R n f l) :
    Calls Try.prog 40 #[.pointer (some ⟨B, 0, none⟩)] w fun e w' => e = .returned (.tuple #[alV (l.head?.getD alZ), .bool (decide (0 < l.length))]) ∧ Below w.heap.size w w' := by
  obtain ⟨w1, hw1⟩ : ∃ w1, w.alloc (.cells (alC alZ).toArray 41) = w1 := ⟨_, rfl⟩
  obtain ⟨A, hA⟩ : ∃ A, w.heap.size = A := ⟨_, rfl⟩
  obtain ⟨b1, k1, -⟩ := zal_new hw1 hA
  have h1 := h.later k1
  obtain ⟨c0, c1, c2⟩ := h1.b.cells
  have hld := h1.drew.r.load h.f
  rw [rd_first h.f] at hld
  have hl : l.length ≤ 64 := by have := h.l; have := h.n; omega
  obtain ⟨m, hm⟩ : ∃ m, l.length = m := ⟨_, rfl⟩
  obtain ⟨x, hx⟩ : ∃ x, l.head?.getD alZ = x := ⟨_, rfl⟩
  rw [hx] at hld ⊢
  rw [hm] at c2 hl ⊢
  have hf := h.f
  have hn := h.n
  have hst := b1.drew.store x
  have c2' : (w1.drew.setCells A 0 (alC x)).cell? ⟨B, 2, none⟩ = some (.int .i64 (m : Nat)) := cell_sc (by have := h.b.lt; omega) _ _ (show w1.drew.cell? _ = _ from c2)
  have HW : Hid (w.alloc (.cells #[.int .i64 0, .int .i64 0, .int .i64 0, .int .i64 0, .int .i64 0, .int .i64 0, .int .i64 0, .int .i64 0, .int .i64 0, .int .i64 0, .string ⟨#[]⟩, .int .u32 0] 41) = w1) := hw1
  have HA : Hid (w.heap.size = A) := hA
  have HF : Hid (Below w.heap.size w (w1.drew.setCells A 0 (alC x))) := below_puts (below_d k1) (Nat.le_of_eq hA) 0 _
  have HT : Hid (AlB (w1.drew.setCells A 0 (alC x)) A x) := b1.drew.put x
  have HD : Hid (decide (0 < (m : Int)) = decide (0 < m)) := by show _ = _; by_cases e : 0 < m <;> simp [e]
  clear h hx hm hw1 hA k1 b1 h1
  go_enter Try.func40, Try.ntmps40
  go_upto_region 1 with fail
  rw [HW.out, HA.out]
  go_region
  go_wp2
  refine bodyPost_ret (al_res2 Try.results40 (x := x) (b := .bool (decide (0 < m))) rfl (by first | exact congrArg Value.bool HD.out | rfl) HT.out) rfl ?_
  exact ⟨rfl, HF.out⟩
end Go.Proofs.Ytmdhlaccioaomaa
