/- (*simfs.Disk).file, told. -/
import Derived.Test.YtpikepifhnkmkaaG10
import Derived.BigRegion
namespace Go.Proofs.Ytpikepifhnkmkaa
open Go.RowKit Go.Maps Sf
attribute [local go_sem ↓] Go.wp_at_zero Go.wp_at_succ

def fileV (d : Dk) (L : Lay) (s : ByteArray) : Value := if err d s = 0 then .pointer (some ⟨L.ai (num d s), 0, none⟩) else .pointer none
section
variable {P : Nat → Prop} {w : World} {B : Nat} {d : Dk} {L : Lay}
theorem DkAt.look (h : DkAt P w B d L) {s : ByteArray} (hs : s.size ≤ maxLen) : (Instr.lookup 60 (.map (some L.mn)) (.string s) false).run Try.prog w = .ok ((L.lab d s).getD (.pointer none)) w :=
  h.nm.get lawS (mt := 60) (e := 83) (by kernel_rfl) (by kernel_rfl) (k := s) hs (keyS s hs)
theorem DkAt.looki (h : DkAt P w B d L) {z : Int} (hz : goodI z) : (Instr.lookup 59 (.map (some L.mi)) (.int .i64 z) false).run Try.prog w = .ok ((L.ino d z).getD (.pointer none)) w :=
  h.im.get lawI (mt := 59) (e := 76) (by kernel_rfl) (by kernel_rfl) (k := z) hz (keyI z hz)
end
theorem drew_below (w : World) (q : Nat) : Below w.heap.size w (w.drewN q) := ⟨rfl, rfl, rfl, Nat.le_refl _, fun _ _ => rfl⟩
set_option maxRecDepth 8000 in
set_option maxHeartbeats 800000 in
theorem file_any {P : Nat → Prop} {w : World} {B : Nat} {d : Dk} {L : Lay} (h : DkAt P w B d L) (s : ByteArray) (hs : s.size ≤ maxLen) (hf : num d s ≠ 0 → ∃ f, d.ino (num d s) = some f) (hb : num d s < 4611686018427387904) :
    Calls Try.prog 24 #[.pointer (some ⟨B, 0, none⟩), .string s] w fun e w' => e = .returned (.tuple #[fileV d L s, .int .i64 (err d s : Nat)]) ∧ Below w.heap.size w w' := by
  have HM : Hid (Calls Try.prog 25 #[.string s] w _) := mayBe_any s w hs
  obtain ⟨c0, c1, c2⟩ := h.cells
  have hlook := h.look hs
  have HD : Hid (DkAt P w B d L) := h
  cases hm : may s with
  | false =>
    have e1 : err d s = 140 := by unfold err; rw [hm]; rfl
    have HE : Hid (fileV d L s = .pointer none ∧ err d s = 140) := ⟨by unfold fileV; rw [e1]; rfl, e1⟩
    rw [hm] at HM
    clear h hf hm e1 hlook
    go_enter Try.func24, Try.ntmps24
    go_wp2_with fail
    refine HM.out.mono ?_
    rintro e w2 ⟨rfl, rfl⟩
    go_wp2
    go_ret2
    exact ⟨by rw [HE.out.1, HE.out.2]; rfl, Below.refl _ _⟩
  | true =>
    rw [hm] at HM
    have hp1 : ∀ (p : Option Addr) (u : World), (binOp .eql 83 (.pointer p) (.pointer none)).run Try.prog u = .ok (.bool p.isNone) u := fun p u => run_eql_pointer_nil u _ p (by kernel_rfl)
    cases hl : d.lab s with
    | none =>
      have n0 : num d s = 0 := by unfold num; rw [hl]
      have e1 : err d s = 141 := by unfold err; rw [hm, n0]; rfl
      have HE : Hid (fileV d L s = .pointer none ∧ err d s = 141) := ⟨by unfold fileV; rw [e1]; rfl, e1⟩
      have e2 : (L.lab d s).getD (.pointer none) = .pointer none := by unfold Lay.lab; rw [hl]; rfl
      rw [e2] at hlook
      clear h hf hm e1 e2 hl n0
      go_enter Try.func24, Try.ntmps24
      go_wp2_with fail
      refine HM.out.mono ?_
      rintro e w2 ⟨rfl, rfl⟩
      go_wp2
      go_ret2
      exact ⟨by rw [HE.out.1, HE.out.2]; rfl, Below.refl _ _⟩
    | some q =>
      have n0 : num d s = q.2 := by unfold num; rw [hl]
      have e2 : (L.lab d s).getD (.pointer none) = .pointer (some ⟨L.an s, 0, none⟩) := by unfold Lay.lab; rw [hl]; rfl
      rw [e2] at hlook
      obtain ⟨l0, l1⟩ := (h.lb s q hl).cells
      obtain ⟨m, hmm⟩ : ∃ m, q.2 = m := ⟨_, rfl⟩
      rw [hmm] at l1 n0
      rw [n0] at hf hb
      by_cases hz : m = 0
      · subst hz
        have e1 : err d s = 141 := by unfold err; rw [hm, n0]; rfl
        have HE : Hid (fileV d L s = .pointer none ∧ err d s = 141) := ⟨by unfold fileV; rw [e1]; rfl, e1⟩
        clear h hf hm e1 e2 hl n0 hmm
        go_enter Try.func24, Try.ntmps24
        go_wp2_with fail
        refine HM.out.mono ?_
        rintro e w2 ⟨rfl, rfl⟩
        go_wp2
        go_ret2
        exact ⟨by rw [HE.out.1, HE.out.2]; rfl, Below.refl _ _⟩
      · have e1 : err d s = 0 := by unfold err; rw [hm, n0]; simp [hz]
        have HE : Hid (fileV d L s = .pointer (some ⟨L.ai m, 0, none⟩) ∧ err d s = 0) := ⟨by unfold fileV; rw [e1, n0]; rfl, e1⟩
        have hne : ((m : Int) == 0) = false := by simp; omega
        obtain ⟨f, hff⟩ := hf hz
        have hlooki := fun q => (h.later (drew_below w q)).looki (z := (m : Nat)) (by unfold goodI; omega)
        have e3 : (L.ino d ((m : Nat) : Int)).getD (.pointer none) = .pointer (some ⟨L.ai m, 0, none⟩) := by unfold Lay.ino; rw [if_pos (by omega), Int.toNat_natCast, hff]; rfl
        simp only [e3] at hlooki
        clear h hf hm e1 e2 e3 hl n0 hmm hff
        go_enter Try.func24, Try.ntmps24
        go_wp2_with fail
        refine HM.out.mono ?_
        rintro e w2 ⟨rfl, rfl⟩
        go_wp2_with fail
        go_quiet (fail)
        have HK : Hid (Below w2.heap.size w2 (w2.drewN nq)) := drew_below w2 nq
        go_wp2
        go_ret2
        exact ⟨by rw [HE.out.1, HE.out.2]; rfl, HK.out⟩
/-- what is told of an inode -/
def statV (n q g z : Nat) : Value := .agg #[.int .i64 (n : Nat), .int .i64 (q : Nat), .int .i64 (g : Nat), .int .i64 (z : Nat)]
def StatB (u : World) (z : Nat) (a b c e : Value) : Prop := u.heap[z]? = some (.cells #[a, b, c, e] 64 (0, 0))
theorem told_res {tmps : Array Value} {u : World} {z : Nat} {a b c e : Value} (h4 : tmps[4]?.getD undef = .pointer (some ⟨z, 0, none⟩)) (h : StatB u z a b c e) : (results Try.f36 tmps).run Try.prog u = .ok (.agg #[a, b, c, e]) u := by
  have c0 : u.cell? ⟨z, 0, none⟩ = some a := by simp [World.cell?, show u.heap[z]? = _ from h]
  have c1 : u.cell? ⟨z, 1, none⟩ = some b := by simp [World.cell?, show u.heap[z]? = _ from h]
  have c2 : u.cell? ⟨z, 2, none⟩ = some c := by simp [World.cell?, show u.heap[z]? = _ from h]
  have c3 : u.cell? ⟨z, 3, none⟩ = some e := by simp [World.cell?, show u.heap[z]? = _ from h]
  simp [results, Try.results36, go_sem, h4, c0, c1, c2, c3]
theorem below_set {B : Nat} {w u : World} (h : Below B w u) {z : Nat} (hz : B ≤ z) (j : Nat) (x : Value) : Below B w (u.setCell ⟨z, j, none⟩ x) :=
  ⟨h.os, h.tape, h.output, by have := h.size; simpa using this, fun k hk => (Below.heap_setCell u ⟨z, j, none⟩ x k (fun e => by have e : k = z := e; omega)).trans (h.block k hk)⟩
theorem stat_set {w w1 : World} {z : Nat} {x y v t : Value} (hst : w1.heap[z]? = some (.cells #[x, y, v, t] 64 (0, 0))) (k1 : Below w.heap.size w w1) (hz : w.heap.size ≤ z) (a b c e : Value) :
    StatB ((((w1.setCell ⟨z, 0, none⟩ a).setCell ⟨z, 1, none⟩ b).setCell ⟨z, 2, none⟩ c).setCell ⟨z, 3, none⟩ e).drew z a b c e ∧ Below w.heap.size w ((((w1.setCell ⟨z, 0, none⟩ a).setCell ⟨z, 1, none⟩ b).setCell ⟨z, 2, none⟩ c).setCell ⟨z, 3, none⟩ e).drew := by
  refine ⟨?_, ?_⟩
  · show ((((w1.setCell ⟨z, 0, none⟩ a).setCell ⟨z, 1, none⟩ b).setCell ⟨z, 2, none⟩ c).setCell ⟨z, 3, none⟩ e).heap[z]? = _
    rw [heap_set (heap_set (heap_set (heap_set hst 0 a) 1 b) 2 c) 3 e]
    simp
  · have := below_set (below_set (below_set (below_set k1 hz 0 a) hz 1 b) hz 2 c) hz 3 e
    exact ⟨this.os, this.tape, this.output, this.size, this.block⟩
set_option maxRecDepth 8000 in
set_option maxHeartbeats 800000 in
theorem told_any {P : Nat → Prop} {w : World} {B : Nat} {d : Dk} {L : Lay} (h : DkAt P w B d L) {n : Nat} {f : Ino} (hf : d.ino n = some f) {q : Nat × Nat} (hq : d.lab f.nm = some q) (hs : f.nm.size ≤ maxLen) :
    Calls Try.prog 36 #[.pointer (some ⟨B, 0, none⟩), .pointer (some ⟨L.ai n, 0, none⟩)] w fun e w' => e = .returned (statV n q.1 f.gen f.bs.length) ∧ Below w.heap.size w w' := by
  have hi := h.ib n f hf
  obtain ⟨va, vc, ev, hv1, hv2⟩ := hi.v.form
  obtain ⟨w1, hw1⟩ : ∃ w1, w.alloc (.cells #[.int .i64 0, .int .i64 0, .int .i64 0, .int .i64 0] 64) = w1 := ⟨_, rfl⟩
  have k1 : Below w.heap.size w w1 := by rw [← hw1]; exact (Below.refl _ _).alloc (Nat.le_refl _) _
  have HW1 : Hid (w.alloc (.cells #[.int .i64 0, .int .i64 0, .int .i64 0, .int .i64 0] 64) = w1) := hw1
  have h1 := h.later k1
  have hi1 := h1.ib n f hf
  obtain ⟨c0, c1, c2⟩ := h1.cells
  obtain ⟨i0, i1, i2, i3, i4⟩ := hi1.cells
  obtain ⟨l0, l1⟩ := (h1.lb f.nm q hq).cells
  have hlook0 := h1.look hs
  have e2 : (L.lab d f.nm).getD (.pointer none) = .pointer (some ⟨L.an f.nm, 0, none⟩) := by unfold Lay.lab; rw [hq]; rfl
  rw [e2] at hlook0
  have hlook : ∀ q, (Instr.lookup 60 (.map (some L.mn)) (.string f.nm) false).run Try.prog (w1.drewN q) = .ok (.pointer (some ⟨L.an f.nm, 0, none⟩)) (w1.drewN q) := fun q => by
    have := (h1.later (drew_below w1 q)).look hs
    rw [e2] at this
    exact this
  have hlook1 : (Instr.lookup 60 (.map (some L.mn)) (.string f.nm) false).run Try.prog w1.drew = .ok (.pointer (some ⟨L.an f.nm, 0, none⟩)) w1.drew := hlook 1
  have hst : w1.heap[w.heap.size]? = some (.cells #[.int .i64 0, .int .i64 0, .int .i64 0, .int .i64 0] 64 (0, 0)) := by rw [← hw1]; exact heap_alloc_new w _
  obtain ⟨z, hz⟩ : ∃ z, w.heap.size = z := ⟨_, rfl⟩
  have HZ : Hid (w.heap.size = z) := hz
  rw [hz] at hst
  have s0 : w1.cell? ⟨z, 0, none⟩ = some (.int .i64 0) := by simp [World.cell?, hst]
  have s1 : w1.cell? ⟨z, 1, none⟩ = some (.int .i64 0) := by simp [World.cell?, hst]
  have s2 : w1.cell? ⟨z, 2, none⟩ = some (.int .i64 0) := by simp [World.cell?, hst]
  have s3 : w1.cell? ⟨z, 3, none⟩ = some (.int .i64 0) := by simp [World.cell?, hst]
  have t0 : ∀ j, w1.frozen? ⟨z, j, none⟩ = false := fun j => by simp [World.frozen?, hst]
  have HST : Hid (∀ a b c e : Value, StatB ((((w1.setCell ⟨z, 0, none⟩ a).setCell ⟨z, 1, none⟩ b).setCell ⟨z, 2, none⟩ c).setCell ⟨z, 3, none⟩ e).drew z a b c e ∧ Below w.heap.size w ((((w1.setCell ⟨z, 0, none⟩ a).setCell ⟨z, 1, none⟩ b).setCell ⟨z, 2, none⟩ c).setCell ⟨z, 3, none⟩ e).drew) := fun a b c e => stat_set hst k1 (by omega) a b c e
  obtain ⟨lf, hlf⟩ : ∃ lf, f.bs.length = lf := ⟨_, rfl⟩
  rw [ev] at i3
  rw [hlf] at i3 hv1 ⊢
  clear h hf hq hi ev h1 hi1 hw1 hz hlf e2 hst hlook0
  go_enter Try.func36, Try.ntmps36
  go_upto_region 1 with fail
  rw [HW1.out, HZ.out]
  clear HW1
  go_region
  have HE := HST.out (.int .i64 (n : Nat)) (.int .i64 (q.1 : Nat)) (.int .i64 (f.gen : Nat)) (.int .i64 (lf : Nat))
  clear HST
  go_wp2
  refine bodyPost_ret (told_res rfl HE.1) rfl ?_
  exact ⟨rfl, HE.2⟩
end Go.Proofs.Ytpikepifhnkmkaa
