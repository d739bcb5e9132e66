/- Alerts in memory, a row of them, a ring of them. -/
import Derived.Test.YtmdhlaccioaomaaG05
import Derived.Test.YtmdhlaccioaomaaG06
import Derived.BigRegion
import Derived.Deep.RegionWith
import Derived.Deep.MidRow
import Derived.Laws.StructEq
namespace Go.Proofs.Ytmdhlaccioaomaa
open Go.RowKit Go.Maps Rg

structure Al where
  p : Int
  s : Int
  n : Int
  g : Int
  o : Int
  ms : Int
  gn : Int
  ct : Int
  tl : Int
  lg : Int
  t : ByteArray
  r : Int
def alZ : Al := ⟨0, 0, 0, 0, 0, 0, 0, 0, 0, 0, ⟨#[]⟩, 0⟩
def alC (x : Al) : List Value := [.int .i64 x.p, .int .i64 x.s, .int .i64 x.n, .int .i64 x.g, .int .i64 x.o, .int .i64 x.ms, .int .i64 x.gn, .int .i64 x.ct, .int .i64 x.tl, .int .i64 x.lg, .string x.t, .int .u32 x.r]
def alV (x : Al) : Value := .agg (alC x).toArray
theorem alC_len (x : Al) : (alC x).length = 12 := rfl
theorem alC_one (x : Al) : ∀ v ∈ alC x, v.oneCell' = true := by intro v hv; simp [alC] at hv; rcases hv with h | h | h | h | h | h | h | h | h | h | h | h <;> subst h <;> rfl
theorem alV_cells (x : Al) : (alV x).cells = (alC x).toArray := rfl
theorem al_isrow : Try.prog.underlying 41 = some (.struct (Try.prog.underlying 41 |>.elim #[] fun | .struct f => f | _ => #[])) := by kernel_rfl
theorem al_size : (Try.prog.info? 41).map (·.size) = some 12 := by kernel_rfl
section
variable {w u v : World} {A b o : Nat} {x y : Al}
theorem load_al (h : w.rangeAt b o (alC x)) : (Instr.loadAt 41 (.pointer (some ⟨b, o, none⟩))).run Try.prog w = .ok (alV x) w :=
  run_loadAt_mid w b o 41 (alC x) _ h al_isrow rfl al_size
theorem loadv_al (h : w.rangeAt b o (alC x)) : (loadVar 41 ⟨b, o, none⟩).run Try.prog w = .ok (alV x) w :=
  run_loadVar_mid w b o 41 (alC x) _ h al_isrow rfl al_size
theorem store_al (h : w.there b o 12) (x : Al) : (Instr.storeAt 41 (.pointer (some ⟨b, o, none⟩)) (alV x)).run Try.prog w = .ok () (w.setCells b o (alC x)) := by
  have := run_storeAt_mid (P := Try.prog) w b o 41 (alC x).toArray (by simpa [alC_len] using h) (by simpa [alC_len] using al_size) (all_oneCell_toArray (alC_one x))
  exact this
/-- the same load and store, as the walks meet them -/
def loadAl (p : Value) : Sem Value := Instr.loadAt 41 p
theorem loadAl_eq (p : Value) : Instr.loadAt 41 p = loadAl p := rfl
theorem run_loadAl (h : w.rangeAt b o (alC x)) : (loadAl (.pointer (some ⟨b, o, none⟩))).run Try.prog w = .ok (alV x) w := load_al h
def storeAl (p v : Value) : Sem Unit := Instr.storeAt 41 p v
theorem storeAl_eq (p v : Value) : Instr.storeAt 41 p v = storeAl p v := rfl
theorem run_storeAl (h : w.there b o 12) (x : Al) : (storeAl (.pointer (some ⟨b, o, none⟩)) (alV x)).run Try.prog w = .ok () (w.setCells b o (alC x)) := store_al h x
/-- a cell of one -/
theorem al_cell (h : w.rangeAt b o (alC x)) {j : Nat} {v : Value} (hv : (alC x)[j]? = some v) : w.cell? ⟨b, o + j, none⟩ = some v := h j v hv
theorem range_same {cs : List Value} (h : w.rangeAt b o cs) (e : u.heap[b]? = w.heap[b]?) : u.rangeAt b o cs := fun j v hv => (World.cell?_of_block (a := ⟨b, o + j, none⟩) e).trans (h j v hv)
theorem there_same {n : Nat} (h : w.there b o n) (e : u.heap[b]? = w.heap[b]?) : u.there b o n := fun j hj => by
  obtain ⟨h1, h2⟩ := h j hj
  exact ⟨by rw [World.cell?_of_block (a := ⟨b, o + j, none⟩) e]; exact h1, by unfold World.frozen? at h2 ⊢; rw [e]; exact h2⟩
theorem heap_setCells' (g : Nat) : ∀ (vs : List Value) (o : Nat) {w : World} {cur : Array Value} {t : TypeId} {z : Nat × Nat}, w.heap[g]? = some (.cells cur t z) → ∃ cur', (w.setCells g o vs).heap[g]? = some (.cells cur' t z) ∧ cur'.size = cur.size
  | [], _, _, _, _, _, h => ⟨_, h, rfl⟩
  | v :: r, o, w, cur, t, z, h => by
    obtain ⟨c, h1, h2⟩ := heap_setCells' g r (o + 1) (heap_set h o v)
    exact ⟨c, h1, by simpa using h2⟩
theorem other_setCells (g : Nat) : ∀ (vs : List Value) (o : Nat) (w : World) (k : Nat), k ≠ g → (w.setCells g o vs).heap[k]? = w.heap[k]?
  | [], _, _, _, _ => rfl
  | v :: r, o, w, k, h => (other_setCells g r (o + 1) _ k h).trans (Below.heap_setCell w ⟨g, o, none⟩ v k h)
theorem cell_sc {g k j : Nat} {v : Value} (h : k ≠ g) (vs : List Value) (o : Nat) {w : World} (hc : w.cell? ⟨k, j, none⟩ = some v) : (w.setCells g o vs).cell? ⟨k, j, none⟩ = some v := (World.cell?_of_block (a := ⟨k, j, none⟩) (other_setCells g vs o w k h)).trans hc
theorem rest_setCells (g : Nat) : ∀ (vs : List Value) (o : Nat) (w : World), (w.setCells g o vs).os = w.os ∧ (w.setCells g o vs).tape = w.tape ∧ (w.setCells g o vs).output = w.output ∧ (w.setCells g o vs).heap.size = w.heap.size
  | [], _, _ => ⟨rfl, rfl, rfl, rfl⟩
  | v :: r, o, w => by
    obtain ⟨h1, h2, h3, h4⟩ := rest_setCells g r (o + 1) (w.setCell ⟨g, o, none⟩ v)
    exact ⟨h1, h2, h3, by rw [World.setCells, h4]; simp [World.setCell]⟩
theorem drew_setCells (g : Nat) : ∀ (vs : List Value) (o : Nat) (w : World), w.drew.setCells g o vs = (w.setCells g o vs).drew
  | [], _, _ => rfl
  | v :: r, o, w => drew_setCells g r (o + 1) (w.setCell ⟨g, o, none⟩ v)
end
theorem setCells_whole {w : World} {A : Nat} {old new : List Value} {t : TypeId} (h : w.heap[A]? = some (.cells old.toArray t (0, 0))) (hl : new.length = old.length) : (w.setCells A 0 new).heap[A]? = some (.cells new.toArray t (0, 0)) := by
  obtain ⟨c, h1, h2⟩ := heap_setCells' A new 0 h
  have hin := World.rangeAt_setCells_same w A 0 new (fun j hj => ⟨by simp [World.cell?, h]; omega, by simp [World.frozen?, h]⟩)
  rw [h1]
  congr 2
  apply Array.ext
  · rw [h2]; simp [hl]
  · intro i hi1 hi2
    have hi3 : i < new.length := by simpa using hi2
    have hc := hin i (new[i]) (List.getElem?_eq_getElem hi3)
    simp only [World.cell?, h1, Nat.zero_add] at hc
    have e2 := (Array.getElem?_eq_some_iff.1 (show c[i]? = some new[i] from by simpa using hc)).2
    rw [e2]
    simp
/-- A BOX of an alert -/
def AlB (w : World) (A : Nat) (x : Al) : Prop := w.heap[A]? = some (.cells (alC x).toArray 41 (0, 0))
section
variable {w u v : World} {A : Nat} {x y : Al}
theorem AlB.lt (h : AlB w A x) : A < w.heap.size := (Array.getElem?_eq_some_iff.1 h).1
theorem AlB.same (h : AlB w A x) (e : u.heap[A]? = w.heap[A]?) : AlB u A x := e.trans h
theorem AlB.later (h : AlB w A x) (hb : Below w.heap.size w u) : AlB u A x := h.same (hb.block A h.lt)
theorem AlB.drew (h : AlB w A x) : AlB w.drew A x := h
theorem AlB.range (h : AlB w A x) : w.rangeAt A 0 (alC x) := fun j v hv => by
  simp only [World.cell?, show w.heap[A]? = _ from h, Nat.zero_add]
  simpa using hv
theorem AlB.there (h : AlB w A x) : w.there A 0 12 := by
  have hr := h.range
  obtain ⟨c, hc⟩ : ∃ c, (alC x).toArray = c := ⟨_, rfl⟩
  have h : w.heap[A]? = some (.cells (alC x).toArray 41 (0, 0)) := h
  rw [hc] at h
  intro j hj
  have hv : (alC x)[j]? = some ((alC x)[j]'(by rw [alC_len]; exact hj)) := List.getElem?_eq_getElem _
  have hr := hr j _ hv
  refine ⟨by rw [hr]; rfl, ?_⟩
  simp [World.frozen?, h]
theorem AlB.ty (h : AlB w A x) : TyB w 41 A := ⟨_, _, h⟩
theorem alB_new (w : World) (x : Al) : AlB (w.alloc (.cells (alC x).toArray 41)) w.heap.size x := heap_alloc_new w _
theorem AlB.put (h : AlB w A x) (y : Al) : AlB (w.setCells A 0 (alC y)) A y := setCells_whole h ((alC_len y).trans (alC_len x).symm)
theorem AlB.load (h : AlB w A x) : (loadAl (.pointer (some ⟨A, 0, none⟩))).run Try.prog w = .ok (alV x) w := load_al h.range
theorem AlB.loadv (h : AlB w A x) : (loadVar 41 ⟨A, 0, none⟩).run Try.prog w = .ok (alV x) w := loadv_al h.range
theorem AlB.store (h : AlB w A x) (y : Al) : (storeAl (.pointer (some ⟨A, 0, none⟩)) (alV y)).run Try.prog w = .ok () (w.setCells A 0 (alC y)) := store_al h.there y
end
/-- A ROW of alerts -/
def ARow (w : World) (R n : Nat) (F : Nat → Al) : Prop := ∃ cur, w.heap[R]? = some (.cells cur 41 (0, 0)) ∧ cur.size = n * 12 ∧ ∀ p, p < n → ∀ j v, (alC (F p))[j]? = some v → cur[p * 12 + j]? = some v
section
variable {w u v : World} {R n : Nat} {F : Nat → Al}
theorem ARow.range (h : ARow w R n F) {p : Nat} (hp : p < n) : w.rangeAt R (p * 12) (alC (F p)) := fun j v hv => by
  obtain ⟨cur, h1, h2, h3⟩ := h
  simp only [World.cell?, h1]
  simpa using h3 p hp j v hv
theorem ARow.there (h : ARow w R n F) {p : Nat} (hp : p < n) : w.there R (p * 12) 12 := fun j hj => by
  obtain ⟨cur, h1, h2, h3⟩ := h
  exact ⟨by simp [World.cell?, h1, h2]; omega, by simp [World.frozen?, h1]⟩
theorem ARow.load (h : ARow w R n F) {p : Nat} (hp : p < n) : (loadAl (.pointer (some ⟨R, p * 12, none⟩))).run Try.prog w = .ok (alV (F p)) w := load_al (h.range hp)
theorem ARow.store (h : ARow w R n F) {p : Nat} (hp : p < n) (x : Al) : (storeAl (.pointer (some ⟨R, p * 12, none⟩)) (alV x)).run Try.prog w = .ok () (w.setCells R (p * 12) (alC x)) := store_al (h.there hp) x
theorem ARow.ty (h : ARow w R n F) : TyB w 41 R := by obtain ⟨cur, h1, _⟩ := h; exact ⟨_, _, h1⟩
theorem ARow.lt (h : ARow w R n F) : R < w.heap.size := by obtain ⟨cur, h1, _⟩ := h; exact (Array.getElem?_eq_some_iff.1 h1).1
theorem ARow.same (h : ARow w R n F) (e : u.heap[R]? = w.heap[R]?) : ARow u R n F := by obtain ⟨cur, h1, h2⟩ := h; exact ⟨cur, e.trans h1, h2⟩
theorem ARow.later (h : ARow w R n F) (hb : Below w.heap.size w u) : ARow u R n F := h.same (hb.block R h.lt)
theorem ARow.drew (h : ARow w R n F) : ARow w.drew R n F := h
theorem ARow.congr {F' : Nat → Al} (h : ARow w R n F) (e : ∀ p, p < n → F p = F' p) : ARow w R n F' := by
  obtain ⟨cur, h1, h2, h3⟩ := h
  exact ⟨cur, h1, h2, fun p hp => by rw [← e p hp]; exact h3 p hp⟩
theorem ARow.put (h : ARow w R n F) {q : Nat} (hq : q < n) (x : Al) : ARow (w.setCells R (q * 12) (alC x)) R n (fun p => if p = q then x else F p) := by
  have h0 := h
  obtain ⟨cur, h1, h2, h3⟩ := h
  obtain ⟨c, k1, k2⟩ := heap_setCells' R (alC x) (q * 12) h1
  refine ⟨c, k1, k2.trans h2, fun p hp j v hv => ?_⟩
  have hc : (w.setCells R (q * 12) (alC x)).cell? ⟨R, p * 12 + j, none⟩ = some v := by
    have hv2 : (alC (if p = q then x else F p))[j]? = some v := hv
    clear hv
    by_cases e : p = q
    · rw [if_pos e] at hv2
      subst e
      exact World.rangeAt_setCells_same w R (p * 12) (alC x) (h0.there hq) j v hv2
    · rw [if_neg e] at hv2
      exact World.rangeAt_setCells_apart (h0.range hp) R (q * 12) (alC x) (.inr (by rw [alC_len, alC_len]; omega)) j v hv2
  simp only [World.cell?, k1] at hc
  simpa using hc
end
def RBox (w : World) (B R n f c : Nat) : Prop := w.heap[B]? = some (.cells #[.slice (some ⟨R, 0, none⟩) n n, .int .i64 (f : Nat), .int .i64 (c : Nat)] 83 (0, 0))
section
variable {w u v : World} {B R n f c : Nat}
theorem RBox.cells (h : RBox w B R n f c) : w.cell? ⟨B, 0, none⟩ = some (.slice (some ⟨R, 0, none⟩) n n) ∧ w.cell? ⟨B, 1, none⟩ = some (.int .i64 (f : Nat)) ∧ w.cell? ⟨B, 2, none⟩ = some (.int .i64 (c : Nat)) := by
  simp [World.cell?, show w.heap[B]? = _ from h]
theorem RBox.frozen (h : RBox w B R n f c) (j : Nat) : w.frozen? ⟨B, j, none⟩ = false := by simp [World.frozen?, show w.heap[B]? = _ from h]
theorem RBox.ty (h : RBox w B R n f c) : TyB w 83 B := ⟨_, _, h⟩
theorem RBox.lt (h : RBox w B R n f c) : B < w.heap.size := (Array.getElem?_eq_some_iff.1 h).1
theorem RBox.same (h : RBox w B R n f c) (e : u.heap[B]? = w.heap[B]?) : RBox u B R n f c := e.trans h
theorem RBox.put1 (h : RBox w B R n f c) (f' : Nat) : RBox (w.setCell ⟨B, 1, none⟩ (.int .i64 (f' : Nat))) B R n f' c := by unfold RBox; rw [heap_set h]; simp
theorem RBox.put2 (h : RBox w B R n f c) (c' : Nat) : RBox (w.setCell ⟨B, 2, none⟩ (.int .i64 (c' : Nat))) B R n f c' := by unfold RBox; rw [heap_set h]; simp
end
/-- A RING IN MEMORY -/
structure AgAt (w : World) (B R n f : Nat) (l : List Al) : Prop where
  b : RBox w B R n f l.length
  r : ARow w R n (rd alZ n f l)
  f : f < n
  l : l.length ≤ n
  n : n ≤ 64
section
variable {w u v : World} {B R n f : Nat} {l : List Al}
theorem AgAt.ne (h : AgAt w B R n f l) : R ≠ B := fun e => by
  have := h.r.ty
  rw [e] at this
  exact absurd (TyB.ne this h.b.ty) (by decide)
theorem AgAt.same (h : AgAt w B R n f l) (e : u.heap[B]? = w.heap[B]?) (e2 : u.heap[R]? = w.heap[R]?) : AgAt u B R n f l := ⟨h.b.same e, h.r.same e2, h.f, h.l, h.n⟩
theorem AgAt.later (h : AgAt w B R n f l) (hb : Below w.heap.size w u) : AgAt u B R n f l := h.same (hb.block B h.b.lt) (hb.block R h.r.lt)
theorem AgAt.drew (h : AgAt w B R n f l) : AgAt w.drew B R n f l := ⟨h.b, h.r.drew, h.f, h.l, h.n⟩
/-- one is put -/
theorem AgAt.push (h : AgAt w B R n f l) (x : Al) (hl : l.length < n) : AgAt ((w.setCells R ((f + l.length) % n * 12) (alC x)).setCell ⟨B, 2, none⟩ (.int .i64 ((l.length + 1 : Nat) : Nat))) B R n f (l ++ [x]) := by
  have hne := h.ne
  have h1 : RBox (w.setCells R ((f + l.length) % n * 12) (alC x)) B R n f l.length := h.b.same (other_setCells R _ _ w B (fun e => hne e.symm))
  have h2 := (h.r.put (place_lt h.f) x).same (u := (w.setCells R ((f + l.length) % n * 12) (alC x)).setCell ⟨B, 2, none⟩ (.int .i64 ((l.length + 1 : Nat) : Nat))) (Below.heap_setCell _ ⟨B, 2, none⟩ _ R hne)
  refine ⟨by rw [List.length_append]; exact h1.put2 _, h2.congr fun p hp => (rd_push h.f hl x hp).symm, h.f, by simp; omega, h.n⟩
/-- the first is taken -/
theorem AgAt.pop {x : Al} {t : List Al} (h : AgAt w B R n f (x :: t)) : AgAt (((w.setCells R (f * 12) (alC alZ)).setCell ⟨B, 1, none⟩ (.int .i64 (((f + 1) % n : Nat) : Nat))).setCell ⟨B, 2, none⟩ (.int .i64 (t.length : Nat))) B R n ((f + 1) % n) t := by
  have hne := h.ne
  have h1 : RBox (w.setCells R (f * 12) (alC alZ)) B R n f (x :: t).length := h.b.same (other_setCells R _ _ w B (fun e => hne e.symm))
  have h2 := ((h.r.put h.f alZ).same (u := (w.setCells R (f * 12) (alC alZ)).setCell ⟨B, 1, none⟩ (.int .i64 (((f + 1) % n : Nat) : Nat))) (Below.heap_setCell _ ⟨B, 1, none⟩ _ R hne)).same (u := ((w.setCells R (f * 12) (alC alZ)).setCell ⟨B, 1, none⟩ (.int .i64 (((f + 1) % n : Nat) : Nat))).setCell ⟨B, 2, none⟩ (.int .i64 (t.length : Nat))) (Below.heap_setCell _ ⟨B, 2, none⟩ _ R hne)
  have hl := h.l
  simp only [List.length_cons] at hl
  refine ⟨(h1.put1 _).put2 _, h2.congr fun p hp => (rd_pop h.f (by omega) hp).symm, place_lt h.f, by omega, h.n⟩
end
/-- WHAT A CALL LEAVES -/
def ATo (B R n f : Nat) (l : List Al) (w w' : World) : Prop := AgAt w' B R n f l ∧ FrP (fun k => k = B ∨ k = R) w w'
theorem eq_same (x : Al) (u : World) : (Op.equal 41 (alV x) (alV x)).run Try.prog u = .ok true u := by
  show (Op.equalIn 10000 41 _ _).run Try.prog u = _
  unfold alV
  rw [show (10000 : Nat) = 9999 + 1 from rfl, run_equalIn_struct u 9999 41 _ _ (by kernel_rfl) (by kernel_rfl)]
  simp [go_sem, alC]
end Go.Proofs.Ytmdhlaccioaomaa
