/- What SimfsHistory's walk wants: the ops as they lie, rows of files, a stat as it is told. -/
import Derived.Test.YtjlfhaehdllmcaaG34
import Derived.Test.YtjlfhaehdllmcaaG39
namespace Go.Proofs.Ytjlfhaehdllmcaa
open Go.RowKit Go.Maps Sf

structure OpGood (w : World) (o : Opr) : Prop where
  ok : o.Ok
  kv : LAt w o.kv (ints o.keep)
  kl : o.keep.length ≤ 17592186043904
/-- the ops of an argument -/
structure OpsAt (w : World) (a : Option Addr) (ops : List Opr) : Prop where
  cells : ops = [] ∨ ∃ b off, a = some ⟨b, off, none⟩ ∧ ∀ i o, ops[i]? = some o → ∀ k v, o.cells[k]? = some v → w.cell? ⟨b, off + i * 11 + k, none⟩ = some v
  good : ∀ o ∈ ops, OpGood w o
  len : ops.length ≤ 17592186043904
theorem flat_get : ∀ (fs : List Fl) (n : Nat) (f : Fl), fs[n]? = some f → ∀ k v, f.cells[k]? = some v → (flatF fs)[n * 5 + k]? = some v
  | [], n, f, h, _, _, _ => by simp at h
  | x :: r, 0, f, h, k, v, hv => by
    have e : x = f := by simpa using h
    subst e
    show (x.cells ++ flatF r)[0 * 5 + k]? = some v
    rw [Nat.zero_mul, Nat.zero_add, List.getElem?_append_left (List.getElem?_eq_some_iff.1 hv).1]
    exact hv
  | x :: r, n + 1, f, h, k, v, hv => by
    have h : r[n]? = some f := by simpa using h
    show (x.cells ++ flatF r)[(n + 1) * 5 + k]? = some v
    have e5 : x.cells.length = 5 := rfl
    rw [List.getElem?_append_right (by omega), e5, show (n + 1) * 5 + k - 5 = n * 5 + k by omega]
    exact flat_get r n f h k v hv
/-- a row of files that is owned: where it lies -/
theorem files_form {u : World} {base m : Nat} {V : Value} {d : Dk} (h : u.ownsRow base 40 5 V (m + 1) (flatF (files d (m + 1)))) : ∃ g c, V = .slice (some ⟨g, 0, none⟩) (m + 1) c ∧ base ≤ g ∧ g < u.heap.size := by
  rcases h.2 with ⟨_, h0⟩ | ⟨g, cap, cur, rfl, hB, hg, _⟩
  · omega
  · exact ⟨g, cap, rfl, hB, (Array.getElem?_eq_some_iff.1 hg).1⟩
theorem files_cells {u : World} {base m g c : Nat} {d : Dk} (h : u.ownsRow base 40 5 (.slice (some ⟨g, 0, none⟩) m c) m (flatF (files d m))) {n : Nat} (hn : n < m) : ∀ k v, (fileOf d (n + 1)).cells[k]? = some v → u.cell? ⟨g, n * 5 + k, none⟩ = some v := by
  intro k v hv
  rcases h.2 with ⟨e, _⟩ | ⟨g', cap, cur, e, hB, hg, h1, h2, h3, h4⟩
  · cases e
  · cases e
    have hf := flat_get (files d m) n _ (files_at hn) k v hv
    rw [← h4] at hf
    have hk : k < 5 := (List.getElem?_eq_some_iff.1 hv).1
    rw [List.getElem?_take_of_lt (by omega)] at hf
    simp only [World.cell?, hg]
    simpa using hf
/-- a stat as it is told -/
theorem stat_form {d : Dk} {K : Nat} (h : Wf d K) (hK : K ≤ 1000000) (s : ByteArray) : ∃ n q g z : Nat, statOf d (if err d s = 0 then num d s else 0) = .agg #[.int .i64 (n : Nat), .int .i64 (q : Nat), .int .i64 (g : Nat), .int .i64 (z : Nat)] ∧ q ≤ 1000000 ∧ n ≤ 1000000 ∧ (err d s = 0 → q = ser d s ∧ n = num d s) := by
  by_cases he : err d s = 0
  · obtain ⟨f, hf, hs⟩ := h.numF (err_zero he).2
    have h1 := h.serLe s
    have h2 := h.numLe s
    have h3 := h.hi
    rw [if_pos he]
    unfold statOf
    rw [hf]
    subst hs
    exact ⟨_, _, _, _, rfl, by omega, by omega, fun _ => ⟨rfl, rfl⟩⟩
  · rw [if_neg he]
    unfold statOf
    cases hd : d.ino 0 with
    | some f => have := h.ino 0 f hd; omega
    | none => exact ⟨0, 0, 0, 0, rfl, by omega, by omega, fun x => absurd x he⟩
/-- the state between the rounds -/
structure HsI (w : World) (P : Nat → Prop) (B : Nat) (d : Dk) (j : Nat) (u : World) : Prop where
  dk : Dsk P u B d j
  hp : ∀ k, P k → w.heap.size ≤ k
  lo : Below w.heap.size w u
theorem lat_off {P : Nat → Prop} {w u : World} {V : Value} {xs : List Value} (h : LAt w V xs) (hl : Below w.heap.size w u) (hp : ∀ k, P k → w.heap.size ≤ k) : LAtX (fun k => ¬ P k) u V xs := by
  refine ⟨h.later hl, fun b off n c e hx hb => ?_⟩
  have := hp b hb
  obtain ⟨a', c', e', _, _, h3⟩ := h
  rw [e] at e'
  cases e'
  rcases h3 with h3 | ⟨b', off', e2, hc⟩
  · exact hx h3
  · cases e2
    cases xs with
    | nil => exact hx rfl
    | cons x r =>
      have hc0 := hc 0 x rfl
      simp only [World.cell?] at hc0
      cases hh : w.heap[b]? with
      | none => rw [hh] at hc0; cases hc0
      | some ob => have := (Array.getElem?_eq_some_iff.1 hh).1; omega
/-- what a round holds on to while the disk is changed, and behind that -/
structure HsM (A : Nat) (o : Opr) (V7 : Value) (d : Dk) (A3 n q g z : Nat) (u : World) : Prop where
  op : OpAt u A o
  was : u.ownsRow A 40 5 V7 (d.hi + 1) (flatF (files d (d.hi + 1)))
  st : StatB u A3 (.int .i64 (n : Nat)) (.int .i64 (q : Nat)) (.int .i64 (g : Nat)) (.int .i64 (z : Nat))
  le : A ≤ A3
theorem HsM.keep {A : Nat} {o : Opr} {V7 : Value} {d : Dk} {A3 n q g z : Nat} {u v : World} (h : HsM A o V7 d A3 n q g z u) (hk : ∀ k, A ≤ k → k < u.heap.size → v.heap[k]? = u.heap[k]?) : HsM A o V7 d A3 n q g z v :=
  ⟨(hk A (Nat.le_refl _) h.op.lt).trans h.op, ownsRow_keep h.was (fun b _ h1 h2 => hk b h1 h2), (hk A3 h.le h.st.lt).trans h.st, h.le⟩
theorem HsM.later {A : Nat} {o : Opr} {V7 : Value} {d : Dk} {A3 n q g z : Nat} {u v : World} (h : HsM A o V7 d A3 n q g z u) (hb : Below u.heap.size u v) : HsM A o V7 d A3 n q g z v := h.keep (fun k _ hk => hb.block k hk)
theorem HsM.does {A : Nat} {o : Opr} {V7 : Value} {d : Dk} {A3 n q g z : Nat} {u v : World} {P : Nat → Prop} (h : HsM A o V7 d A3 n q g z u) (hf : FrP P u v) (hp : ∀ k, P k → k < A) : HsM A o V7 d A3 n q g z v := h.keep (fun k h1 h2 => hf.block k h2 (fun x => by have := hp k x; omega))
theorem HsI.next {w u v : World} {P : Nat → Prop} {B j : Nat} {d d' : Dk} (h : HsI w P B d j u) {u' : World} (hb : Below u.heap.size u u') (hd : DkTo P u' B d' (j + 1) v) (hw : Wf d' (j + 1)) (hj : j < 1000000) : HsI w (More P u' v) B d' (j + 1) v := by
  have h2 := lo_step (below_two h.lo hb) hd.2 h.hp
  exact ⟨hd.dsk hw hj, h2.2, h2.1⟩
theorem HsI.later {w u v : World} {P : Nat → Prop} {B j : Nat} {d : Dk} (h : HsI w P B d j u) (hb : Below u.heap.size u v) : HsI w P B d j v := ⟨h.dk.later hb, h.hp, below_two h.lo hb⟩
end Go.Proofs.Ytjlfhaehdllmcaa
