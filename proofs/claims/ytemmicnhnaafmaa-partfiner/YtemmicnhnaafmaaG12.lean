/- append onto a row of sets: what the row held stands; arrays of 256 numbers compared. -/
import Derived.Deep.DeepAppendRoom
import Derived.Test.YtemmicnhnaafmaaG11
namespace Go.Proofs.Ytemmicnhnaafmaa
open Go.RowKit

theorem OwnsS.append_keeps {w w' : World} {B : Nat} {v v' : Value} {xs : List Oct.S} (h : OwnsS w B v xs) (ty : TypeId) (b off k c : Nat) (zs : List Oct.S) (hz : SetsAt w (some ⟨b, off, none⟩) zs) (hk : zs.length = k) (hl : xs.length + k ≤ 1000)
    (hrun : (Builtin.append_ #[27, 27] ty #[v, .slice (some ⟨b, off, none⟩) k c]).run Try.prog w = .ok v' w') (hg : w.grownBy w' v.ownBlock) : OwnsS w' B v xs := by
  by_cases hx : xs = []
  · subst hx
    rw [h.2.1 rfl]
    exact ownsS_nil _ _
  · refine ⟨?_, h.2⟩
    obtain ⟨h1, h2⟩ := h.1
    refine ⟨h1, ?_⟩
    rcases h2 with ⟨hv, hn⟩ | ⟨g, cap, cur, hv, hbg, hgc, hn1, hn2, hn3, hn4⟩
    · exact absurd (List.eq_nil_of_length_eq_zero hn) hx
    · subst hv
      obtain ⟨i0, hi, hz0, hz1, hz2⟩ := info_parts info31
      have hfl := flat_length zs
      have hnews : ∀ j u, (flat zs)[j]? = some u → w.cell? ((⟨b, off, none⟩ : Addr).add j) = some u := by
        intro j u hj
        obtain ⟨s, hs, hu⟩ := flat_get hj
        rw [Go.WideShapes.add_plain]
        rcases hz with rfl | ⟨b', off', e, hc⟩
        · simp at hs
        · cases e
          obtain ⟨c0, c1, c2, c3⟩ := hc _ _ hs
          have hm : j % 4 < 4 := Nat.mod_lt _ (by decide)
          have hd := Nat.div_add_mod j 4
          have hcase : j % 4 = 0 ∨ j % 4 = 1 ∨ j % 4 = 2 ∨ j % 4 = 3 := by omega
          rcases hcase with e | e | e | e
          · rw [e] at hu; simp [cells4] at hu; subst hu
            rw [show off + j = off + j / 4 * 4 by omega]; exact c0
          · rw [e] at hu; simp [cells4] at hu; subst hu
            rw [show off + j = off + j / 4 * 4 + 1 by omega]; exact c1
          · rw [e] at hu; simp [cells4] at hu; subst hu
            rw [show off + j = off + j / 4 * 4 + 2 by omega]; exact c2
          · rw [e] at hu; simp [cells4] at hu; subst hu
            rw [show off + j = off + j / 4 * 4 + 3 by omega]; exact c3
      have hlen : (cur.toList.take (xs.length * 4)).length = xs.length * 4 := by
        have hcl : cur.toList.length = cur.size := Array.length_toList
        rw [List.length_take, hcl, hn3]
        exact Nat.min_eq_left (Nat.mul_le_mul_right _ hn1)
      by_cases hroom : xs.length + k ≤ cap
      · have hfit : xs.length * i0.size + (flat zs).length ≤ cur.size := by rw [hz1, hfl, hn3]; omega
        have hr := run_append_room (P := Try.prog) w 27 ty 31 i0 Try.underlying27 hi g xs.length cap cur hgc ⟨b, off, none⟩ k c (flat zs) (by rw [hfl, hz1, hk, Nat.mul_comm]) hnews (flat_one zs) hroom hfit
        rw [hrun] at hr
        cases hr
        rw [hz1] at *
        refine Or.inr ⟨g, cap, _, rfl, hbg, setRow_heap w g cur _ _ (0, 0) hgc, hn1, hn2, ?_, ?_⟩
        · simp only [List.size_toArray, List.length_append, hlen, List.length_drop, Array.length_toList]
          omega
        · rw [← hn4, List.append_assoc, List.take_append_of_le_length (by rw [hlen]; exact Nat.le_refl _), List.take_take, Nat.min_self]
      · have hr := run_append_grow (P := Try.prog) w 27 ty 31 i0 _ Try.underlying27 hi hz0 ⟨g, 0, none⟩ xs.length cap (cur.toList.take (xs.length * 4)) (by rw [hz1]; exact hlen) (by
            intro j v hj
            have hlt : j < xs.length * 4 := by
              have := (List.getElem?_eq_some_iff.1 hj).1
              rw [List.length_take] at this
              omega
            rw [List.getElem?_take_of_lt hlt, Array.getElem?_toList] at hj
            rw [Go.WideShapes.add_plain, Nat.zero_add]
            simp [World.cell?, hgc, hj]) ⟨b, off, none⟩ k c (flat zs) (by rw [hfl, hz1, hk, Nat.mul_comm]) hnews (by omega) (by omega) (by
          rw [hz2]
          have e1 := nextslicecap_le (need := xs.length + k) (old := cap) (by omega)
          omega)
        rw [hrun] at hr
        cases hr
        exact Or.inr ⟨g, cap, cur, rfl, hbg, (heap_alloc_old w.drew _ (Array.getElem?_eq_some_iff.1 hgc).1).trans hgc, hn1, hn2, hn3, hn4⟩
/-- append onto a row of sets, and the row itself stands -/
theorem wpList_append_sets2 {w : World} {ops : Array Oper} {rest : List Oper} {o : Oper} {a : Act} {Q : Exit → Act → World → Prop} (hgd : o.guard = none) (s x : Operand)
    (ho : o.op = .call { callee := .builtin .append, args := #[s, x], argTypes := #[27, 27] })
    (w0 : World) (v : Value) (xs : List Oct.S) (hs : a.eval s = v) (hown : OwnsS w w0.heap.size v xs) (hbel : Below w0.heap.size w0 w) (p : Option Addr) (cap n : Nat) (zs : List Oct.S) (hn : n = zs.length) (hx : a.eval x = .slice p n cap) (hb : SetsAt w p zs)
    (hl : xs.length + zs.length ≤ 1000) (hnil : zs = [] → xs = [])
    (h : ∀ v' w', OwnsS w' w0.heap.size v' (xs ++ zs) → OwnsS w' w0.heap.size v xs → Below w0.heap.size w0 w' → wpList Try.prog ops Q rest (a.put o.dst v') w') : wpList Try.prog ops Q (o :: rest) a w := by
  subst hn
  refine wpList_plain hgd fun K hK => ?_
  obtain ⟨v', w', hr, h2, h3⟩ := run_append_setsN w o.type w0.heap.size v xs hown _ cap zs hb (by omega) hbel.size hnil
  have h4 : OwnsS w' w0.heap.size v xs := by
    by_cases hz : zs = []
    · have hxs := hnil hz
      subst hxs
      rw [hown.2.1 rfl]
      exact ownsS_nil _ _
    · rcases hb with hb | ⟨b, off, rfl, hc⟩
      · exact absurd hb hz
      · exact hown.append_keeps o.type b off zs.length cap zs (.inr ⟨b, off, rfl, hc⟩) rfl hl hr h3
  unfold Oper.wp execOp
  simp only [ho, resolve, invoke, builtin, Sem.run_bind, Sem.run_pure, Result.andThen_ok, List.map_toArray, List.map_cons, List.map_nil, hs, hx, hr]
  exact hK _ _ (h v' w' h2 h4 (hbel.grown h3 hbel.size hown.block))
/-! ### arrays compared -/
theorem mapM_isSome {α β : Type} (f : α → Option β) : ∀ l : List α, (∀ x ∈ l, (f x).isSome = true) → (l.mapM f).isSome = true
  | [], _ => rfl
  | x :: l, h => by
    have h1 := h x (by simp)
    have h2 := mapM_isSome f l (fun y hy => h y (by simp [hy]))
    rw [List.mapM_cons]
    cases e : f x with
    | none => rw [e] at h1; cases h1
    | some y =>
      cases e2 : l.mapM f with
      | none => rw [e2] at h2; cases h2
      | some ys => rfl
theorem keyArr (f : Nat → Int) (hf : ∀ i, i < 256 → -9223372036854775808 ≤ f i ∧ f i < 9223372036854775808) : ∃ l, keyOf Try.prog 38 (.agg (cv f)) = some l := by
  have hk : Try.prog.keyType 38 = true := by kernel_rfl
  have hc : Try.prog.cellsOf 38 = 256 := by kernel_rfl
  have hc2 : Try.prog.cellsOf 3 = 1 := by kernel_rfl
  have hu2 : Try.prog.underlying 3 = some (.int .i64) := by kernel_rfl
  have hfm : (Value.agg (cv f)).formed Try.prog 38 = true := by simp [Value.formed, hc, cv_size]
  obtain ⟨n, hn⟩ : ∃ n, Try.prog.types.size = n + 1 := ⟨Try.prog.types.size - 1, by kernel_rfl⟩
  have hs : ((List.range 256).mapM fun i => Try.prog.keyLits (n + 1) 3 (((cv f).toList.drop (i * 1)).take 1)).isSome = true := by
    refine mapM_isSome _ _ (fun i hi => ?_)
    have hi : i < 256 := by simpa using hi
    have e : ((cv f).toList.drop (i * 1)).take 1 = [.int .i64 (f i)] := by
      have h := cv_at f hi
      rw [← Array.getElem?_toList] at h
      rw [Nat.mul_one, List.drop_eq_getElem_cons (List.getElem?_eq_some_iff.1 h).1]
      simp [(List.getElem?_eq_some_iff.1 h).2]
    rw [e]
    have hw : (Lit.int .i64 (f i)).wf = true := by
      have := hf i hi
      simp [Lit.wf, IntKind.min, IntKind.max, IntKind.signed, IntKind.bits]; omega
    simp [Program.keyLits, hu2, hw]
  unfold keyOf
  rw [underArr]
  simp only [hk, hfm, hn, Bool.and_self, if_true]
  have e0 : Try.prog.keyLits (n + 1 + 1) 38 (Value.agg (cv f)).cells.toList = ((List.range 256).mapM fun i => Try.prog.keyLits (n + 1) 3 (((cv f).toList.drop (i * 1)).take 1)).map List.flatten := by
    rw [Program.keyLits.eq_def]
    simp only [underArr, Value.cells, Array.length_toList, cv_size, hc, hc2, if_true]
  rw [e0]
  cases e : (List.range 256).mapM fun i => Try.prog.keyLits (n + 1) 3 (((cv f).toList.drop (i * 1)).take 1) with
  | none => rw [e] at hs; cases hs
  | some l => exact ⟨_, rfl⟩
theorem eqArr (f : Nat → Int) (hf : ∀ i, i < 256 → -9223372036854775808 ≤ f i ∧ f i < 9223372036854775808) (w : World) : (Op.equalIn 10000 38 (.agg (cv f)) (.agg (cv f))).run Try.prog w = .ok true w := by
  obtain ⟨l, hl⟩ := keyArr f hf
  obtain ⟨r, hr, hi⟩ := run_equal_deep (P := Try.prog) w (m := 2) (by decide) (k := 38) (by kernel_rfl) (by kernel_rfl) hl hl
  have : r = true := hi.2 rfl
  subst this
  exact hr
/-! ### what PartFiner asks of classes, plain -/
theorem clsV_range (ss : List Oct.S) (i : Nat) (hi : i < 256) : -9223372036854775808 ≤ clsV ss i ∧ clsV ss i < 9223372036854775808 := by
  have h := Pt.cls_lt (Pt.sameB_eqv ss) hi
  have h2 := Pt.cnt_le (r := Pt.sameB ss) 256
  unfold clsV
  omega
theorem sameB_back (ss : List Oct.S) : Pt.sameB (ss.reverse ++ ss) = Pt.sameB ss := by
  funext a b
  rw [Bool.eq_iff_iff, Pt.sameB_iff, Pt.sameB_iff]
  exact ⟨fun h s hs => h s (by simp [hs]), fun h s hs => h s (by simpa using hs)⟩
theorem sameB_more (ss : List Oct.S) (m : Oct.S) (a b : Nat) : Pt.sameB (ss.reverse ++ [m]) a b = (Pt.sameB ss a b && m a == m b) := by
  rw [Bool.eq_iff_iff, Pt.sameB_iff, Bool.and_eq_true, Pt.sameB_iff]
  constructor
  · intro h
    exact ⟨fun s hs => h s (by simp [hs]), by simpa using h m (by simp)⟩
  · rintro ⟨h1, h2⟩ s hs
    rcases List.mem_append.1 hs with h | h
    · exact h1 s (by simpa using h)
    · have : s = m := by simpa using h
      subst this
      simpa using h2
theorem clsV_back (ss : List Oct.S) : clsV (ss.reverse ++ ss) = clsV ss := by unfold clsV; rw [sameB_back]
theorem cnt_more_ge (ss : List Oct.S) (m : Oct.S) : Pt.cnt (Pt.sameB ss) 256 ≤ Pt.cnt (Pt.sameB (ss.reverse ++ [m])) 256 := Pt.cnt_fine (fun a b h => by rw [sameB_more, Bool.and_eq_true] at h; exact h.1) 256
theorem cnt_more_le (ss : List Oct.S) (m : Oct.S) : Pt.cnt (Pt.sameB (ss.reverse ++ [m])) 256 ≤ 2 * Pt.cnt (Pt.sameB ss) 256 := Pt.cnt_double (Pt.sameB_eqv ss) (sameB_more ss m) 256
theorem finer_eq {ss : List Oct.S} {m : Oct.S} {a b : Nat} (h : Pt.cls (Pt.sameB (ss.reverse ++ [m])) a = Pt.cls (Pt.sameB (ss.reverse ++ [m])) b) : Pt.cls (Pt.sameB ss) a = Pt.cls (Pt.sameB ss) b := by
  have h1 := (Pt.cls_iff (Pt.sameB_eqv _) a b).1 h
  rw [sameB_more, Bool.and_eq_true] at h1
  exact (Pt.cls_iff (Pt.sameB_eqv ss) a b).2 h1.1
/-- how many bytes a class has -/
def szC (ss : List Oct.S) (c : Nat) : Nat := ((List.range 256).filter fun b => Pt.cls (Pt.sameB ss) b == c).length
theorem count_memb (ss : List Oct.S) (c : Nat) : Oct.count (Pt.memb (clsV ss) (c : Nat)) 256 = szC ss c := by
  unfold Oct.count szC
  congr 1
  refine List.filter_congr (fun b hb => ?_)
  rw [memb_cls]
  have : b < 256 := by simpa using hb
  simp [this]
  exact Bool.beq_eq_decide_eq _ _ |>.symm
theorem szC_pos {ss : List Oct.S} {c : Nat} (h : c < Pt.cnt (Pt.sameB ss) 256) : 0 < szC ss c := by
  have hl := Pt.news_length (r := Pt.sameB ss) 256
  obtain ⟨x, hx⟩ : ∃ x, (Pt.news (Pt.sameB ss) 256)[c]? = some x := ⟨_, List.getElem?_eq_getElem (by omega)⟩
  obtain ⟨h1, h2, h3⟩ := Pt.news_at hx
  have hc := Pt.cls_new (Pt.sameB_eqv ss) h2
  unfold szC
  refine List.length_pos_of_mem (a := x) (List.mem_filter.2 ⟨List.mem_range.2 h1, ?_⟩)
  rw [hc, h3]
  simp
theorem sum_le (ss : List Oct.S) (k : Nat) : Pt.sumTo (szC ss) k ≤ 256 := by
  have := Pt.sum_count (Pt.cls (Pt.sameB ss)) (List.range 256) k
  have h2 : Pt.sumTo (szC ss) k = Pt.sumTo (fun c => ((List.range 256).filter fun b => Pt.cls (Pt.sameB ss) b == c).length) k := rfl
  rw [h2, this]
  have := List.length_filter_le (fun b => decide (Pt.cls (Pt.sameB ss) b < k)) (List.range 256)
  simpa using this
theorem sum_all (ss : List Oct.S) : Pt.sumTo (szC ss) (Pt.cnt (Pt.sameB ss) 256) = 256 := by
  have := Pt.sum_count (Pt.cls (Pt.sameB ss)) (List.range 256) (Pt.cnt (Pt.sameB ss) 256)
  have h2 : Pt.sumTo (szC ss) (Pt.cnt (Pt.sameB ss) 256) = Pt.sumTo (fun c => ((List.range 256).filter fun b => Pt.cls (Pt.sameB ss) b == c).length) (Pt.cnt (Pt.sameB ss) 256) := rfl
  rw [h2, this, List.filter_eq_self.2 (fun b hb => by
    have : b < 256 := by simpa using hb
    simpa using Pt.cls_lt (Pt.sameB_eqv ss) this)]
  simp
end Go.Proofs.Ytemmicnhnaafmaa
