/- append onto a row of sets: what the row held stands; arrays of 256 numbers compared. -/
import Derived.Deep.DeepAppendRoom
import Derived.Test.YtemmicnhnaafmaaG11
import Derived.Deep.AppendLies
import Derived.Test.YtemmicnhnaafmaaG08
namespace Go.Proofs.Ytemmicnhnaafmaa
open Go.RowKit

theorem OwnsS.append_keeps {w w' : World} {B : Nat} {v v' : Value} {xs : List Oct.S} (h : OwnsS w B v xs) (ty : TypeId) (b off k c : Nat) (zs : List Oct.S) (hz : SetsAt w (some ⟨b, off, none⟩) zs) (hk : zs.length = k) (hl : xs.length + k ≤ 1000)
    (hrun : (Builtin.append_ #[27, 27] ty #[v, .slice (some ⟨b, off, none⟩) k c]).run Try.prog w = .ok v' w') (hg : w.grownBy w' v.ownBlock) : OwnsS w' B v xs := by
  by_cases hx : xs = []
  · subst hx
    rw [h.2.1 rfl]
    exact ownsS_nil _ _
  · refine ⟨?_, h.2⟩
    obtain ⟨h1, h2⟩ := h.1
    refine ⟨h1, ?_⟩
    rcases h2 with ⟨hv, hn⟩ | ⟨g, cap, cur, hv, hbg, hgc, hn1, hn2, hn3, hn4⟩
    · exact absurd (List.eq_nil_of_length_eq_zero hn) hx
    · subst hv
      obtain ⟨i0, hi, hz0, hz1, hz2⟩ := info_parts info31
      have hfl := flat_length zs
      have hnews : ∀ j u, (flat zs)[j]? = some u → w.cell? ((⟨b, off, none⟩ : Addr).add j) = some u := by
        intro j u hj
        obtain ⟨s, hs, hu⟩ := flat_get hj
        rw [Go.WideShapes.add_plain]
        rcases hz with rfl | ⟨b', off', e, hc⟩
        · simp at hs
        · cases e
          obtain ⟨c0, c1, c2, c3⟩ := hc _ _ hs
          have hm : j % 4 < 4 := Nat.mod_lt _ (by decide)
          have hd := Nat.div_add_mod j 4
          have hcase : j % 4 = 0 ∨ j % 4 = 1 ∨ j % 4 = 2 ∨ j % 4 = 3 := by omega
          rcases hcase with e | e | e | e
          · rw [e] at hu; simp [cells4] at hu; subst hu
            rw [show off + j = off + j / 4 * 4 by omega]; exact c0
          · rw [e] at hu; simp [cells4] at hu; subst hu
            rw [show off + j = off + j / 4 * 4 + 1 by omega]; exact c1
          · rw [e] at hu; simp [cells4] at hu; subst hu
            rw [show off + j = off + j / 4 * 4 + 2 by omega]; exact c2
          · rw [e] at hu; simp [cells4] at hu; subst hu
            rw [show off + j = off + j / 4 * 4 + 3 by omega]; exact c3
      have hlen : (cur.toList.take (xs.length * 4)).length = xs.length * 4 := by
        have hcl : cur.toList.length = cur.size := Array.length_toList
        rw [List.length_take, hcl, hn3]
        exact Nat.min_eq_left (Nat.mul_le_mul_right _ hn1)
      by_cases hroom : xs.length + k ≤ cap
      · have hfit : xs.length * i0.size + (flat zs).length ≤ cur.size := by rw [hz1, hfl, hn3]; omega
        have hr := run_append_room (P := Try.prog) w 27 ty 31 i0 Try.underlying27 hi g xs.length cap cur hgc ⟨b, off, none⟩ k c (flat zs) (by rw [hfl, hz1, hk, Nat.mul_comm]) hnews (flat_one zs) hroom hfit
        rw [hrun] at hr
        cases hr
        rw [hz1] at *
        refine Or.inr ⟨g, cap, _, rfl, hbg, setRow_heap w g cur _ _ (0, 0) hgc, hn1, hn2, ?_, ?_⟩
        · simp only [List.size_toArray, List.length_append, hlen, List.length_drop, Array.length_toList]
          omega
        · rw [← hn4, List.append_assoc, List.take_append_of_le_length (by rw [hlen]; exact Nat.le_refl _), List.take_take, Nat.min_self]
      · have hr := run_append_grow (P := Try.prog) w 27 ty 31 i0 _ Try.underlying27 hi hz0 ⟨g, 0, none⟩ xs.length cap (cur.toList.take (xs.length * 4)) (by rw [hz1]; exact hlen) (by
            intro j v hj
            have hlt : j < xs.length * 4 := by
              have := (List.getElem?_eq_some_iff.1 hj).1
              rw [List.length_take] at this
              omega
            rw [List.getElem?_take_of_lt hlt, Array.getElem?_toList] at hj
            rw [Go.WideShapes.add_plain, Nat.zero_add]
            simp [World.cell?, hgc, hj]) ⟨b, off, none⟩ k c (flat zs) (by rw [hfl, hz1, hk, Nat.mul_comm]) hnews (by omega) (by omega) (by
          rw [hz2]
          have e1 := nextslicecap_le (need := xs.length + k) (old := cap) (by omega)
          omega)
        rw [hrun] at hr
        cases hr
        exact Or.inr ⟨g, cap, cur, rfl, hbg, (heap_alloc_old w.drew _ (Array.getElem?_eq_some_iff.1 hgc).1).trans hgc, hn1, hn2, hn3, hn4⟩
/-- append onto a row of sets, and the row itself stands -/
theorem wpList_append_sets2 {w : World} {ops : Array Oper} {rest : List Oper} {o : Oper} {a : Act} {Q : Exit → Act → World → Prop} (hgd : o.guard = none) (s x : Operand)
    (ho : o.op = .call { callee := .builtin .append, args := #[s, x], argTypes := #[27, 27] })
    (w0 : World) (v : Value) (xs : List Oct.S) (hs : a.eval s = v) (hown : OwnsS w w0.heap.size v xs) (hbel : Below w0.heap.size w0 w) (p : Option Addr) (cap n : Nat) (zs : List Oct.S) (hn : n = zs.length) (hx : a.eval x = .slice p n cap) (hb : SetsAt w p zs)
    (hl : xs.length + zs.length ≤ 1000) (hnil : zs = [] → xs = [])
    (h : ∀ v' w', OwnsS w' w0.heap.size v' (xs ++ zs) → OwnsS w' w0.heap.size v xs → Below w0.heap.size w0 w' → wpList Try.prog ops Q rest (a.put o.dst v') w') : wpList Try.prog ops Q (o :: rest) a w := by
  subst hn
  refine wpList_plain hgd fun K hK => ?_
  obtain ⟨v', w', hr, h2, h3⟩ := run_append_setsN w o.type w0.heap.size v xs hown _ cap zs hb (by omega) hbel.size hnil
  have h4 : OwnsS w' w0.heap.size v xs := by
    by_cases hz : zs = []
    · have hxs := hnil hz
      subst hxs
      rw [hown.2.1 rfl]
      exact ownsS_nil _ _
    · rcases hb with hb | ⟨b, off, rfl, hc⟩
      · exact absurd hb hz
      · exact hown.append_keeps o.type b off zs.length cap zs (.inr ⟨b, off, rfl, hc⟩) rfl hl hr h3
  unfold Oper.wp execOp
  simp only [ho, resolve, invoke, builtin, Sem.run_bind, Sem.run_pure, Result.andThen_ok, List.map_toArray, List.map_cons, List.map_nil, hs, hx, hr]
  exact hK _ _ (h v' w' h2 h4 (hbel.grown h3 hbel.size hown.block))
/-! ### arrays compared -/
theorem mapM_isSome {α β : Type} (f : α → Option β) : ∀ l : List α, (∀ x ∈ l, (f x).isSome = true) → (l.mapM f).isSome = true
  | [], _ => rfl
  | x :: l, h => by
    have h1 := h x (by simp)
    have h2 := mapM_isSome f l (fun y hy => h y (by simp [hy]))
    rw [List.mapM_cons]
    cases e : f x with
    | none => rw [e] at h1; cases h1
    | some y =>
      cases e2 : l.mapM f with
      | none => rw [e2] at h2; cases h2
      | some ys => rfl
theorem keyArr (f : Nat → Int) (hf : ∀ i, i < 256 → -9223372036854775808 ≤ f i ∧ f i < 9223372036854775808) : ∃ l, keyOf Try.prog 38 (.agg (cv f)) = some l := by
  have hk : Try.prog.keyType 38 = true := by kernel_rfl
  have hc : Try.prog.cellsOf 38 = 256 := by kernel_rfl
  have hc2 : Try.prog.cellsOf 3 = 1 := by kernel_rfl
  have hu2 : Try.prog.underlying 3 = some (.int .i64) := by kernel_rfl
  have hfm : (Value.agg (cv f)).formed Try.prog 38 = true := by simp [Value.formed, hc, cv_size]
  obtain ⟨n, hn⟩ : ∃ n, Try.prog.types.size = n + 1 := ⟨Try.prog.types.size - 1, by kernel_rfl⟩
  have hs : ((List.range 256).mapM fun i => Try.prog.keyLits (n + 1) 3 (((cv f).toList.drop (i * 1)).take 1)).isSome = true := by
    refine mapM_isSome _ _ (fun i hi => ?_)
    have hi : i < 256 := by simpa using hi
    have e : ((cv f).toList.drop (i * 1)).take 1 = [.int .i64 (f i)] := by
      have h := cv_at f hi
      rw [← Array.getElem?_toList] at h
      rw [Nat.mul_one, List.drop_eq_getElem_cons (List.getElem?_eq_some_iff.1 h).1]
      simp [(List.getElem?_eq_some_iff.1 h).2]
    rw [e]
    have hw : (Lit.int .i64 (f i)).wf = true := by
      have := hf i hi
      simp [Lit.wf, IntKind.min, IntKind.max, IntKind.signed, IntKind.bits]; omega
    simp [Program.keyLits, hu2, hw]
  unfold keyOf
  rw [underArr]
  simp only [hk, hfm, hn, Bool.and_self, if_true]
  have e0 : Try.prog.keyLits (n + 1 + 1) 38 (Value.agg (cv f)).cells.toList = ((List.range 256).mapM fun i => Try.prog.keyLits (n + 1) 3 (((cv f).toList.drop (i * 1)).take 1)).map List.flatten := by
    rw [Program.keyLits.eq_def]
    simp only [underArr, Value.cells, Array.length_toList, cv_size, hc, hc2, if_true]
  rw [e0]
  cases e : (List.range 256).mapM fun i => Try.prog.keyLits (n + 1) 3 (((cv f).toList.drop (i * 1)).take 1) with
  | none => rw [e] at hs; cases hs
  | some l => exact ⟨_, rfl⟩
theorem eqArr (f : Nat → Int) (hf : ∀ i, i < 256 → -9223372036854775808 ≤ f i ∧ f i < 9223372036854775808) (w : World) : (Op.equalIn 10000 38 (.agg (cv f)) (.agg (cv f))).run Try.prog w = .ok true w := by
  obtain ⟨l, hl⟩ := keyArr f hf
  obtain ⟨r, hr, hi⟩ := run_equal_deep (P := Try.prog) w (m := 2) (by decide) (k := 38) (by kernel_rfl) (by kernel_rfl) hl hl
  have : r = true := hi.2 rfl
  subst this
  exact hr
/-! ### what PartFiner asks of classes, plain -/
theorem clsV_range (ss : List Oct.S) (i : Nat) (hi : i < 256) : -9223372036854775808 ≤ clsV ss i ∧ clsV ss i < 9223372036854775808 := by
  have h := Pt.cls_lt (Pt.sameB_eqv ss) hi
  have h2 := Pt.cnt_le (r := Pt.sameB ss) 256
  unfold clsV
  omega
theorem sameB_back (ss : List Oct.S) : Pt.sameB (ss.reverse ++ ss) = Pt.sameB ss := by
  funext a b
  rw [Bool.eq_iff_iff, Pt.sameB_iff, Pt.sameB_iff]
  exact ⟨fun h s hs => h s (by simp [hs]), fun h s hs => h s (by simpa using hs)⟩
theorem sameB_more (ss : List Oct.S) (m : Oct.S) (a b : Nat) : Pt.sameB (ss.reverse ++ [m]) a b = (Pt.sameB ss a b && m a == m b) := by
  rw [Bool.eq_iff_iff, Pt.sameB_iff, Bool.and_eq_true, Pt.sameB_iff]
  constructor
  · intro h
    exact ⟨fun s hs => h s (by simp [hs]), by simpa using h m (by simp)⟩
  · rintro ⟨h1, h2⟩ s hs
    rcases List.mem_append.1 hs with h | h
    · exact h1 s (by simpa using h)
    · have : s = m := by simpa using h
      subst this
      simpa using h2
theorem clsV_back (ss : List Oct.S) : clsV (ss.reverse ++ ss) = clsV ss := by unfold clsV; rw [sameB_back]
theorem cnt_more_ge (ss : List Oct.S) (m : Oct.S) : Pt.cnt (Pt.sameB ss) 256 ≤ Pt.cnt (Pt.sameB (ss.reverse ++ [m])) 256 := Pt.cnt_fine (fun a b h => by rw [sameB_more, Bool.and_eq_true] at h; exact h.1) 256
theorem cnt_more_le (ss : List Oct.S) (m : Oct.S) : Pt.cnt (Pt.sameB (ss.reverse ++ [m])) 256 ≤ 2 * Pt.cnt (Pt.sameB ss) 256 := Pt.cnt_double (Pt.sameB_eqv ss) (sameB_more ss m) 256
theorem finer_eq {ss : List Oct.S} {m : Oct.S} {a b : Nat} (h : Pt.cls (Pt.sameB (ss.reverse ++ [m])) a = Pt.cls (Pt.sameB (ss.reverse ++ [m])) b) : Pt.cls (Pt.sameB ss) a = Pt.cls (Pt.sameB ss) b := by
  have h1 := (Pt.cls_iff (Pt.sameB_eqv _) a b).1 h
  rw [sameB_more, Bool.and_eq_true] at h1
  exact (Pt.cls_iff (Pt.sameB_eqv ss) a b).2 h1.1
/-- how many bytes a class has -/
def szC (ss : List Oct.S) (c : Nat) : Nat := ((List.range 256).filter fun b => Pt.cls (Pt.sameB ss) b == c).length
theorem count_memb (ss : List Oct.S) (c : Nat) : Oct.count (Pt.memb (clsV ss) (c : Nat)) 256 = szC ss c := by
  unfold Oct.count szC
  congr 1
  refine List.filter_congr (fun b hb => ?_)
  rw [memb_cls]
  have : b < 256 := by simpa using hb
  simp [this]
  exact Bool.beq_eq_decide_eq _ _ |>.symm
theorem szC_pos {ss : List Oct.S} {c : Nat} (h : c < Pt.cnt (Pt.sameB ss) 256) : 0 < szC ss c := by
  have hl := Pt.news_length (r := Pt.sameB ss) 256
  obtain ⟨x, hx⟩ : ∃ x, (Pt.news (Pt.sameB ss) 256)[c]? = some x := ⟨_, List.getElem?_eq_getElem (by omega)⟩
  obtain ⟨h1, h2, h3⟩ := Pt.news_at hx
  have hc := Pt.cls_new (Pt.sameB_eqv ss) h2
  unfold szC
  refine List.length_pos_of_mem (a := x) (List.mem_filter.2 ⟨List.mem_range.2 h1, ?_⟩)
  rw [hc, h3]
  simp
theorem sum_le (ss : List Oct.S) (k : Nat) : Pt.sumTo (szC ss) k ≤ 256 := by
  have := Pt.sum_count (Pt.cls (Pt.sameB ss)) (List.range 256) k
  have h2 : Pt.sumTo (szC ss) k = Pt.sumTo (fun c => ((List.range 256).filter fun b => Pt.cls (Pt.sameB ss) b == c).length) k := rfl
  rw [h2, this]
  have := List.length_filter_le (fun b => decide (Pt.cls (Pt.sameB ss) b < k)) (List.range 256)
  simpa using this
theorem sum_all (ss : List Oct.S) : Pt.sumTo (szC ss) (Pt.cnt (Pt.sameB ss) 256) = 256 := by
  have := Pt.sum_count (Pt.cls (Pt.sameB ss)) (List.range 256) (Pt.cnt (Pt.sameB ss) 256)
  have h2 : Pt.sumTo (szC ss) (Pt.cnt (Pt.sameB ss) 256) = Pt.sumTo (fun c => ((List.range 256).filter fun b => Pt.cls (Pt.sameB ss) b == c).length) (Pt.cnt (Pt.sameB ss) 256) := rfl
  rw [h2, this, List.filter_eq_self.2 (fun b hb => by
    have : b < 256 := by simpa using hb
    simpa using Pt.cls_lt (Pt.sameB_eqv ss) this)]
  simp
end Go.Proofs.Ytemmicnhnaafmaa

/- heronlaw09.sameSets of two lists that are alike. -/
namespace Go.Proofs.Ytemmicnhnaafmaa
open Go.RowKit

theorem wpQuiet_load_arr {ops : Array Oper} {rest : List Oper} {o : Oper} {a : Act} {w : World} {Q : Act → Prop} (hgd : o.guard = none) (x : Operand) (ho : o.op = .load 38 x) {A : Nat} {f : Nat → Int} (h : ∀ u : Later w, AB u.at_ A f) (hx : a.eval x = .pointer (some ⟨A, 0, none⟩))
    (hk : wpQuiet Try.prog ops (fun w' => ∃ u : Later w, w' = u.at_) Q rest (a.put o.dst (.agg (cv f)))) : wpQuiet Try.prog ops (fun w' => ∃ u : Later w, w' = u.at_) Q (o :: rest) a := by
  show (if Region.wanted o (yielded ops a.tmps) then _ else _)
  rw [if_pos (wanted_free hgd)]
  refine ⟨.agg (cv f), ?_, hk⟩
  rintro _ ⟨u, rfl⟩
  unfold Oper.quietAt
  simp only [execOp, ho, hx, Sem.run_bind, (h u).load]
  exact ⟨rfl, rfl⟩
set_option maxRecDepth 20000 in
set_option maxHeartbeats 2000000 in
theorem sameSets_any (a a' : Option Addr) (n cap cap' : Nat) (ss : List Oct.S) (w : World) (hn : n = ss.length) (hl : n ≤ 1000) (hat : SetsAt w a ss) (hat' : SetsAt w a' ss) :
    Calls Try.prog 10 #[.slice a n cap, .slice a' n cap'] w fun e w' => e = .returned (.bool true) ∧ Below w.heap.size w w' := by
  have HA : Hid (SetsAt w a ss) := hat
  have HA2 : Hid (SetsAt w a' ss) := hat'
  have HN : Hid (n = ss.length) := hn
  clear hat hat' hn
  go_enter Try.func10, Try.ntmps10
  go_wp2
  go_loopw [13] (fun i u => ∃ k : Nat, k ≤ n ∧ i = .int .i64 (k : Nat) ∧ Hid (Below w.heap.size w u)) (fun i _ => n - (intOf i).toNat)
  case atStart => exact ⟨0, Nat.zero_le _, rfl, Below.refl _ _⟩
  case round =>
    obtain ⟨k, hk, rfl, HB⟩ := hrel
    by_cases hlt : k < n
    · have hlt' : (k : Int) < (n : Int) := by omega
      obtain ⟨s, hs⟩ : ∃ s, ss[k]? = some s := ⟨_, List.getElem?_eq_getElem (by rw [← HN.out]; exact hlt)⟩
      obtain ⟨g, off, rfl, c0, c1, c2, c3⟩ := setsAt_cell HA.out HB.out hs
      obtain ⟨g', off', rfl, d0, d1, d2, d3⟩ := setsAt_cell HA2.out HB.out hs
      have HS : Hid (ss[k]? = some s) := hs
      clear hs c0 c1 c2 c3 d0 d1 d2 d3
      have HL : Hid (∀ u : Later wr, Below w.heap.size w u.at_) := fun u => below_trans HB.out u.below HB.out.size
      have c0 : ∀ u : Later wr, u.at_.cell? ⟨g, off + k * 4, none⟩ = some (.int .u64 (Oct.word s 0 : Nat)) := fun u => by
        obtain ⟨_, _, e, h0, _⟩ := setsAt_cell HA.out (HL.out u) HS.out; cases e; exact h0
      have c1 : ∀ u : Later wr, u.at_.cell? ⟨g, off + k * 4 + 1, none⟩ = some (.int .u64 (Oct.word s 1 : Nat)) := fun u => by
        obtain ⟨_, _, e, _, h0, _⟩ := setsAt_cell HA.out (HL.out u) HS.out; cases e; exact h0
      have c2 : ∀ u : Later wr, u.at_.cell? ⟨g, off + k * 4 + 2, none⟩ = some (.int .u64 (Oct.word s 2 : Nat)) := fun u => by
        obtain ⟨_, _, e, _, _, h0, _⟩ := setsAt_cell HA.out (HL.out u) HS.out; cases e; exact h0
      have c3 : ∀ u : Later wr, u.at_.cell? ⟨g, off + k * 4 + 3, none⟩ = some (.int .u64 (Oct.word s 3 : Nat)) := fun u => by
        obtain ⟨_, _, e, _, _, _, h0⟩ := setsAt_cell HA.out (HL.out u) HS.out; cases e; exact h0
      have d0 : ∀ u : Later wr, u.at_.cell? ⟨g', off' + k * 4, none⟩ = some (.int .u64 (Oct.word s 0 : Nat)) := fun u => by
        obtain ⟨_, _, e, h0, _⟩ := setsAt_cell HA2.out (HL.out u) HS.out; cases e; exact h0
      have d1 : ∀ u : Later wr, u.at_.cell? ⟨g', off' + k * 4 + 1, none⟩ = some (.int .u64 (Oct.word s 1 : Nat)) := fun u => by
        obtain ⟨_, _, e, _, h0, _⟩ := setsAt_cell HA2.out (HL.out u) HS.out; cases e; exact h0
      have d2 : ∀ u : Later wr, u.at_.cell? ⟨g', off' + k * 4 + 2, none⟩ = some (.int .u64 (Oct.word s 2 : Nat)) := fun u => by
        obtain ⟨_, _, e, _, _, h0, _⟩ := setsAt_cell HA2.out (HL.out u) HS.out; cases e; exact h0
      have d3 : ∀ u : Later wr, u.at_.cell? ⟨g', off' + k * 4 + 3, none⟩ = some (.int .u64 (Oct.word s 3 : Nat)) := fun u => by
        obtain ⟨_, _, e, _, _, _, h0⟩ := setsAt_cell HA2.out (HL.out u) HS.out; cases e; exact h0
      have eq := eq4_same
      have hne : Nonempty (Later wr) := ⟨⟨wr, Below.refl _ _⟩⟩
      go_upto_region 6 with fail
      go_cut [24] from 16 to 24 (fun b wx => b = .bool false ∧ Hid (Below wr.heap.size wr wx))
      case first =>
        refine wp_region_later (by kernel_rfl) (by kernel_rfl) ?_
        repeat (first
          | go_big_quiet_step (fail)
          | quiet_step (fail))
        refine wpQuiet_nil ?_
        intro _ hw'
        obtain ⟨u, hw''⟩ := hw'
        subst hw''
        go_wp2_with fail
        go_meet
        case rel => exact ⟨rfl, u.below⟩
      case rest =>
      obtain ⟨rfl, kk⟩ := hcut
      have HB9 : Hid (Below w.heap.size w wc) := below_trans HB.out kk.out HB.out.size
      clear c0 c1 c2 c3 d0 d1 d2 d3 eq hne kk HB
      go_wp2
      go_roundw
      case rel => exact ⟨k + 1, by omega, by go_num, HB9⟩
      case measure => simp [intOf]; omega
    · have hge : ¬ (k : Int) < (n : Int) := by omega
      go_wp2
      go_ret
      exact ⟨rfl, HB.out⟩
end Go.Proofs.Ytemmicnhnaafmaa

/- The document's classes. -/
namespace Go.Proofs.Ytemmicnhnaafmaa
open Go.RowKit

/-- A ROW OF NUMBERS OF THE CALL's OWN. -/
def RowI (w : World) (base : Nat) (V : Value) (l : List Nat) : Prop := w.ownsRow base 3 1 V l.length (l.map fun a => Value.int .i64 (a : Nat))
theorem info3 : (Try.prog.info? 3).map (fun i => (i.zero, i.size, i.bytes)) = some (some (.int .i64 0), 1, 8) := by kernel_rfl
theorem rowI_nil (w : World) (base : Nat) : RowI w base (.slice none 0 0) [] := World.ownsRow_nil w base 3 1
theorem RowI.own {w : World} {base : Nat} {V : Value} {l : List Nat} (h : RowI w base V l) : ∀ b, V.ownBlock = some b → base ≤ b ∧ b < w.heap.size := by
  intro b hb
  rcases h.2 with ⟨rfl, _⟩ | ⟨g, cap, cur, rfl, hbg, hg, _⟩
  · simp [Value.ownBlock] at hb
  · simp [Value.ownBlock] at hb
    subst hb
    exact ⟨hbg, (Array.getElem?_eq_some_iff.1 hg).1⟩
theorem RowI.keep {w w' : World} {base : Nat} {V : Value} {l : List Nat} (h : RowI w base V l) (hk : ∀ b, base ≤ b → b < w.heap.size → w'.heap[b]? = w.heap[b]?) : RowI w' base V l := by
  refine ⟨h.1, ?_⟩
  rcases h.2 with h6 | ⟨g, cap, cur, rfl, hBg, hg, rest⟩
  · exact Or.inl h6
  · exact Or.inr ⟨g, cap, cur, rfl, hBg, (hk g hBg (Array.getElem?_eq_some_iff.1 hg).1).trans hg, rest⟩
theorem RowI.form {w : World} {base : Nat} {V : Value} {l : List Nat} (h : RowI w base V l) : ∃ (a : Option Addr) (c : Nat), V = .slice a l.length c ∧ l.length ≤ c ∧ c ≤ maxLen := by
  rcases h.2 with ⟨hv, hn⟩ | ⟨g, cap, cur, hv, hbg, hg, h1, h2, h3, h4⟩
  · exact ⟨none, 0, by rw [hv, hn], by omega, by decide⟩
  · exact ⟨_, cap, hv, h1, h2⟩
theorem RowI.at {w : World} {base : Nat} {a : Option Addr} {n c : Nat} {l : List Nat} (h : RowI w base (.slice a n c) l) {j x : Nat} (hx : l[j]? = some x) : ∃ g, a = some ⟨g, 0, none⟩ ∧ w.cell? ⟨g, j, none⟩ = some (.int .i64 (x : Nat)) := by
  have hj := (List.getElem?_eq_some_iff.1 hx).1
  rcases h.2 with ⟨hv, hn⟩ | ⟨g, cap, cur, hv, hbg, hg, h1, h2, h3, h4⟩
  · omega
  · cases hv
    refine ⟨g, rfl, ?_⟩
    have e : (l.map fun a => Value.int .i64 (a : Nat))[j]? = some (.int .i64 (x : Nat)) := by rw [List.getElem?_map, hx]; rfl
    rw [← h4, List.getElem?_take_of_lt (by omega)] at e
    simp only [World.cell?, hg]
    simpa using e
theorem wpList_append_int {w : World} {ops : Array Oper} {rest : List Oper} {o : Oper} {a : Act} {Q : Exit → Act → World → Prop} (hgd : o.guard = none) (s y : Operand)
    (ho : o.op = .call { callee := .builtin .append, args := #[s, y], argTypes := #[48, 48] })
    (base : Nat) (V : Value) (l : List Nat) (hs : a.eval s = V) (hn : RowI w base V l) (ad : Addr) (cap : Nat) (x : Nat) (hy : a.eval y = .slice (some ad) 1 cap) (hc : w.cell? ad = some (.int .i64 (x : Nat))) (hl : l.length ≤ 2000000) (hb : base ≤ w.heap.size)
    (h : ∀ g cap' w', RowI w' base (.slice (some ⟨g, 0, none⟩) (l.length + 1) cap') (l ++ [x]) → w.grownBy w' V.ownBlock → wpList Try.prog ops Q rest (a.put o.dst (.slice (some ⟨g, 0, none⟩) (l.length + 1) cap')) w') : wpList Try.prog ops Q (o :: rest) a w := by
  refine wpList_plain hgd fun K hK => ?_
  obtain ⟨i0, hi, hz0, hz1, hz2⟩ := info_parts info3
  obtain ⟨g, cap', w', hr, ho2, hg, hgg, hlt⟩ := run_append_lies (P := Try.prog) w 48 o.type base 3 i0 _ 1 8 Try.underlying48 hi hz0 hz1 hz2 rfl (by decide) V l.length _ hn ad 1 cap [.int .i64 (x : Nat)] rfl
    (fun j v hj => by
      cases j with
      | zero => simp at hj; subst hj; simpa [Addr.add] using hc
      | succ j => simp at hj) (fun v hv => by simp at hv; subst hv; rfl) (by decide) (by simp only [maxLen]; omega) (by omega) hb w.heap.size rfl
  unfold Oper.wp execOp
  simp only [ho, resolve, invoke, builtin, Sem.run_bind, Sem.run_pure, Result.andThen_ok, List.map_toArray, List.map_cons, List.map_nil, hs, hy, hr]
  refine hK _ _ (h g cap' w' ?_ hg)
  unfold RowI
  rw [List.length_append, List.map_append]
  exact ho2
set_option maxRecDepth 20000 in
set_option maxHeartbeats 1000000 in
theorem apart_any (a : Option Addr) (n cap x y : Nat) (ss : List Oct.S) (w : World) (hn : n = ss.length) (hl : n ≤ 64) (hat : SetsAt w a ss) (hx : x < 256) (hy : y < 256) :
    Calls Try.prog 25 #[.slice a n cap, .int .i64 (x : Nat), .int .i64 (y : Nat)] w fun e w' => e = .returned (.bool (!Pt.sameB ss x y)) ∧ Below w.heap.size w w' := by
  have HA : Hid (SetsAt w a ss) := hat
  have HN : Hid (n = ss.length) := hn
  clear hat hn
  go_enter Try.func25, Try.ntmps25
  go_wp2
  go_loopw [7] (fun i u => ∃ k : Nat, k ≤ n ∧ i = .int .i64 (k : Nat) ∧ Hid (Pt.sameB (ss.take k) x y = true) ∧ Hid (Below w.heap.size w u)) (fun i _ => n - (intOf i).toNat)
  case atStart => exact ⟨0, Nat.zero_le _, rfl, (by show _ = _; rfl), Below.refl _ _⟩
  case round =>
    obtain ⟨k, hk, rfl, HY, HB⟩ := hrel
    by_cases hlt : k < n
    · have hlt' : (k : Int) < (n : Int) := by omega
      obtain ⟨s, hs⟩ : ∃ s, ss[k]? = some s := ⟨_, List.getElem?_eq_getElem (by rw [← HN.out]; exact hlt)⟩
      obtain ⟨g, off, rfl, c0, c1, c2, c3⟩ := setsAt_cell HA.out HB.out hs
      have HT : Hid (Pt.sameB (ss.take (k + 1)) x y = (s x == s y)) := by
        show _ = _
        rw [List.take_add_one, hs, Bool.eq_iff_iff, Pt.sameB_iff]
        have h0 := Pt.sameB_iff.1 HY.out
        constructor
        · intro h
          have := h s (by simp)
          simp [this]
        · intro h t ht
          rcases List.mem_append.1 ht with h1 | h1
          · exact h0 t h1
          · have : t = s := by simpa using h1
            subst this
            simpa using h
      have HM : Hid (s ∈ ss) := List.mem_of_getElem? hs
      have HS2 : Hid (ss[k]? = some s) := hs
      clear hs
      go_wp2_with fail
      refine (rhas_any s x _ hx).mono ?_
      rintro e w3 ⟨rfl, hb3⟩
      have HB3 : Hid (Below w.heap.size w w3) := below_trans HB.out hb3 HB.out.size
      clear hb3 HB c0 c1 c2 c3
      obtain ⟨g', off', e', c0, c1, c2, c3⟩ := setsAt_cell HA.out HB3.out HS2.out
      cases e'
      go_wp2_with fail
      refine (rhas_any s y _ hy).mono ?_
      rintro e w4 ⟨rfl, hb4⟩
      have HB4 : Hid (Below w.heap.size w w4) := below_trans HB3.out hb4 HB3.out.size
      clear hb4 HB3 c0 c1 c2 c3
      by_cases hq : s x = s y
      · have HT2 : Hid (Pt.sameB (ss.take (k + 1)) x y = true) := by show _ = _; rw [HT.out, hq]; simp
        have hne : (s x == s y) = true := by simp [hq]
        have hne2 : (s x != s y) = false := by simp [hq]
        clear hq
        go_wp2
        go_roundw
        case rel => exact ⟨k + 1, by omega, by go_num, HT2, HB4⟩
        case measure => simp [intOf]; omega
      · have HR : Hid (Pt.sameB ss x y = false) := by
          show _ = _
          cases h : Pt.sameB ss x y
          · rfl
          · exact absurd (Pt.sameB_iff.1 h s HM.out) hq
        have hne : (s x == s y) = false := by simp [hq]
        have hne2 : (s x != s y) = true := by simp [hq]
        clear hq
        go_wp2
        go_ret
        rw [HR.out]
        exact ⟨rfl, HB4.out⟩
    · have hge : ¬ (k : Int) < (n : Int) := by omega
      have HE : Hid (Pt.sameB ss x y = true) := by
        have h := HY.out
        rw [List.take_of_length_le (by rw [← HN.out]; omega)] at h
        exact h
      go_wp2
      go_ret
      rw [HE.out]
      exact ⟨rfl, HB.out⟩
end Go.Proofs.Ytemmicnhnaafmaa

/- The document's Classes of at most 64 sets. -/
namespace Go.Proofs.Ytemmicnhnaafmaa
open Go.RowKit

/-- the classes while byte k is looked at: the first c classes are asked -/
def inn (ss : List Oct.S) (k c : Nat) (j : Nat) : Int := if j = k then (if Pt.isNew (Pt.sameB ss) k = false ∧ Pt.cls (Pt.sameB ss) k < c then (Pt.cls (Pt.sameB ss) k : Nat) else -1) else soFar ss k j
theorem inn_zero (ss : List Oct.S) (k : Nat) : (fun j => if j = k then (-1 : Int) else soFar ss k j) = inn ss k 0 := by
  funext j
  unfold inn
  by_cases e : j = k
  · rw [if_pos e, if_pos e, if_neg (by omega)]
  · rw [if_neg e, if_neg e]
theorem inn_yes {ss : List Oct.S} {k c a : Nat} (h1 : (Pt.news (Pt.sameB ss) k)[c]? = some a) (h2 : Pt.sameB ss a k = true) : (fun j => if j = k then ((c : Nat) : Int) else inn ss k c j) = inn ss k (c + 1) := by
  have E := Pt.sameB_eqv ss
  have h3 := Pt.news_only E h1 h2 rfl
  obtain ⟨h4, h5, h6⟩ := Pt.news_at h1
  have h7 : Pt.isNew (Pt.sameB ss) k = false := by
    cases h : Pt.isNew (Pt.sameB ss) k
    · rfl
    · have := Pt.isNew_iff.1 h a h4
      rw [h2] at this
      cases this
  funext j
  unfold inn
  by_cases e : j = k
  · rw [if_pos e, if_pos e, if_pos ⟨h7, by omega⟩, ← h3]
  · rw [if_neg e, if_neg e, if_neg e]
theorem inn_no {ss : List Oct.S} {k c a : Nat} (h1 : (Pt.news (Pt.sameB ss) k)[c]? = some a) (h2 : Pt.sameB ss a k = false) : inn ss k c = inn ss k (c + 1) := by
  have E := Pt.sameB_eqv ss
  funext j
  unfold inn
  by_cases e : j = k
  · rw [if_pos e, if_pos e]
    cases h : Pt.isNew (Pt.sameB ss) k
    · obtain ⟨d, d1, d2, d3, d4⟩ := Pt.old_ex E h
      have h8 := Pt.at_news d1 d3
      by_cases hc : Pt.cls (Pt.sameB ss) k = c
      · rw [← d4, hc] at h8
        rw [h8] at h1
        cases h1
        rw [d2] at h2
        cases h2
      · by_cases hl : Pt.cls (Pt.sameB ss) k < c
        · rw [if_pos ⟨rfl, hl⟩, if_pos ⟨rfl, by omega⟩]
        · rw [if_neg (by omega), if_neg (by omega)]
    · rw [if_neg (by simp), if_neg (by simp)]
  · rw [if_neg e, if_neg e]
theorem inn_at (ss : List Oct.S) (k c : Nat) : inn ss k c k = if Pt.isNew (Pt.sameB ss) k = false ∧ Pt.cls (Pt.sameB ss) k < c then ((Pt.cls (Pt.sameB ss) k : Nat) : Int) else -1 := by unfold inn; rw [if_pos rfl]
theorem inn_old {ss : List Oct.S} {k : Nat} (h : Pt.isNew (Pt.sameB ss) k = false) : inn ss k (Pt.cnt (Pt.sameB ss) k) = soFar ss (k + 1) ∧ inn ss k (Pt.cnt (Pt.sameB ss) k) k = (Pt.cls (Pt.sameB ss) k : Nat) := by
  have E := Pt.sameB_eqv ss
  obtain ⟨d, d1, d2, d3, d4⟩ := Pt.old_ex E h
  have hlt : Pt.cls (Pt.sameB ss) k < Pt.cnt (Pt.sameB ss) k := by rw [d4]; exact Pt.cnt_lt d1 d3
  refine ⟨?_, by rw [inn_at, if_pos ⟨h, hlt⟩]⟩
  rw [← soFar_succ]
  funext j
  unfold inn
  by_cases e : j = k
  · rw [if_pos e, if_pos e, if_pos ⟨h, hlt⟩]
  · rw [if_neg e, if_neg e]
theorem inn_new {ss : List Oct.S} {k c : Nat} (h : Pt.isNew (Pt.sameB ss) k = true) : inn ss k c k = -1 ∧ (fun j => if j = k then ((Pt.cnt (Pt.sameB ss) k : Nat) : Int) else inn ss k c j) = soFar ss (k + 1) := by
  have E := Pt.sameB_eqv ss
  refine ⟨by rw [inn_at, if_neg (by rw [h]; simp)], ?_⟩
  rw [← soFar_succ, Pt.cls_new E h]
  funext j
  unfold inn
  by_cases e : j = k
  · rw [if_pos e, if_pos e]
  · rw [if_neg e, if_neg e, if_neg e]
structure Rc (ss : List Oct.S) (w u : World) (M : Nat) (v : Value) (k : Nat) (g : Nat → Int) : Prop where
  arr : AB u (M + 1) g
  res : AB u M (fun _ => 0)
  row : RowI u (M + 2) v (Pt.news (Pt.sameB ss) k)
  low : Below M w u
theorem Rc.later {ss : List Oct.S} {w u u' : World} {M k : Nat} {v : Value} {g : Nat → Int} (h : Rc ss w u M v k g) (hb : Below u.heap.size u u') : Rc ss w u' M v k g :=
  ⟨h.arr.later hb, h.res.later hb, h.row.keep (fun b _ hlt => hb.block b hlt), h.low.trans (hb.mono (by have := h.arr.lt; omega))⟩
theorem Rc.set {ss : List Oct.S} {w u : World} {M k : Nat} {v : Value} {g : Nat → Int} (h : Rc ss w u M v k g) (i : Nat) (x : Int) : Rc ss w (u.setCell ⟨M + 1, i, none⟩ (.int .i64 x)) M v k (fun j => if j = i then x else g j) :=
  ⟨h.arr.set i x, h.res.same (Below.heap_setCell u ⟨M + 1, i, none⟩ _ M (by simp)), h.row.keep (fun b hb _ => Below.heap_setCell u ⟨M + 1, i, none⟩ _ b (by simp; omega)), h.low.setCell (by simp) _⟩
set_option maxRecDepth 20000 in
set_option maxHeartbeats 4000000 in
theorem rclasses_any (a : Option Addr) (n cap : Nat) (ss : List Oct.S) (w : World) (hn : n = ss.length) (hl : n ≤ 64) (hat : SetsAt w a ss) :
    Calls Try.prog 19 #[.slice a n cap] w (SplitPost ss w) := by
  have HA : Hid (SetsAt w a ss) := hat
  have HN : Hid (n = ss.length) := hn
  have hz := zeroArr
  have k1 : Below w.heap.size w (w.alloc (.cells (cv fun _ => 0) 38)) := (Below.refl _ _).alloc (Nat.le_refl _) _
  have k2 := k1.alloc k1.size (.cells (cv fun _ => 0) 38)
  have a0 := (ab_new w (fun _ => 0)).later (w' := (w.alloc (.cells (cv fun _ => 0) 38)).alloc (.cells (cv fun _ => 0) 38)) ((Below.refl _ _).alloc (Nat.le_refl _) _)
  have a1 := ab_new (w.alloc (.cells (cv fun _ => 0) 38)) (fun _ => 0)
  have e0 : soFar ss 0 = fun _ => 0 := by funext j; unfold soFar; rw [if_neg (by omega)]
  have H0 : Hid (Rc ss w ((w.alloc (.cells (cv fun _ => 0) 38)).alloc (.cells (cv fun _ => 0) 38)) w.heap.size (.slice none 0 0) 0 (soFar ss 0)) := by
    refine ⟨?_, a0, rowI_nil _ _, k2⟩
    rw [e0]
    simpa using a1
  clear k1 k2 a0 a1 e0 hat hn
  go_enter Try.func19, Try.ntmps19
  go_wp2_with fail
  obtain ⟨M, hM⟩ : ∃ M, w.heap.size = M := ⟨_, rfl⟩
  have HM : Hid (w.heap.size = M) := hM
  rw [hM] at H0 ⊢
  clear hM hz
  go_loopw [5, 6] (fun v i u => ∃ (k : Nat) (vv : Value), vv = v ∧ k ≤ 256 ∧ i = .int .i64 (k : Nat) ∧ Hid (Rc ss w u M vv k (soFar ss k))) (fun _ i _ => 256 - (intOf i).toNat)
  case atStart => exact ⟨0, _, rfl, by omega, rfl, H0⟩
  case round =>
    clear H0
    obtain ⟨k, vv, rfl, hk, rfl, HR⟩ := hrel
    obtain ⟨ra, rc, rv, hrl, hrm⟩ := HR.out.row.form
    subst rv
    have hcn := Pt.news_length (r := Pt.sameB ss) k
    have hcl : Pt.cnt (Pt.sameB ss) k ≤ k := Pt.cnt_le k
    rw [hcn] at HR hrl ⊢
    obtain ⟨m, hm⟩ : ∃ m, m = Pt.cnt (Pt.sameB ss) k := ⟨_, rfl⟩
    rw [← hm] at HR hrl hcl ⊢
    have HMM : Hid (m = Pt.cnt (Pt.sameB ss) k) := hm
    have HNL : Hid ((Pt.news (Pt.sameB ss) k).length = m) := by show _ = _; rw [hcn, hm]
    clear hcn hm
    by_cases hlt : k < 256
    · have hlt' : (k : Int) < 256 := by omega
      obtain ⟨ca, fa⟩ := HR.out.arr.cell hlt
      have HR1 : Hid (Rc ss w (wr.setCell ⟨M + 1, k, none⟩ (.int .i64 (-1))) M (.slice ra m rc) k (inn ss k 0)) := by
        have h := HR.out.set k (-1)
        rw [inn_zero] at h
        exact h
      clear HR
      go_wp2_with fail
      clear ca fa
      go_loopw [7] (fun i u => ∃ c : Nat, c ≤ m ∧ i = .int .i64 (c : Nat) ∧ Hid (Rc ss w u M (.slice ra m rc) k (inn ss k c))) (fun i _ => m - (intOf i).toNat)
      case atStart => exact ⟨0, Nat.zero_le _, rfl, HR1⟩
      case round =>
        clear HR1
        obtain ⟨c, hcm, rfl, HR2⟩ := hrel
        by_cases hc : c < m
        · have hc' : (c : Int) < (m : Int) := by omega
          obtain ⟨x, hx⟩ : ∃ x, (Pt.news (Pt.sameB ss) k)[c]? = some x := ⟨_, List.getElem?_eq_getElem (by rw [HNL.out]; exact hc)⟩
          obtain ⟨g, rfl, cx⟩ := HR2.out.row.at hx
          have hx2 := Pt.news_at hx
          have HX : Hid ((Pt.news (Pt.sameB ss) k)[c]? = some x) := hx
          have hxl : x < 256 := by omega
          clear hx hx2
          go_wp2_with fail
          refine (apart_any a n cap x k ss _ HN.out hl (setsAt_later (by rw [HM.out]; exact HR2.out.low) HA.out) hxl hlt).mono ?_
          rintro e w3 ⟨rfl, hb3⟩
          have HR3 : Hid (Rc ss w w3 M (.slice (some ⟨g, 0, none⟩) m rc) k (inn ss k c)) := HR2.out.later hb3
          clear hb3 HR2 cx
          obtain ⟨ca, fa⟩ := HR3.out.arr.cell hlt
          cases hsb : Pt.sameB ss x k
          · have HR4 : Hid (Rc ss w w3 M (.slice (some ⟨g, 0, none⟩) m rc) k (inn ss k (c + 1))) := by
              have h := HR3.out
              rw [inn_no HX.out hsb] at h
              exact h
            clear hsb HR3
            go_wp2
            go_roundw
            case rel => exact ⟨c + 1, by omega, by go_num, HR4⟩
            case measure => simp [intOf]; omega
          · have HR4 : Hid (Rc ss w (w3.setCell ⟨M + 1, k, none⟩ (.int .i64 (c : Nat))) M (.slice (some ⟨g, 0, none⟩) m rc) k (inn ss k (c + 1))) := by
              have h := HR3.out.set k (c : Nat)
              rw [inn_yes HX.out hsb] at h
              exact h
            clear hsb HR3
            go_wp2
            go_roundw
            case rel => exact ⟨c + 1, by omega, by go_num, HR4⟩
            case measure => simp [intOf]; omega
        · have hc' : ¬ (c : Int) < (m : Int) := by omega
          obtain rfl : c = m := by omega
          obtain ⟨ca, fa⟩ := HR2.out.arr.cell hlt
          cases hnew : Pt.isNew (Pt.sameB ss) k
          · obtain ⟨h1, h2⟩ := inn_old hnew
            rw [← HMM.out] at h1 h2
            have HR3 : Hid (Rc ss w wr M (.slice ra c rc) (k + 1) (soFar ss (k + 1))) := by
              have h := HR2.out
              rw [h1] at h
              refine ⟨h.arr, h.res, ?_, h.low⟩
              have e : Pt.news (Pt.sameB ss) (k + 1) = Pt.news (Pt.sameB ss) k := by show _ ++ _ = _; rw [if_neg (by rw [hnew]; decide)]; simp
              rw [e]
              exact h.row
            rw [h2] at ca
            obtain ⟨z, hz⟩ : ∃ z, z = Pt.cls (Pt.sameB ss) k := ⟨_, rfl⟩
            rw [← hz] at ca
            have hzz : ¬ (z : Int) < 0 := by omega
            clear hz h1 h2 hnew HR2 HMM
            go_wp2
            go_roundw
            case rel => exact ⟨k + 1, _, rfl, by omega, by go_num, HR3⟩
            case measure => simp [intOf]; omega
          · obtain ⟨h1, h2⟩ := inn_new (c := c) hnew
            rw [← HMM.out] at h2
            rw [h1] at ca
            have HR3 : Hid (Rc ss w (wr.setCell ⟨M + 1, k, none⟩ (.int .i64 (c : Nat))) M (.slice ra c rc) k (soFar ss (k + 1))) := by
              have h := HR2.out.set k (c : Nat)
              rw [h2] at h
              exact h
            have HE : Hid (Pt.news (Pt.sameB ss) (k + 1) = Pt.news (Pt.sameB ss) k ++ [k]) := by show _ ++ _ = _; rw [if_pos hnew]
            obtain ⟨w5, hw5⟩ : ∃ w5, wr.setCell ⟨M + 1, k, none⟩ (.int .i64 (c : Nat)) = w5 := ⟨_, rfl⟩
            rw [hw5] at HR3
            have HW5 : Hid (wr.setCell ⟨M + 1, k, none⟩ (.int .i64 (c : Nat)) = w5) := hw5
            have kk : Below w5.heap.size w5 (w5.alloc (.cells #[.int .i64 (k : Nat)] 3)) := (Below.refl _ _).alloc (Nat.le_refl _) _
            have HR5 : Hid (Rc ss w (w5.alloc (.cells #[.int .i64 (k : Nat)] 3)) M (.slice ra c rc) k (soFar ss (k + 1))) := HR3.out.later kk
            have hcc : (w5.alloc (.cells #[.int .i64 (k : Nat)] 3)).cell? ⟨w5.heap.size, 0, none⟩ = some (.int .i64 (k : Nat)) := by simp
            have hb5 : M + 2 ≤ (w5.alloc (.cells #[.int .i64 (k : Nat)] 3)).heap.size := by have := HR3.out.arr.lt; simp; omega
            have HB5 : Hid (M + 2 ≤ (w5.alloc (.cells #[.int .i64 (k : Nat)] 3)).heap.size) := hb5
            have HCC : Hid ((w5.alloc (.cells #[.int .i64 (k : Nat)] 3)).cell? ⟨w5.heap.size, 0, none⟩ = some (.int .i64 (k : Nat))) := hcc
            have HLN : Hid ((Pt.news (Pt.sameB ss) k).length ≤ 2000000) := by show _ ≤ _; rw [HNL.out]; omega
            clear h1 h2 hnew HR2 HMM HR3 hw5 kk hcc hb5
            go_upto_region 15 with fail
            rw [HW5.out]
            clear HW5 ca fa
            go_wp2_with (at_builtin; go_must (refine wpList_append_int rfl _ _ rfl (M + 2) _ (Pt.news (Pt.sameB ss) k) rfl HR5.out.row ⟨w5.heap.size, 0, none⟩ 1 k rfl HCC.out HLN.out HB5.out ?_; intro g6 c6 w6 hr6 hg6; have HR6 : Hid (RowI w6 (M + 2) (.slice (some ⟨g6, 0, none⟩) ((Pt.news (Pt.sameB ss) k).length + 1) c6) (Pt.news (Pt.sameB ss) k ++ [k])) := hr6; have HG6 : Hid ((w5.alloc (.cells #[.int .i64 (k : Nat)] 3)).grownBy w6 (Value.slice ra c rc).ownBlock) := hg6; clear hr6 hg6))
            go_roundw
            case rel =>
              refine ⟨k + 1, _, rfl, by omega, by go_num, ?_⟩
              have h := HR5.out
              have ho := h.row.own
              refine ⟨h.arr.same (HG6.out.block _ h.arr.lt ?_), h.res.same (HG6.out.block _ h.res.lt ?_), by rw [HE.out]; exact HR6.out, ?_⟩
              · intro e
                have := (ho _ e.symm).1
                omega
              · intro e
                have := (ho _ e.symm).1
                omega
              · exact h.low.grown HG6.out (by have := h.arr.lt; omega) (fun b e => by have := (ho _ e).1; omega)
            case measure => simp [intOf]; omega
    · have hge : ¬ (k : Int) < 256 := by omega
      obtain rfl : k = 256 := by omega
      have hE : cv (soFar ss 256) = cv (clsV ss) := cv_congr (fun i hi => by unfold soFar clsV; rw [if_pos hi])
      have HRR : Hid (AB (wr.setRow M (cv (clsV ss))) M (clsV ss)) := HR.out.res.put _
      have HL : Hid (Below M w (wr.setRow M (cv (clsV ss)))) := below_row HR.out.low (Nat.le_refl _) _
      have HAR : Hid (AB wr (M + 1) (clsV ss)) := by
        have h := HR.out.arr
        show wr.heap[M + 1]? = _
        rw [← hE]
        exact h
      have HRS := HR.out.res
      clear hE
      go_wp2_with (first | refine wpList_load_arr rfl (.tmp 4) rfl HAR.out rfl ?_ | refine wpList_store_arr rfl (.tmp 2) (.tmp 45) rfl HRS rfl rfl ?_)
      refine bodyPost_ret (results_arr_int rfl _ _ HRR.out (v := .int .i64 (m : Nat)) rfl rfl) rfl ?_
      refine ⟨?_, by rw [HM.out]; exact HL.out⟩
      rw [HMM.out]
end Go.Proofs.Ytemmicnhnaafmaa
