/- part.Sets: the sets of the edges that take a byte, each once, by a map of sets. -/
import Derived.Test.YtemmicnhnaafmaaG14
namespace Go.Proofs.Ytemmicnhnaafmaa
open Go.RowKit Go.Maps

def w4 (t : Oct.S) : Nat × Nat × Nat × Nat := (Oct.word t 0, Oct.word t 1, Oct.word t 2, Oct.word t 3)
theorem w4_good (t : Oct.S) : good4 (w4 t) := ⟨Oct.word_lt t 0, Oct.word_lt t 1, Oct.word_lt t 2, Oct.word_lt t 3⟩
theorem w4_eq (t s : Oct.S) : decide (w4 t = w4 s) = eqS t s := by
  rw [Bool.eq_iff_iff]
  simp [w4, eqS, and_assoc]
def Fm (L : List Oct.S) (q : Nat × Nat × Nat × Nat) : Option Value := if (L.any fun t => decide (w4 t = q)) = true then some (.agg #[]) else none
theorem Fm_at (L : List Oct.S) (s : Oct.S) : Fm L (w4 s) = if (L.any fun t => eqS t s) = true then some (.agg #[]) else none := by
  unfold Fm
  have : (fun t => decide (w4 t = w4 s)) = fun t => eqS t s := by funext t; exact w4_eq t s
  rw [this]
theorem Fm_put (L : List Oct.S) (s : Oct.S) : (fun y => if y = w4 s then some (Value.agg #[]) else Fm L y) = Fm (L ++ [s]) := by
  funext y
  unfold Fm
  rw [List.any_append]
  by_cases e : y = w4 s
  · subst e
    simp
  · rw [if_neg e]
    have : ¬ w4 s = y := fun h => e h.symm
    simp [this]
theorem wpList_append_setsG {w : World} {ops : Array Oper} {rest : List Oper} {o : Oper} {a : Act} {Q : Exit → Act → World → Prop} (hgd : o.guard = none) (s x : Operand)
    (ho : o.op = .call { callee := .builtin .append, args := #[s, x], argTypes := #[27, 27] })
    (B : Nat) (v : Value) (xs : List Oct.S) (hs : a.eval s = v) (hown : OwnsS w B v xs) (hB : B ≤ w.heap.size) (p : Option Addr) (cap n : Nat) (zs : List Oct.S) (hn : n = zs.length) (hx : a.eval x = .slice p n cap) (hb : SetsAt w p zs)
    (hl : xs.length + zs.length ≤ 1000) (hnil : zs = [] → xs = [])
    (h : ∀ v' w', OwnsS w' B v' (xs ++ zs) → w.grownBy w' v.ownBlock → wpList Try.prog ops Q rest (a.put o.dst v') w') : wpList Try.prog ops Q (o :: rest) a w := by
  subst hn
  refine wpList_plain hgd fun K hK => ?_
  obtain ⟨v', w', hr, h2, h3⟩ := run_append_setsN w o.type B v xs hown p cap zs hb (by omega) hB hnil
  unfold Oper.wp execOp
  simp only [ho, resolve, invoke, builtin, Sem.run_bind, Sem.run_pure, Result.andThen_ok, List.map_toArray, List.map_cons, List.map_nil, hs, hx, hr]
  exact hK _ _ (h v' w' h2 h3)
theorem OwnsS.keepB {w w' : World} {B : Nat} {v : Value} {l : List Oct.S} (h : OwnsS w B v l) (hk : ∀ b, B ≤ b → b < w.heap.size → w'.heap[b]? = w.heap[b]?) : OwnsS w' B v l := by
  refine ⟨⟨h.1.1, ?_⟩, h.2⟩
  rcases h.1.2 with h2 | ⟨g, cap, cur, hv, hBg, hg, rest⟩
  · exact Or.inl h2
  · exact Or.inr ⟨g, cap, cur, hv, hBg, (hk g hBg (Array.getElem?_eq_some_iff.1 hg).1).trans hg, rest⟩
/-- the state of the loop -/
structure Ss (w u : World) (M : Nat) (S : Int) (ea ra : Option Addr) (en ec rn rc : Nat) (vv : Value) (L : List Oct.S) : Prop where
  mach : MBk u M S ea en ec ra rn rc
  map : MapA 31 kv4 good4 (.agg #[]) u (M + 1) L.length (Fm L)
  row : OwnsS u (M + 1 + 1) vv L
  low : Below M w u
theorem Ss.later {w u u' : World} {M : Nat} {S : Int} {ea ra : Option Addr} {en ec rn rc : Nat} {vv : Value} {L : List Oct.S} (h : Ss w u M S ea ra en ec rn rc vv L) (hb : Below u.heap.size u u') : Ss w u' M S ea ra en ec rn rc vv L :=
  ⟨h.mach.later hb, h.map.later hb, h.row.later hb, h.low.trans (hb.mono (by have := h.mach.lt; omega))⟩
set_option maxRecDepth 20000 in
set_option maxHeartbeats 4000000 in
theorem psets_any (S : Int) (ea ra : Option Addr) (en ec rn rc : Nat) (es : List Eg) (w : World) (hen : en = es.length) (h300 : en ≤ 400) (hE : EA w ea es) :
    Calls Try.prog 9 #[.agg #[.int .i64 S, .slice ea en ec, .slice ra rn rc]] w (SetsPost es w) := by
  have HN : Hid (en = es.length) := hen
  have HE : Hid (EA w ea es) := hE
  have hm0 := mbk_new w S ea ra en ec rn rc
  obtain ⟨w1, hw1⟩ : ∃ w1, w.alloc (.cells #[.int .i64 S, .slice ea en ec, .slice ra rn rc] 25) = w1 := ⟨_, rfl⟩
  have k1 : Below w.heap.size w w1 := by rw [← hw1]; exact (Below.refl _ _).alloc (Nat.le_refl _) _
  have hs1 : w1.heap.size = w.heap.size + 1 := by rw [← hw1]; simp
  rw [hw1] at hm0
  have H0 : Hid (Ss w (w1.alloc (.map #[] 0)) w.heap.size S ea ra en ec rn rc (.slice none 0 0) []) := by
    have h := mapA_made w1 31 kv4 good4 (.agg #[])
    rw [hs1] at h
    exact ⟨hm0.later ((Below.refl _ _).alloc (Nat.le_refl _) _), h, ownsS_nil _ _, k1.alloc k1.size _⟩
  have HW1 : Hid (w.alloc (.cells #[.int .i64 S, .slice ea en ec, .slice ra rn rc] 25) = w1) := hw1
  have HS1 : Hid (w1.heap.size = w.heap.size + 1) := hs1
  have hmm := @run_makeMap Try.prog
  obtain ⟨n0, n1, n2⟩ := H0.out.mach.cells
  clear hen hE hm0 hw1 k1 hs1
  go_enter Try.func9, Try.ntmps9
  go_upto_region 1 with fail
  rw [HW1.out]
  clear HW1
  go_upto_region 3 with fail
  rw [HS1.out]
  obtain ⟨w2, hw2⟩ : ∃ w2, w1.alloc (.map #[] 0) = w2 := ⟨_, rfl⟩
  rw [hw2] at H0 n0 n1 n2 ⊢
  obtain ⟨M, hM⟩ : ∃ M, w.heap.size = M := ⟨_, rfl⟩
  rw [hM] at H0 n0 n1 n2 ⊢
  have HM : Hid (w.heap.size = M) := hM
  clear hw2 hM HS1 hmm
  go_wp2_with fail
  clear n0 n1 n2
  go_loopw [3, 13] (fun v i u => ∃ (k : Nat) (vv : Value), vv = v ∧ k ≤ en ∧ i = .int .i64 (k : Nat) ∧ Hid (Ss w u M S ea ra en ec rn rc vv (dsE (es.take k)))) (fun _ i _ => en - (intOf i).toNat)
  case atStart => exact ⟨0, _, rfl, Nat.zero_le _, rfl, H0⟩
  case round =>
    clear H0
    obtain ⟨k, vv, rfl, hk, rfl, HS⟩ := hrel
    by_cases hlt : k < en
    · have hlt' : (k : Int) < (en : Int) := by omega
      obtain ⟨e, he⟩ : ∃ e, es[k]? = some e := ⟨_, List.getElem?_eq_getElem (by rw [← HN.out]; exact hlt)⟩
      obtain ⟨g, off, rfl, e0, e1, e2, e3, e4, e5, e6⟩ := (HE.out.later (by rw [HM.out]; exact HS.out.low)).nth he
      have HDT : Hid (dsE (es.take (k + 1)) = stepE (dsE (es.take k)) e) := dsE_take he
      have hdl := dsE_le (es.take k)
      have HDL : Hid ((dsE (es.take k)).length ≤ 400) := by show _ ≤ _; rw [List.length_take] at hdl; omega
      obtain ⟨L, hL⟩ : ∃ L, L = dsE (es.take k) := ⟨_, rfl⟩
      rw [← hL] at HDT HDL HS
      clear he hL hdl
      obtain ⟨ek, ef, et, ts⟩ := e
      simp only at e0 e1 e2 e3 e4 e5 e6
      have k7 : Below wr.heap.size wr (wr.alloc (.cells #[.int .i64 ek, .int .i64 ef, .int .i64 et, .int .u64 (Oct.word ts 0 : Nat), .int .u64 (Oct.word ts 1 : Nat), .int .u64 (Oct.word ts 2 : Nat), .int .u64 (Oct.word ts 3 : Nat)] 33)) := (Below.refl _ _).alloc (Nat.le_refl _) _
      have hn7 := heap_alloc_new wr (.cells #[.int .i64 ek, .int .i64 ef, .int .i64 et, .int .u64 (Oct.word ts 0 : Nat), .int .u64 (Oct.word ts 1 : Nat), .int .u64 (Oct.word ts 2 : Nat), .int .u64 (Oct.word ts 3 : Nat)] 33)
      obtain ⟨w7, hw7⟩ : ∃ w7, wr.alloc (.cells #[.int .i64 ek, .int .i64 ef, .int .i64 et, .int .u64 (Oct.word ts 0 : Nat), .int .u64 (Oct.word ts 1 : Nat), .int .u64 (Oct.word ts 2 : Nat), .int .u64 (Oct.word ts 3 : Nat)] 33) = w7 := ⟨_, rfl⟩
      obtain ⟨P, hP⟩ : ∃ P, wr.heap.size = P := ⟨_, rfl⟩
      rw [hw7] at k7 hn7
      rw [hP] at hn7
      have HW7 : Hid (wr.alloc (.cells #[.int .i64 ek, .int .i64 ef, .int .i64 et, .int .u64 (Oct.word ts 0 : Nat), .int .u64 (Oct.word ts 1 : Nat), .int .u64 (Oct.word ts 2 : Nat), .int .u64 (Oct.word ts 3 : Nat)] 33) = w7) := hw7
      have HP7 : Hid (wr.heap.size = P) := hP
      have HS7 : Hid (Ss w w7 M S (some ⟨g, off, none⟩) ra en ec rn rc vv L) := HS.out.later k7
      have HN7 : Hid (w7.heap[P]? = some (.cells #[.int .i64 ek, .int .i64 ef, .int .i64 et, .int .u64 (Oct.word ts 0 : Nat), .int .u64 (Oct.word ts 1 : Nat), .int .u64 (Oct.word ts 2 : Nat), .int .u64 (Oct.word ts 3 : Nat)] 33 (0, 0))) := hn7
      clear hw7 hP k7 HS hn7
      go_upto_region 6 with fail
      rw [HW7.out, HP7.out]
      clear HW7 HP7 e0 e1 e2 e3 e4 e5 e6
      have c0 : w7.cell? ⟨P, 0, none⟩ = some (.int .i64 ek) := by simp [World.cell?, HN7.out]
      have c3 : w7.cell? ⟨P, 3, none⟩ = some (.int .u64 (Oct.word ts 0 : Nat)) := by simp [World.cell?, HN7.out]
      have c4 : w7.cell? ⟨P, 4, none⟩ = some (.int .u64 (Oct.word ts 1 : Nat)) := by simp [World.cell?, HN7.out]
      have c5 : w7.cell? ⟨P, 5, none⟩ = some (.int .u64 (Oct.word ts 2 : Nat)) := by simp [World.cell?, HN7.out]
      have c6 : w7.cell? ⟨P, 6, none⟩ = some (.int .u64 (Oct.word ts 3 : Nat)) := by simp [World.cell?, HN7.out]
      by_cases h2 : ek = 2
      · subst h2
        have hlook0 := HS7.out.map.look law4 (mt := 52) (e := 53) (by kernel_rfl) (k := w4 ts) (by kernel_rfl) (w4_good ts) (key4 _ (w4_good ts))
        rw [Fm_at] at hlook0
        obtain ⟨q, hq⟩ : ∃ q, q = L.any fun t => eqS t ts := ⟨_, rfl⟩
        rw [← hq] at hlook0
        have HQ : Hid (q = L.any fun t => eqS t ts) := hq
        have HST : Hid (dsE (es.take (k + 1)) = if q = true then L else L ++ [ts]) := by
          show _ = _
          rw [HDT.out]
          unfold stepE
          simp only [← hq]
          cases q <;> simp
        have hze : ∀ u, (zeroValue 53).run Try.prog u = .ok (.agg #[]) u := fun u => by kernel_rfl
        clear hq
        cases q
        · have hlook : (Instr.lookup 52 (.map (some (M + 1))) (.agg #[.int .u64 (Oct.word ts 0 : Nat), .int .u64 (Oct.word ts 1 : Nat), .int .u64 (Oct.word ts 2 : Nat), .int .u64 (Oct.word ts 3 : Nat)]) true).run Try.prog w7 = .ok (.tuple #[.agg #[], .bool false]) w7 := hlook0
          have HST2 : Hid (dsE (es.take (k + 1)) = L ++ [ts]) := HST.out
          have k8 : Below w7.heap.size w7 (w7.alloc (.cells #[] 53)) := (Below.refl _ _).alloc (Nat.le_refl _) _
          have HS8 : Hid (Ss w (w7.alloc (.cells #[] 53)) M S (some ⟨g, off, none⟩) ra en ec rn rc vv L) := HS7.out.later k8
          have HN8 : Hid ((w7.alloc (.cells #[] 53)).heap[P]? = some (.cells #[.int .i64 2, .int .i64 ef, .int .i64 et, .int .u64 (Oct.word ts 0 : Nat), .int .u64 (Oct.word ts 1 : Nat), .int .u64 (Oct.word ts 2 : Nat), .int .u64 (Oct.word ts 3 : Nat)] 33 (0, 0))) := (k8.block P (Array.getElem?_eq_some_iff.1 HN7.out).1).trans HN7.out
          clear k8 hlook0
          go_upto_region 8 with fail
          obtain ⟨w8, hw8⟩ : ∃ w8, w7.alloc (.cells #[] 53) = w8 := ⟨_, rfl⟩
          rw [hw8] at HS8 HN8 ⊢
          clear hw8 hlook c0 c3 c4 c5 c6 HS7 HN7
          have c3 : w8.cell? ⟨P, 3, none⟩ = some (.int .u64 (Oct.word ts 0 : Nat)) := by simp [World.cell?, HN8.out]
          have c4 : w8.cell? ⟨P, 4, none⟩ = some (.int .u64 (Oct.word ts 1 : Nat)) := by simp [World.cell?, HN8.out]
          have c5 : w8.cell? ⟨P, 5, none⟩ = some (.int .u64 (Oct.word ts 2 : Nat)) := by simp [World.cell?, HN8.out]
          have c6 : w8.cell? ⟨P, 6, none⟩ = some (.int .u64 (Oct.word ts 3 : Nat)) := by simp [World.cell?, HN8.out]
          have hno : Fm L (w4 ts) = none := by rw [Fm_at, ← HQ.out]; rfl
          have hml : 1000 < maxLen := by decide
          have hdl := HDL.out
          obtain ⟨w9, hrun0, hm9, hgr, hsz⟩ := HS8.out.map.put law4 (mt := 52) (e := 53) (by kernel_rfl) (by omega) (w4_good ts) key4 kv4_inj hno (.agg #[])
          rw [Fm_put] at hm9
          have hrun : (Instr.mapUpdate 52 (.map (some (M + 1))) (.agg #[.int .u64 (Oct.word ts 0 : Nat), .int .u64 (Oct.word ts 1 : Nat), .int .u64 (Oct.word ts 2 : Nat), .int .u64 (Oct.word ts 3 : Nat)]) (.agg #[])).run Try.prog w8 = .ok () w9 := hrun0
          have hPM : P ≠ M + 1 := fun h => by
            have h1 := HS8.out.map
            obtain ⟨D, ⟨es', clock, hb, _⟩, _⟩ := h1
            rw [← h, HN8.out] at hb
            cases hb
          have hN9 : w9.heap[P]? = some (.cells #[.int .i64 2, .int .i64 ef, .int .i64 et, .int .u64 (Oct.word ts 0 : Nat), .int .u64 (Oct.word ts 1 : Nat), .int .u64 (Oct.word ts 2 : Nat), .int .u64 (Oct.word ts 3 : Nat)] 33 (0, 0)) := (hgr.block P (Array.getElem?_eq_some_iff.1 HN8.out).1 (by simpa using hPM)).trans HN8.out
          have d3 : w9.cell? ⟨P, 3, none⟩ = some (.int .u64 (Oct.word ts 0 : Nat)) := by simp [World.cell?, hN9]
          have d4 : w9.cell? ⟨P, 4, none⟩ = some (.int .u64 (Oct.word ts 1 : Nat)) := by simp [World.cell?, hN9]
          have d5 : w9.cell? ⟨P, 5, none⟩ = some (.int .u64 (Oct.word ts 2 : Nat)) := by simp [World.cell?, hN9]
          have d6 : w9.cell? ⟨P, 6, none⟩ = some (.int .u64 (Oct.word ts 3 : Nat)) := by simp [World.cell?, hN9]
          have hM8 := HS8.out.mach.lt
          have hL8 := HS8.out.map.lt
          have HM9 : Hid (MBk w9 M S (some ⟨g, off, none⟩) en ec ra rn rc) := HS8.out.mach.same (hgr.block M hM8 (by simp))
          have HR9 : Hid (OwnsS w9 (M + 1 + 1) vv L) := HS8.out.row.keepB (fun b hb hlt => hgr.block b hlt (by simp; omega))
          have HL9 : Hid (Below M w w9) := ⟨hgr.os.trans HS8.out.low.os, hgr.tape.trans HS8.out.low.tape, hgr.output.trans HS8.out.low.output, Nat.le_trans HS8.out.low.size hgr.size, fun b hb => (hgr.block b (by omega) (by simp; omega)).trans (HS8.out.low.block b hb)⟩
          have HMP9 : Hid (MapA 31 kv4 good4 (.agg #[]) w9 (M + 1) (L ++ [ts]).length (Fm (L ++ [ts]))) := by
            rw [List.length_append]
            exact hm9
          have k10 : Below w9.heap.size w9 (w9.alloc (.cells #[.int .u64 (Oct.word ts 0 : Nat), .int .u64 (Oct.word ts 1 : Nat), .int .u64 (Oct.word ts 2 : Nat), .int .u64 (Oct.word ts 3 : Nat)] 31)) := (Below.refl _ _).alloc (Nat.le_refl _) _
          have hsl : SL (w9.alloc (.cells #[.int .u64 (Oct.word ts 0 : Nat), .int .u64 (Oct.word ts 1 : Nat), .int .u64 (Oct.word ts 2 : Nat), .int .u64 (Oct.word ts 3 : Nat)] 31)) w9.heap.size [ts] := ⟨heap_alloc_new w9 _⟩
          have HSL : Hid (SetsAt (w9.alloc (.cells #[.int .u64 (Oct.word ts 0 : Nat), .int .u64 (Oct.word ts 1 : Nat), .int .u64 (Oct.word ts 2 : Nat), .int .u64 (Oct.word ts 3 : Nat)] 31)) (some ⟨w9.heap.size, 0, none⟩) [ts]) := hsl.at
          have HR10 : Hid (OwnsS (w9.alloc (.cells #[.int .u64 (Oct.word ts 0 : Nat), .int .u64 (Oct.word ts 1 : Nat), .int .u64 (Oct.word ts 2 : Nat), .int .u64 (Oct.word ts 3 : Nat)] 31)) (M + 1 + 1) vv L) := HR9.out.later k10
          have HM10 : Hid (MBk (w9.alloc (.cells #[.int .u64 (Oct.word ts 0 : Nat), .int .u64 (Oct.word ts 1 : Nat), .int .u64 (Oct.word ts 2 : Nat), .int .u64 (Oct.word ts 3 : Nat)] 31)) M S (some ⟨g, off, none⟩) en ec ra rn rc) := HM9.out.later k10
          have HMP10 : Hid (MapA 31 kv4 good4 (.agg #[]) (w9.alloc (.cells #[.int .u64 (Oct.word ts 0 : Nat), .int .u64 (Oct.word ts 1 : Nat), .int .u64 (Oct.word ts 2 : Nat), .int .u64 (Oct.word ts 3 : Nat)] 31)) (M + 1) (L ++ [ts]).length (Fm (L ++ [ts]))) := HMP9.out.later k10
          have HL10 : Hid (Below M w (w9.alloc (.cells #[.int .u64 (Oct.word ts 0 : Nat), .int .u64 (Oct.word ts 1 : Nat), .int .u64 (Oct.word ts 2 : Nat), .int .u64 (Oct.word ts 3 : Nat)] 31))) := HL9.out.trans (k10.mono (by omega))
          have HSZ : Hid (M + 1 + 1 ≤ (w9.alloc (.cells #[.int .u64 (Oct.word ts 0 : Nat), .int .u64 (Oct.word ts 1 : Nat), .int .u64 (Oct.word ts 2 : Nat), .int .u64 (Oct.word ts 3 : Nat)] 31)).heap.size) := by show _ ≤ _; simp; omega
          clear hno hml hdl hrun0 hm9 hgr hsz hPM hN9 hM8 hL8 HM9 HR9 HL9 HMP9 k10 hsl HS8 HN8
          go_wp2_with (at_builtin; go_must (refine wpList_append_setsG rfl _ _ rfl (M + 1 + 1) _ L rfl HR10.out HSZ.out (some ⟨w9.heap.size, 0, none⟩) 1 1 [ts] rfl rfl HSL.out (by have := HDL.out; simp; omega) (by simp) ?_; intro v11 w11 ho11 hg11; have HO11 : Hid (OwnsS w11 (M + 1 + 1) v11 (L ++ [ts])) := ho11; have HG11 : Hid ((w9.alloc (.cells #[.int .u64 (Oct.word ts 0 : Nat), .int .u64 (Oct.word ts 1 : Nat), .int .u64 (Oct.word ts 2 : Nat), .int .u64 (Oct.word ts 3 : Nat)] 31)).grownBy w11 vv.ownBlock) := hg11; clear ho11 hg11))
          go_roundw
          case rel =>
            refine ⟨k + 1, v11, rfl, by omega, by go_num, ?_⟩
            have hbk := HR10.out.block
            have hne : ∀ b, b < M + 1 + 1 → some b ≠ vv.ownBlock := fun b hb h => by have := hbk b h.symm; omega
            rw [HST2.out]
            exact ⟨HM10.out.same (HG11.out.block M HM10.out.lt (hne M (by omega))), HMP10.out.same (HG11.out.block (M + 1) HMP10.out.lt (hne (M + 1) (by omega))), HO11.out, HL10.out.grown HG11.out (by have := HM10.out.lt; omega) (fun b h => by have := hbk b h; omega)⟩
          case measure => simp [intOf]; omega
        · have hlook : (Instr.lookup 52 (.map (some (M + 1))) (.agg #[.int .u64 (Oct.word ts 0 : Nat), .int .u64 (Oct.word ts 1 : Nat), .int .u64 (Oct.word ts 2 : Nat), .int .u64 (Oct.word ts 3 : Nat)]) true).run Try.prog w7 = .ok (.tuple #[.agg #[], .bool true]) w7 := hlook0
          have HST2 : Hid (dsE (es.take (k + 1)) = L) := HST.out
          have HS8 : Hid (Ss w (w7.alloc (.cells #[] 53)) M S (some ⟨g, off, none⟩) ra en ec rn rc vv L) := HS7.out.later ((Below.refl _ _).alloc (Nat.le_refl _) _)
          clear hlook0
          go_wp2
          go_roundw
          case rel => exact ⟨k + 1, _, rfl, by omega, by go_num, by rw [HST2.out]; exact HS8⟩
          case measure => simp [intOf]; omega
      · have h2b : (ek != 2) = true := by simp [h2]
        have h2c : (ek == 2) = false := by simp [h2]
        have HST : Hid (dsE (es.take (k + 1)) = L) := by
          show _ = _
          rw [HDT.out]
          unfold stepE
          simp [h2]
        go_wp2
        go_roundw
        case rel => exact ⟨k + 1, _, rfl, by omega, by go_num, by rw [HST.out]; exact HS7⟩
        case measure => simp [intOf]; omega
    · have hge : ¬ (k : Int) < (en : Int) := by omega
      have HO2 : Hid (OwnsS wr (M + 1 + 1) vv (dsE es)) := by
        have h := HS.out.row
        rw [List.take_of_length_le (by rw [← HN.out]; omega)] at h
        exact h
      have HL : Hid (Below M w wr) := HS.out.low
      clear HS
      go_wp2
      go_ret
      refine ⟨vv, rfl, ?_, by rw [HM.out]; exact HL.out⟩
      have h := HO2.out
      refine ⟨⟨h.1.1, ?_⟩, h.2⟩
      rcases h.1.2 with h2 | ⟨g, c, cur, hv, hbg, rest⟩
      · exact Or.inl h2
      · exact Or.inr ⟨g, c, cur, hv, by rw [HM.out]; omega, rest⟩
end Go.Proofs.Ytemmicnhnaafmaa
