/- heronref09.Sets: the sets of the edges that take a byte, each once. -/
import Derived.Test.YtemmicnhnaafmaaG13
namespace Go.Proofs.Ytemmicnhnaafmaa
open Go.RowKit

def stepE (l : List Oct.S) (e : Eg) : List Oct.S := if (decide (e.k = 2) && !l.any fun t => eqS t e.s) = true then l ++ [e.s] else l
def dsE (es : List Eg) : List Oct.S := es.foldl stepE []
theorem dsE_snoc (es : List Eg) (e : Eg) : dsE (es ++ [e]) = stepE (dsE es) e := by simp [dsE]
theorem dsE_len : ∀ (es : List Eg) (l : List Oct.S), (es.foldl stepE l).length ≤ l.length + es.length
  | [], l => Nat.le_refl _
  | e :: es, l => by
    have := dsE_len es (stepE l e)
    have h2 : (stepE l e).length ≤ l.length + 1 := by unfold stepE; split <;> simp
    simp only [List.foldl_cons, List.length_cons]
    omega
theorem dsE_le (es : List Eg) : (dsE es).length ≤ es.length := by have := dsE_len es []; simpa [dsE] using this
theorem dsE_take {es : List Eg} {k : Nat} {e : Eg} (h : es[k]? = some e) : dsE (es.take (k + 1)) = stepE (dsE (es.take k)) e := by
  rw [List.take_add_one, h]
  exact dsE_snoc _ _
/-- edges that are read -/
abbrev EA (w : World) (a : Option Addr) (es : List Eg) : Prop := EAt (fun _ => True) w a es
theorem EA.later {w w' : World} {a : Option Addr} {es : List Eg} (h : EA w a es) (hb : Below w.heap.size w w') : EA w' a es := h.keep (fun _ _ _ => trivial) (fun b _ hlt => hb.block b hlt)
def SetsPost (es : List Eg) (w : World) (e : Ending) (w' : World) : Prop := ∃ v, e = .returned v ∧ OwnsS w' w.heap.size v (dsE es) ∧ Below w.heap.size w w'
/-- a machine's block -/
def MBk (w : World) (A : Nat) (S : Int) (ea : Option Addr) (en ec : Nat) (ra : Option Addr) (rn rc : Nat) : Prop := w.heap[A]? = some (.cells #[.int .i64 S, .slice ea en ec, .slice ra rn rc] 25 (0, 0))
theorem MBk.lt {w : World} {A : Nat} {S : Int} {ea ra : Option Addr} {en ec rn rc : Nat} (h : MBk w A S ea en ec ra rn rc) : A < w.heap.size := (Array.getElem?_eq_some_iff.1 h).1
theorem MBk.later {w w' : World} {A : Nat} {S : Int} {ea ra : Option Addr} {en ec rn rc : Nat} (h : MBk w A S ea en ec ra rn rc) (hb : Below w.heap.size w w') : MBk w' A S ea en ec ra rn rc := (hb.block A h.lt).trans h
theorem MBk.same {w w' : World} {A : Nat} {S : Int} {ea ra : Option Addr} {en ec rn rc : Nat} (h : MBk w A S ea en ec ra rn rc) (e : w'.heap[A]? = w.heap[A]?) : MBk w' A S ea en ec ra rn rc := e.trans h
theorem MBk.cells {w : World} {A : Nat} {S : Int} {ea ra : Option Addr} {en ec rn rc : Nat} (h : MBk w A S ea en ec ra rn rc) : w.cell? ⟨A, 0, none⟩ = some (.int .i64 S) ∧ w.cell? ⟨A, 1, none⟩ = some (.slice ea en ec) ∧ w.cell? ⟨A, 2, none⟩ = some (.slice ra rn rc) := by
  unfold MBk at h
  refine ⟨?_, ?_, ?_⟩ <;> simp [World.cell?, h]
theorem MBk.frozen {w : World} {A : Nat} {S : Int} {ea ra : Option Addr} {en ec rn rc : Nat} (h : MBk w A S ea en ec ra rn rc) (j : Nat) : w.frozen? ⟨A, j, none⟩ = false := by
  unfold MBk at h
  simp [World.frozen?, h]
theorem mbk_new (w : World) (S : Int) (ea ra : Option Addr) (en ec rn rc : Nat) : MBk (w.alloc (.cells #[.int .i64 S, .slice ea en ec, .slice ra rn rc] 25)) w.heap.size S ea en ec ra rn rc := heap_alloc_new w _
set_option maxRecDepth 20000 in
set_option maxHeartbeats 4000000 in
theorem rsets_any (S : Int) (ea ra : Option Addr) (en ec rn rc : Nat) (es : List Eg) (w : World) (hen : en = es.length) (h300 : en ≤ 400) (hE : EA w ea es) :
    Calls Try.prog 8 #[.agg #[.int .i64 S, .slice ea en ec, .slice ra rn rc]] w (SetsPost es w) := by
  have HN : Hid (en = es.length) := hen
  have HE : Hid (EA w ea es) := hE
  have HM := mbk_new w S ea ra en ec rn rc
  obtain ⟨w0, hw0⟩ : ∃ w0, w.alloc (.cells #[.int .i64 S, .slice ea en ec, .slice ra rn rc] 25) = w0 := ⟨_, rfl⟩
  have k0 : Below w.heap.size w w0 := by rw [← hw0]; exact (Below.refl _ _).alloc (Nat.le_refl _) _
  have hs0 : w0.heap.size = w.heap.size + 1 := by rw [← hw0]; simp
  rw [hw0] at HM
  have HW0 : Hid (w.alloc (.cells #[.int .i64 S, .slice ea en ec, .slice ra rn rc] 25) = w0) := hw0
  have HM0 : Hid (MBk w0 w.heap.size S ea en ec ra rn rc) := HM
  have HK0 : Hid (Below w.heap.size w w0) := k0
  have HE0 : Hid (EA w0 ea es) := hE.later k0
  clear hen hE HM hw0 k0
  go_enter Try.func8, Try.ntmps8
  go_upto_region 1 with fail
  rw [HW0.out]
  clear HW0
  go_wp2_with fail
  go_loopw [3, 4] (fun v i u => ∃ (k : Nat) (vv : Value), vv = v ∧ k ≤ en ∧ i = .int .i64 (k : Nat) ∧ Hid (OwnsS u w0.heap.size vv (dsE (es.take k))) ∧ Hid (Below w0.heap.size w0 u)) (fun _ i _ => en - (intOf i).toNat)
  case atStart => exact ⟨0, _, rfl, Nat.zero_le _, rfl, ownsS_nil _ _, Below.refl _ _⟩
  case round =>
    obtain ⟨k, vv, rfl, hk, rfl, HO, HB⟩ := hrel
    obtain ⟨m0, m1, m2⟩ := (HM0.out.later HB.out).cells
    by_cases hlt : k < en
    · have hlt' : (k : Int) < (en : Int) := by omega
      obtain ⟨e, he⟩ : ∃ e, es[k]? = some e := ⟨_, List.getElem?_eq_getElem (by rw [← HN.out]; exact hlt)⟩
      obtain ⟨g, off, rfl, e0, e1, e2, e3, e4, e5, e6⟩ := (HE0.out.later HB.out).nth he
      have HDT : Hid (dsE (es.take (k + 1)) = stepE (dsE (es.take k)) e) := dsE_take he
      have hdl := dsE_le (es.take k)
      have HDL : Hid ((dsE (es.take k)).length ≤ 400) := by show _ ≤ _; rw [List.length_take] at hdl; omega
      have HNT : Hid (es[k]? = some e) := he
      obtain ⟨L, hL⟩ : ∃ L, L = dsE (es.take k) := ⟨_, rfl⟩
      rw [← hL] at HDT HDL HO
      obtain ⟨la, lc, ev, hla, hlc⟩ := HO.out.at2
      subst ev
      obtain ⟨n, hn⟩ : ∃ n, n = L.length := ⟨_, rfl⟩
      rw [← hn] at HO ⊢
      have HLN : Hid (n = L.length) := hn
      have hn400 : n ≤ 400 := by rw [hn]; exact HDL.out
      have HLA : Hid (SetsAt wr la L) := hla
      obtain ⟨kb, hkb⟩ : ∃ kb, kb = decide (e.k = 2) := ⟨_, rfl⟩
      have hkq : (e.k == 2) = kb := by rw [hkb]; exact Bool.beq_eq_decide_eq _ _
      have HKB : Hid (kb = decide (e.k = 2)) := hkb
      clear he hL hdl hla hlc hn hkb HDL
      have hkq2 : decide (e.k = 2) = kb := by rw [← HKB.out]
      go_wp2_with fail
      obtain ⟨w5, hw5⟩ : ∃ w5, w5 = wr := ⟨_, rfl⟩
      subst hw5
      clear m0 m1 m2 e0 e1 e2 e3 e4 e5 e6
      go_loopw [5, 6] (fun b i u => ∃ (c : Nat) (d : Bool), c ≤ n ∧ i = .int .i64 (c : Nat) ∧ b = .bool d ∧ Hid (d = (kb && !((L.take c).any fun t => eqS t e.s))) ∧ Hid (Below w5.heap.size w5 u)) (fun _ i _ => n - (intOf i).toNat)
      case atStart => exact ⟨0, kb, Nat.zero_le _, rfl, rfl, (by show _ = _; simp), Below.refl _ _⟩
      case round =>
        obtain ⟨c, d, hc, rfl, rfl, HDD, HB6⟩ := hrel
        have HB5 : Hid (Below w0.heap.size w0 wr) := below_trans HB.out HB6.out HB.out.size
        by_cases hcn : c < n
        · have hcn' : (c : Int) < (n : Int) := by omega
          obtain ⟨t, ht⟩ : ∃ t, L[c]? = some t := ⟨_, List.getElem?_eq_getElem (by rw [← HLN.out]; exact hcn)⟩
          have HTT : Hid ((L.take (c + 1)).any (fun t => eqS t e.s) = ((L.take c).any (fun t => eqS t e.s) || eqS t e.s)) := by
            show _ = _
            rw [List.take_add_one, ht]
            simp
          have hne : Nonempty (Later wr) := ⟨⟨wr, Below.refl _ _⟩⟩
          have m1 : ∀ u : Later wr, u.at_.cell? ⟨w.heap.size, 1, none⟩ = some (.slice (some ⟨g, off, none⟩) en ec) := fun u => ((HM0.out.later HB5.out).later u.below).cells.2.1
          cases d
          · have HD2 : Hid (false = (kb && !((L.take (c + 1)).any fun t => eqS t e.s))) := by
              show _ = _
              have h := HDD.out
              rw [HTT.out]
              cases kb
              · rfl
              · have h3 : (L.take c).any (fun t => eqS t e.s) = true := by simpa using h
                rw [h3]
                rfl
            clear HTT ht
            go_upto_region 9 with fail
            refine wp_region_later (by kernel_rfl) (by kernel_rfl) ?_
            repeat (first
              | go_big_quiet_step (fail)
              | quiet_step (fail))
            refine wpQuiet_nil ?_
            intro _ hw'
            obtain ⟨u, hw''⟩ := hw'
            subst hw''
            have HB7 : Hid (Below w5.heap.size w5 u.at_) := below_trans HB6.out u.below HB6.out.size
            clear hne m1
            go_wp2
            go_roundw
            case rel => exact ⟨c + 1, false, by omega, by go_num, rfl, HD2, HB7⟩
            case measure => simp [intOf]; omega
          · obtain ⟨q, hq⟩ : ∃ q, q = eqS t e.s := ⟨_, rfl⟩
            have HD2 : Hid ((!q) = (kb && !((L.take (c + 1)).any fun t => eqS t e.s))) := by
              show _ = _
              have h := HDD.out
              rw [HTT.out, ← hq]
              cases kb
              · cases h
              · have h3 : (L.take c).any (fun t => eqS t e.s) = false := by simpa using h
                rw [h3]
                simp
            have heq : ∀ u, (Op.equalIn 10000 31 (.agg #[.int .u64 (Oct.word t 0 : Nat), .int .u64 (Oct.word t 1 : Nat), .int .u64 (Oct.word t 2 : Nat), .int .u64 (Oct.word t 3 : Nat)]) (.agg #[.int .u64 (Oct.word e.s 0 : Nat), .int .u64 (Oct.word e.s 1 : Nat), .int .u64 (Oct.word e.s 2 : Nat), .int .u64 (Oct.word e.s 3 : Nat)])).run Try.prog u = .ok q u := fun u => by
              rw [eq4_gen, hq]
              rfl
            obtain ⟨lb, lo, rfl, _⟩ := setsAt_cell HLA.out HB6.out ht
            have HLU : Hid (∀ u : Later wr, Below w5.heap.size w5 u.at_) := fun u => below_trans HB6.out u.below HB6.out.size
            have HEU : Hid (∀ u : Later wr, EA u.at_ (some ⟨g, off, none⟩) es) := fun u => HE0.out.later (below_trans HB5.out u.below HB5.out.size)
            have c0 : ∀ u : Later wr, u.at_.cell? ⟨lb, lo + c * 4, none⟩ = some (.int .u64 (Oct.word t 0 : Nat)) := fun u => by
              obtain ⟨_, _, e, h0, _⟩ := setsAt_cell HLA.out (HLU.out u) ht; cases e; exact h0
            have c1 : ∀ u : Later wr, u.at_.cell? ⟨lb, lo + c * 4 + 1, none⟩ = some (.int .u64 (Oct.word t 1 : Nat)) := fun u => by
              obtain ⟨_, _, e, _, h0, _⟩ := setsAt_cell HLA.out (HLU.out u) ht; cases e; exact h0
            have c2 : ∀ u : Later wr, u.at_.cell? ⟨lb, lo + c * 4 + 2, none⟩ = some (.int .u64 (Oct.word t 2 : Nat)) := fun u => by
              obtain ⟨_, _, e, _, _, h0, _⟩ := setsAt_cell HLA.out (HLU.out u) ht; cases e; exact h0
            have c3 : ∀ u : Later wr, u.at_.cell? ⟨lb, lo + c * 4 + 3, none⟩ = some (.int .u64 (Oct.word t 3 : Nat)) := fun u => by
              obtain ⟨_, _, e, _, _, _, h0⟩ := setsAt_cell HLA.out (HLU.out u) ht; cases e; exact h0
            have s3 : ∀ u : Later wr, u.at_.cell? ⟨g, off + k * 7 + 3, none⟩ = some (.int .u64 (Oct.word e.s 0 : Nat)) := fun u => by
              obtain ⟨_, _, e, _, _, _, h0, _⟩ := (HEU.out u).nth HNT.out; cases e; exact h0
            have s4 : ∀ u : Later wr, u.at_.cell? ⟨g, off + k * 7 + 3 + 1, none⟩ = some (.int .u64 (Oct.word e.s 1 : Nat)) := fun u => by
              obtain ⟨_, _, e, _, _, _, _, h0, _⟩ := (HEU.out u).nth HNT.out; cases e; exact h0
            have s5 : ∀ u : Later wr, u.at_.cell? ⟨g, off + k * 7 + 3 + 2, none⟩ = some (.int .u64 (Oct.word e.s 2 : Nat)) := fun u => by
              obtain ⟨_, _, e, _, _, _, _, _, h0, _⟩ := (HEU.out u).nth HNT.out; cases e; exact h0
            have s6 : ∀ u : Later wr, u.at_.cell? ⟨g, off + k * 7 + 3 + 3, none⟩ = some (.int .u64 (Oct.word e.s 3 : Nat)) := fun u => by
              obtain ⟨_, _, e, _, _, _, _, _, _, h0⟩ := (HEU.out u).nth HNT.out; cases e; exact h0
            clear HTT ht hq
            go_upto_region 9 with fail
            refine wp_region_later (by kernel_rfl) (by kernel_rfl) ?_
            repeat (first
              | go_big_quiet_step (fail)
              | quiet_step (fail))
            refine wpQuiet_nil ?_
            intro _ hw'
            obtain ⟨u, hw''⟩ := hw'
            subst hw''
            have HB7 : Hid (Below w5.heap.size w5 u.at_) := below_trans HB6.out u.below HB6.out.size
            clear hne m1
            clear c0 c1 c2 c3 s3 s4 s5 s6 heq
            go_wp2
            go_roundw
            case rel => exact ⟨c + 1, !q, by omega, by go_num, rfl, HD2, HB7⟩
            case measure => simp [intOf]; omega
        · have hcn' : ¬ (c : Int) < (n : Int) := by omega
          have HST : Hid (stepE L e = if d = true then L ++ [e.s] else L) := by
            have h := HDD.out
            rw [List.take_of_length_le (by rw [← HLN.out]; omega)] at h
            show _ = _
            unfold stepE
            rw [← HKB.out, ← h]
          obtain ⟨m0, m1, m2⟩ := (HM0.out.later HB5.out).cells
          have HO6 : Hid (OwnsS wr w0.heap.size (.slice la n lc) L) := HO.out.later HB6.out
          clear HDD
          cases d
          · have HST2 : Hid (dsE (es.take (k + 1)) = L) := by show _ = _; rw [HDT.out, HST.out]; rfl
            go_wp2
            go_roundw
            case rel => exact ⟨k + 1, _, rfl, by omega, by go_num, by rw [HST2.out]; exact HO6, HB5⟩
            case measure => simp [intOf]; omega
          · have HST2 : Hid (dsE (es.take (k + 1)) = L ++ [e.s]) := by show _ = _; rw [HDT.out, HST.out]; rfl
            obtain ⟨_, _, ee, e0, e1, e2, e3, e4, e5, e6⟩ := (HE0.out.later HB5.out).nth HNT.out
            cases ee
            obtain ⟨ts, hts⟩ : ∃ ts, ts = e.s := ⟨_, rfl⟩
            rw [← hts] at e3 e4 e5 e6 HST2
            clear hts
            have hsl : SL (wr.alloc (.cells #[.int .u64 (Oct.word ts 0 : Nat), .int .u64 (Oct.word ts 1 : Nat), .int .u64 (Oct.word ts 2 : Nat), .int .u64 (Oct.word ts 3 : Nat)] 31)) wr.heap.size [ts] := ⟨heap_alloc_new wr _⟩
            have HSL : Hid (SetsAt (wr.alloc (.cells #[.int .u64 (Oct.word ts 0 : Nat), .int .u64 (Oct.word ts 1 : Nat), .int .u64 (Oct.word ts 2 : Nat), .int .u64 (Oct.word ts 3 : Nat)] 31)) (some ⟨wr.heap.size, 0, none⟩) [ts]) := hsl.at
            have HO7 : Hid (OwnsS (wr.alloc (.cells #[.int .u64 (Oct.word ts 0 : Nat), .int .u64 (Oct.word ts 1 : Nat), .int .u64 (Oct.word ts 2 : Nat), .int .u64 (Oct.word ts 3 : Nat)] 31)) w0.heap.size (.slice la n lc) L) := HO6.out.later ((Below.refl _ _).alloc (Nat.le_refl _) _)
            have HB7 : Hid (Below w0.heap.size w0 (wr.alloc (.cells #[.int .u64 (Oct.word ts 0 : Nat), .int .u64 (Oct.word ts 1 : Nat), .int .u64 (Oct.word ts 2 : Nat), .int .u64 (Oct.word ts 3 : Nat)] 31))) := HB5.out.alloc HB5.out.size _
            clear hsl
            go_wp2_with (at_builtin; go_must (refine wpList_append_setsN rfl _ _ rfl w0 _ L rfl HO7.out HB7.out (some ⟨wr.heap.size, 0, none⟩) 1 1 [ts] rfl rfl HSL.out (by rw [← HLN.out]; simp; omega) (by simp) ?_; intro v9 w9 ho9 hb9; have HO9 : Hid (OwnsS w9 w0.heap.size v9 (L ++ [ts])) := ho9; have HB9 : Hid (Below w0.heap.size w0 w9) := hb9; clear ho9 hb9))
            go_roundw
            case rel => exact ⟨k + 1, v9, rfl, by omega, by go_num, by rw [HST2.out]; exact HO9, HB9⟩
            case measure => simp [intOf]; omega
    · have hge : ¬ (k : Int) < (en : Int) := by omega
      have HO2 : Hid (OwnsS wr w0.heap.size vv (dsE es)) := by
        have h := HO.out
        rw [List.take_of_length_le (by rw [← HN.out]; omega)] at h
        exact h
      have HL : Hid (Below w.heap.size w wr) := HK0.out.trans (HB.out.mono (by omega))
      clear HO
      go_wp2
      go_ret
      refine ⟨vv, rfl, ?_, HL.out⟩
      have h := HO2.out
      refine ⟨⟨h.1.1, ?_⟩, h.2⟩
      rcases h.1.2 with h2 | ⟨g, c, cur, hv, hbg, rest⟩
      · exact Or.inl h2
      · exact Or.inr ⟨g, c, cur, hv, by omega, rest⟩
end Go.Proofs.Ytemmicnhnaafmaa
