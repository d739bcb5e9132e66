/- sim's spread. -/
import Derived.Test.YtmjnobdlgbojoaaDoorG03
import Derived.Test.YtmjnobdlgbojoaaDoorG04
import Derived.Test.YtmjnobdlgbojoaaDoorG05
import Derived.Deep.LoopGhost
namespace Go.Proofs.YtmjnobdlgbojoaaDoor
open Go.RowKit Go.Maps
attribute [local go_sem ↓] Go.wp_at_zero Go.wp_at_succ

theorem ints_one (l : List Nat) : ∀ u ∈ ints l, u.oneCell' = true := by
  intro u hu
  unfold ints at hu
  obtain ⟨x, _, rfl⟩ := List.mem_map.1 hu
  rfl
/-- the stack: a row of states of the call's own -/
def Stk (w : World) (base : Nat) (V : Value) (l : List Nat) : Prop := w.ownsRow base 3 1 V l.length (ints l)
theorem Stk.ty {w : World} {base : Nat} {V : Value} {l : List Nat} (h : Stk w base V l) : ∀ b, V.ownBlock = some b → base ≤ b ∧ TyB w 3 b := by
  intro b hb
  rcases h.2 with ⟨rfl, _⟩ | ⟨g, cap, cur, rfl, hbg, hg, _⟩
  · simp [Value.ownBlock] at hb
  · simp [Value.ownBlock] at hb
    subst hb
    exact ⟨hbg, ⟨_, _, hg⟩⟩
theorem Stk.keep {w w' : World} {base : Nat} {V : Value} {l : List Nat} (h : Stk w base V l) (hk : ∀ b, base ≤ b → b < w.heap.size → w'.heap[b]? = w.heap[b]?) : Stk w' base V l := ownsRow_keep h (fun g _ hb hl => hk g hb hl)
theorem Stk.form {w : World} {base : Nat} {V : Value} {l : List Nat} (h : Stk w base V l) : ∃ (a : Option Addr) (c : Nat), V = .slice a l.length c ∧ l.length ≤ c ∧ c ≤ maxLen := by
  rcases h.2 with ⟨hv, hn⟩ | ⟨g, cap, cur, hv, hbg, hg, h1, h2, h3, h4⟩
  · exact ⟨none, 0, by rw [hv, hn], by omega, by decide⟩
  · exact ⟨_, _, hv, h1, h2⟩
/-- its last, and the rest -/
theorem Stk.pop {w : World} {base m c : Nat} {a : Option Addr} {l : List Nat} {s : Nat} (h : Stk w base (.slice a m c) (l ++ [s])) : ∃ g, a = some ⟨g, 0, none⟩ ∧ m = l.length + 1 ∧ m ≤ c ∧ w.cell? ⟨g, l.length, none⟩ = some (.int .i64 (s : Nat)) ∧ Stk w base (.slice (some ⟨g, 0, none⟩) l.length c) l := by
  rcases h.2 with ⟨hv, hn⟩ | ⟨g, cap, cur, hv, hbg, hg, h1, h2, h3, h4⟩
  · simp at hn
  · cases hv
    have hl : (l ++ [s]).length = l.length + 1 := by simp
    refine ⟨g, rfl, hl, by omega, ?_, ⟨by rw [ints_length]; simp, Or.inr ⟨g, c, cur, rfl, hbg, hg, by omega, h2, h3, ?_⟩⟩⟩
    · have e : (ints (l ++ [s]))[l.length]? = some (.int .i64 (s : Nat)) := by rw [ints_snoc, List.getElem?_append_right (by rw [ints_length]; exact Nat.le_refl _), ints_length]; simp
      rw [← h4, List.getElem?_take_of_lt (by omega)] at e
      simp only [World.cell?, hg]
      simpa using e
    · have e : (cur.toList.take ((l ++ [s]).length * 1)).take (l.length * 1) = (ints (l ++ [s])).take (l.length * 1) := by rw [h4]
      rw [List.take_take, Nat.min_eq_left (by omega), ints_snoc, List.take_append_of_le_length (by rw [ints_length]; omega)] at e
      rw [e]
      exact List.take_of_length_le (by rw [ints_length]; omega)
theorem ownsRow_low {w : World} {base base' : Nat} {e : TypeId} {size : Nat} {v : Value} {n : Nat} {xs : List Value} (h : w.ownsRow base e size v n xs) (hb : base' ≤ base) : w.ownsRow base' e size v n xs := by
  refine ⟨h.1, ?_⟩
  rcases h.2 with h2 | ⟨g, cap, cur, hv, hbg, rest⟩
  · exact Or.inl h2
  · exact Or.inr ⟨g, cap, cur, hv, by omega, rest⟩
theorem grown_none_trans {w u v : World} {r : Option Nat} (h : w.grownBy u r) (hb : Below u.heap.size u v) : w.grownBy v r := ⟨hb.os.trans h.os, hb.tape.trans h.tape, hb.output.trans h.output, Nat.le_trans h.size hb.size, fun k hk hne => (hb.block k (Nat.lt_of_lt_of_le hk h.size)).trans (h.block k hk hne)⟩
theorem grown_trans {w u v : World} {r : Option Nat} (h : w.grownBy u r) (hb : u.grownBy v r) : w.grownBy v r := ⟨hb.os.trans h.os, hb.tape.trans h.tape, hb.output.trans h.output, Nat.le_trans h.size hb.size, fun k hk hne => (hb.block k (Nat.lt_of_lt_of_le hk h.size) hne).trans (h.block k hk hne)⟩
theorem grown_new {w u v : World} {r q : Option Nat} (h : w.grownBy u r) (hb : u.grownBy v q) (hq : ∀ k, q = some k → w.heap.size ≤ k) : w.grownBy v r := ⟨hb.os.trans h.os, hb.tape.trans h.tape, hb.output.trans h.output, Nat.le_trans h.size hb.size, fun k hk hne => (hb.block k (Nat.lt_of_lt_of_le hk h.size) (fun e => by have := hq k e.symm; omega)).trans (h.block k hk hne)⟩
/-- THE STATE of spread. -/
structure Sp (w : World) (b n c base : Nat) (u : World) (cur : Oct.S) (V : Value) (l : List Nat) : Prop where
  fr : w.grownBy u (some b)
  row : RowG u base b n c cur
  stk : Stk u w.heap.size V l
  len : l.length ≤ (Oct.els cur (64 * n)).length
section
variable {w u u' : World} {b n c base : Nat} {cur : Oct.S} {V : Value} {l : List Nat}
theorem Sp.later (h : Sp w b n c base u cur V l) (hb : Below u.heap.size u u') : Sp w b n c base u' cur V l :=
  ⟨grown_none_trans h.fr hb, h.row.later hb, h.stk.keep (fun b _ hl => hb.block b hl), h.len⟩
/-- a block beside: not the row's -/
theorem Sp.old (h : Sp w b n c base u cur V l) {k : Nat} (hk : k < w.heap.size) (hne : k ≠ b) : u.heap[k]? = w.heap[k]? := h.fr.block k hk (fun e => hne (by cases e; rfl))
end
theorem sp_push {w w3 w4 : World} {b n c base : Nat} {cur : Oct.S} {V : Value} {l : List Nat} {t g cap : Nat} {o : Obj} (h : w.grownBy w3 (some b) ∧ RowG w3 base b n c cur ∧ Stk w3 w.heap.size V l) (ho : w4.ownsRow w.heap.size 3 1 (.slice (some ⟨g, 0, none⟩) (l.length + 1) cap) (l.length + 1) (ints l ++ [.int .i64 (t : Nat)])) (hg : (w3.alloc o).grownBy w4 V.ownBlock) (hb : b < w.heap.size) (hlen : l.length + 1 ≤ (Oct.els cur (64 * n)).length) : Sp w b n c base w4 cur (.slice (some ⟨g, 0, none⟩) (l.length + 1) cap) (l ++ [t]) := by
  obtain ⟨h1, h2, h3⟩ := h
  have hV : ∀ k, V.ownBlock = some k → w.heap.size ≤ k := fun k hk => (h3.ty k hk).1
  have hk : Below w3.heap.size w3 (w3.alloc o) := (Below.refl _ _).alloc (Nat.le_refl _) _
  refine ⟨grown_new (grown_none_trans h1 hk) hg hV, ?_, ?_, ?_⟩
  · exact (h2.later hk).same (hg.block b (by have := h2.lt.1; simp; omega) (fun e => by have := hV b e.symm; omega))
  · unfold Stk
    rw [ints_snoc, List.length_append]
    exact ho
  · rw [List.length_append]
    exact hlen
set_option maxRecDepth 8000 in
set_option maxHeartbeats 8000000 in
theorem spread_any {X : Nat → Prop} (Wb mb b n c base kn kc : Nat) (a : Option Addr) (ks : List Int) (es : List Eg) (f : Oct.S) (w : World)
    (hW : w.cell? ⟨Wb, 0, none⟩ = some (.map (some mb))) (hWb : Wb ≠ b) (hM : ByAt X w mb es) (hX : ∀ k, X k → k ≠ b) (hmb : mb ≠ b) (hR : RowG w base b n c f) (hT : Tab w) (hb0 : b ≠ 0) (hn : n ≤ 2513169434900)
    (hkn : ks.length = kn) (hk1 : kn ≤ 1000) (hK : KsAt w a ks) (hkb : ∀ k off, a = some ⟨k, off, none⟩ → k ≠ b)
    (hf : ∀ s, f s = true → s < 64 * n) (he : ∀ y ∈ es, 0 ≤ y.f ∧ y.f < 64 * (n : Int) ∧ 0 ≤ y.t ∧ y.t < 64 * (n : Int)) (hel : es.length ≤ 2513169434900)
    (hcnt : ∀ g : Oct.S, (∀ s, g s = true → Rch es (fun y => hasK ks y.k) f s) → (Oct.els g (64 * n)).length ≤ 17592186044415) :
    Calls Tryd.prog 33 #[.pointer (some ⟨Wb, 0, none⟩), .slice (some ⟨b, 0, none⟩) n c, .slice a kn kc] w fun e w' => e = .returned (.tuple #[]) ∧ ∃ g, IsCl es (fun y => hasK ks y.k) f g ∧ RowG w' base b n c g ∧ w.grownBy w' (some b) := by
  have hblt := hR.lt.1
  have hWlt := lt_of_cell hW
  have hmlt := hM.lt
  have HW : Hid (w.cell? ⟨Wb, 0, none⟩ = some (.map (some mb))) := hW
  have HM : Hid (ByAt X w mb es) := hM
  have HX : Hid (∀ k, X k → k ≠ b) := hX
  have HK : Hid (KsAt w a ks) := hK
  have HKN : Hid (ks.length = kn) := hkn
  have HKB : Hid (∀ k off, a = some ⟨k, off, none⟩ → k ≠ b) := hkb
  have HEE : Hid (∀ y ∈ es, 0 ≤ y.f ∧ y.f < 64 * (n : Int) ∧ 0 ≤ y.t ∧ y.t < 64 * (n : Int)) := he
  have HCNT : Hid (∀ g : Oct.S, (∀ s, g s = true → Rch es (fun y => hasK ks y.k) f s) → (Oct.els g (64 * n)).length ≤ 17592186044415) := hcnt
  have HNB : Hid (Wb ≠ b ∧ mb ≠ b ∧ b ≠ 0) := ⟨hWb, hmb, hb0⟩
  have HSP : Hid (Spr es (fun y => hasK ks y.k) f f (Oct.els f (64 * n)) []) := spr_start es _ f hf
  have kk : Below w.heap.size w (w.alloc (.cells #[.slice (some ⟨b, 0, none⟩) n c] 66)) := (Below.refl _ _).alloc (Nat.le_refl _) _
  have HC : Hid (Calls Tryd.prog 30 #[.func (.func 46) #[] #[.pointer (some ⟨w.heap.size, 0, none⟩)]] (w.alloc (.cells #[.slice (some ⟨b, 0, none⟩) n c] 66)) _) :=
    collect_any w.heap.size b n c base f _ (Boxed.new w 66 (.slice (some ⟨b, 0, none⟩) n c)).cell (hR.later kk) (hT.later kk) hn (Nat.le_trans (hcnt f (fun s hs => .base s hs)) (by decide))
  have HR : Hid (RowG w base b n c f) := hR
  have HON : Hid (Calls Tryd.prog 31 #[.slice (some ⟨b, 0, none⟩) n c] w _) := on_any b n c w
  obtain ⟨i0, hi, hz0, hz1, hz2⟩ := info_parts info3
  have hmx : 20000000000000 ≤ maxLen := by decide
  have HF0 : Hid (∀ s, f s = true → s < 64 * n) := hf
  clear hW hM hX hR hT hK hkn hkb hf he hcnt hWb hmb hb0
  go_enter Tryd.func33, Tryd.ntmps33
  go_wp2_with fail
  refine HON.out.mono ?_
  rintro e w1 ⟨rfl, rfl⟩
  clear HON
  go_wp2_with fail
  refine HC.out.mono ?_
  rintro e w1 ⟨V0, rfl, hst, hb1⟩
  have HS0 : Hid (Sp w b n c base w1 f V0 (Oct.els f (64 * n))) := by
    have k1 : Below w.heap.size w w1 := kk.trans (hb1.mono (by simp))
    exact ⟨⟨k1.os, k1.tape, k1.output, k1.size, fun k hk _ => k1.block k hk⟩, HR.out.same (k1.block b hblt), ownsRow_low hst (by simp), Nat.le_refl _⟩
  clear HC hst hb1 kk HR
  go_wp2_with fail
  go_loopg [6] (2 * (64 * n - (Oct.els f (64 * n)).length) + (Oct.els f (64 * n)).length + 1) (fun gk V u => ∃ cur l, Hid (Sp w b n c base u cur V l) ∧ Hid (Spr es (fun y => hasK ks y.k) f cur l []) ∧ Hid (2 * (64 * n - (Oct.els cur (64 * n)).length) + l.length + 1 ≤ gk))
  case atStart => exact ⟨f, _, HS0, HSP, Nat.le_refl _⟩
  case round =>
    obtain ⟨cur, l, HS, HP, HG⟩ := hrel
    have hold : ∀ k, k < w.heap.size → k ≠ b → wr.heap[k]? = w.heap[k]? := fun k hk hne => HS.out.old hk hne
    rcases List.eq_nil_or_concat l with rfl | ⟨l', s, rfl⟩
    · obtain ⟨o, cc, hV, _, _⟩ := HS.out.stk.form
      simp only [List.length_nil] at hV
      subst hV
      clear hold
      go_wp2
      go_end0
      exact ⟨rfl, cur, HP.out.done, HS.out.row, HS.out.fr⟩
    · rw [List.concat_eq_append] at HS HP HG
      obtain ⟨o, cc, hV, _, _⟩ := HS.out.stk.form
      subst hV
      obtain ⟨g, rfl, hm, hmc, hcs, hst⟩ := HS.out.stk.pop
      obtain ⟨m, hmm⟩ : ∃ m, m = (l' ++ [s]).length := ⟨_, rfl⟩
      rw [← hmm] at hm hmc HS ⊢
      obtain ⟨k, hk⟩ : ∃ k, k = l'.length := ⟨_, rfl⟩
      rw [← hk] at hm hcs hst
      have HKL : Hid (k = l'.length) := hk
      have HSL : Hid (Stk wr w.heap.size (.slice (some ⟨g, 0, none⟩) k cc) l') := hst
      have hmk : (m : Int) - 1 = (k : Int) := by omega
      have hm0 : (0 : Int) < (m : Int) := by omega
      have hmd : decide (0 < m) = true := decide_eq_true (by omega)
      have hkm : (k : Int) < (m : Int) := by omega
      have hkc : (k : Int) ≤ (cc : Int) := by omega
      have hcnt2 := HCNT.out cur HP.out.rch
      have hk44 : k < 17592186044415 := by have := HS.out.len; rw [← hmm] at this; omega
      obtain ⟨hpop, hcs1⟩ := HP.out.pop (fun y hy => (HEE.out y hy).1)
      have HPP : Hid (Spr es (fun y => hasK ks y.k) f cur l' (fromE es s)) := hpop
      have HCS : Hid (cur s = true) := hcs1
      obtain ⟨nm, F, hmap, hrows⟩ := HM.out
      obtain ⟨ea, ec, hF, hEA⟩ := hrows s
      obtain ⟨en, hen⟩ : ∃ en, en = (fromE es s).length := ⟨_, rfl⟩
      rw [← hen] at hF
      have hs64 : s < 64 * n := by
        have := HP.out.todo s (by simp)
        refine Classical.byContradiction fun hge => ?_
        have h2 := (HP.out.rch s this).lt (S := 64 * n) HF0.out (fun y hy => by have := HEE.out y hy; omega)
        omega
      have hlook := (hmap.same (hold mb hmlt HNB.out.2.1)).look (x := ((s : Nat) : Int)) (by omega) (by omega)
      rw [hF] at hlook
      have HEA : Hid (EAt X w ea (fromE es s)) := hEA
      have HEN : Hid (en = (fromE es s).length) := hen
      have henl : en ≤ 2513169434900 := by rw [hen]; exact Nat.le_trans (fromE_len es s) hel
      have hcw : wr.cell? ⟨Wb, 0, none⟩ = some (.map (some mb)) := (World.cell?_of_block (a := ⟨Wb, 0, none⟩) (hold Wb hWlt HNB.out.1)).trans HW.out
      have HS1 : Hid (Sp w b n c base wr cur (.slice (some ⟨g, 0, none⟩) k cc) l') := ⟨HS.out.fr, HS.out.row, by have h := HSL.out; rw [hk] at h ⊢; exact h, by have := HS.out.len; rw [List.length_append] at this; simp at this; omega⟩
      have HG1 : Hid (2 * (64 * n - (Oct.els cur (64 * n)).length) + l'.length + 2 ≤ gk) := by have := HG.out; rw [List.length_append] at this; simp at this; show _ ≤ _; omega
      clear hold hst hk hpop hcs1 hmap hrows hF hEA hen HS HP HG hcnt2 hm hmm hmc
      go_wp2_with fail
      go_loopw [34, 6] (fun i V u => ∃ j : Nat, ∃ V1 cur2 l2, i = .int .i64 (j : Nat) ∧ V1 = V ∧ j ≤ en ∧ Hid (Sp w b n c base u cur2 V1 l2) ∧ Hid (Spr es (fun y => hasK ks y.k) f cur2 l2 ((fromE es s).drop j)) ∧ Hid (cur2 s = true) ∧ Hid (2 * (64 * n - (Oct.els cur2 (64 * n)).length) + l2.length + 2 ≤ gk)) (fun i _ _ => en - (intOf i).toNat)
      case atStart => exact ⟨0, _, cur, l', rfl, rfl, Nat.zero_le _, HS1, HPP, HCS, HG1⟩
      case round =>
        clear HS1 HPP HCS HG1 hlook hcw hcs HSL hmk hm0 hkm hkc hk44 HKL
        obtain ⟨j, V, cur2, l2, rfl, hVV, hjn, HS, HP, HCS, HG⟩ := hrel
        subst hVV
        have hold : ∀ k, k < w.heap.size → k ≠ b → wr.heap[k]? = w.heap[k]? := fun k hk hne => HS.out.old hk hne
        by_cases hlt : j < en
        · have hlt' : (j : Int) < (en : Int) := by omega
          obtain ⟨y, hy⟩ : ∃ y, (fromE es s)[j]? = some y := ⟨_, List.getElem?_eq_getElem (by rw [← HEN.out]; exact hlt)⟩
          obtain ⟨eb, off, rfl, e0, e1, e2, e3, e4, e5, e6⟩ := (HEA.out.keep (Y := X) (w' := wr) (fun _ h _ => h) (fun k hX hl => hold k hl (HX.out k hX))).nth hy
          have hdrop : (fromE es s).drop j = y :: (fromE es s).drop (j + 1) := by
            rw [List.drop_eq_getElem_cons (List.getElem?_eq_some_iff.1 hy).1, (List.getElem?_eq_some_iff.1 hy).2]
          have hmem := mem_fromE.1 (List.mem_of_getElem? hy)
          have hbnd := HEE.out y hmem.1
          rw [hdrop] at HP
          obtain ⟨k, f0, tz, s0⟩ := y
          simp only at e0 e1 e2 e3 e4 e5 e6 hmem hbnd
          obtain ⟨t, rfl⟩ : ∃ t : Nat, tz = (t : Int) := ⟨tz.toNat, by omega⟩
          have HMEM : Hid ((⟨k, f0, (t : Int), s0⟩ : Eg) ∈ es ∧ f0 = ((s : Nat) : Int)) := hmem
          have ht64 : t < 64 * n := by omega
          have kk : Below wr.heap.size wr (wr.alloc (.cells #[.int .i64 k, .int .i64 f0, .int .i64 (t : Nat), .int .u64 (Oct.word s0 0 : Nat), .int .u64 (Oct.word s0 1 : Nat), .int .u64 (Oct.word s0 2 : Nat), .int .u64 (Oct.word s0 3 : Nat)] 34)) := (Below.refl _ _).alloc (Nat.le_refl _) _
          have HS1 : Hid (Sp w b n c base (wr.alloc (.cells #[.int .i64 k, .int .i64 f0, .int .i64 (t : Nat), .int .u64 (Oct.word s0 0 : Nat), .int .u64 (Oct.word s0 1 : Nat), .int .u64 (Oct.word s0 2 : Nat), .int .u64 (Oct.word s0 3 : Nat)] 34)) cur2 V l2) := HS.out.later kk
          have HE1 : Hid (EB (wr.alloc (.cells #[.int .i64 k, .int .i64 f0, .int .i64 (t : Nat), .int .u64 (Oct.word s0 0 : Nat), .int .u64 (Oct.word s0 1 : Nat), .int .u64 (Oct.word s0 2 : Nat), .int .u64 (Oct.word s0 3 : Nat)] 34)) wr.heap.size ⟨k, f0, (t : Int), s0⟩) := eb_new wr ⟨k, f0, (t : Int), s0⟩
          obtain ⟨w2, hw2⟩ : ∃ w2, wr.alloc (.cells #[.int .i64 k, .int .i64 f0, .int .i64 (t : Nat), .int .u64 (Oct.word s0 0 : Nat), .int .u64 (Oct.word s0 1 : Nat), .int .u64 (Oct.word s0 2 : Nat), .int .u64 (Oct.word s0 3 : Nat)] 34) = w2 := ⟨_, rfl⟩
          rw [hw2] at HS1 HE1
          have HW2 : Hid (wr.alloc (.cells #[.int .i64 k, .int .i64 f0, .int .i64 (t : Nat), .int .u64 (Oct.word s0 0 : Nat), .int .u64 (Oct.word s0 1 : Nat), .int .u64 (Oct.word s0 2 : Nat), .int .u64 (Oct.word s0 3 : Nat)] 34) = w2) := hw2
          obtain ⟨A, hA⟩ : ∃ A, wr.heap.size = A := ⟨_, rfl⟩
          rw [hA] at HE1
          have HAA : Hid (wr.heap.size = A) := hA
          have hAb : A ≠ b := by
            intro e
            have h1 := HS.out.row.lt.1
            omega
          have hold2 : ∀ k, k < w.heap.size → k ≠ b → w2.heap[k]? = w.heap[k]? := fun k hk hne => HS1.out.old hk hne
          have hks : KsAt w2 a ks := by
            rcases HK.out with h | ⟨kb, koff, rfl, hc⟩
            · exact Or.inl h
            · exact Or.inr ⟨kb, koff, rfl, fun j x hj => (World.cell?_of_block (a := ⟨kb, koff + j, none⟩) (hold2 kb (lt_of_cell (hc j x hj)) (HKB.out kb koff rfl))).trans (hc j x hj)⟩
          have HCON : Hid (Calls Tryd.prog 48 #[.slice a kn kc, .int .i64 k] w2 _) := contains_any ks a kn kc k w2 HKN.out hk1 hks
          have HHAS : Hid (Calls Tryd.prog 49 #[.slice (some ⟨b, 0, none⟩) n c, .int .i64 (t : Nat)] w2 _) := hasRow_any base b n c t cur2 w2 HS1.out.row ht64 hn
          have HADD : Hid (Calls Tryd.prog 36 #[.slice (some ⟨b, 0, none⟩) n c, .int .i64 (t : Nat)] w2 _) := addRow_any base b n c t cur2 w2 HS1.out.row ht64 hn
          obtain ⟨d0, d1, d2, d3, d4, d5, d6⟩ := HE1.out.cells
          simp only at d0 d1 d2
          clear hold hold2 hks kk hw2 hA hy hdrop HS hmem hbnd d1 d3 d4 d5 d6
          go_upto_region 7 with fail
          rw [HW2.out, HAA.out]
          clear HW2 HAA e0 e1 e2 e3 e4 e5 e6
          go_wp2_with fail
          refine HCON.out.mono ?_
          rintro r w3 ⟨rfl, rfl⟩
          clear HCON
          cases hk : hasK ks k with
          | false =>
            have HP2 : Hid (Spr es (fun y => hasK ks y.k) f cur2 l2 ((fromE es s).drop (j + 1))) := HP.out.skip (Or.inl hk)
            clear hk
            go_wp2
            go_roundw
            case rel => exact ⟨j + 1, V, cur2, l2, by go_num, rfl, by omega, HS1, HP2, HCS, HG⟩
            case measure => simp [intOf]; omega
          | true =>
            have HKK : Hid (hasK ks k = true) := hk
            clear hk
            go_wp2_with fail
            refine HHAS.out.mono ?_
            rintro r w3 ⟨rfl, rfl⟩
            clear HHAS
            cases hct : cur2 t with
            | true =>
              have HP2 : Hid (Spr es (fun y => hasK ks y.k) f cur2 l2 ((fromE es s).drop (j + 1))) := HP.out.skip (Or.inr (by simpa using hct))
              clear hct
              go_wp2
              go_roundw
              case rel => exact ⟨j + 1, V, cur2, l2, by go_num, rfl, by omega, HS1, HP2, HCS, HG⟩
              case measure => simp [intOf]; omega
            | false =>
              have HP2 : Hid (Spr es (fun y => hasK ks y.k) f (Oct.ins cur2 t) (l2 ++ [t]) ((fromE es s).drop (j + 1))) := by
                have h := HP.out.push HMEM.out.1 HKK.out (by rw [HMEM.out.2]; simpa using HCS.out)
                simp only [Int.toNat_natCast] at h
                exact h
              have HCS2 : Hid (Oct.ins cur2 t s = true) := by show _ = _; unfold Oct.ins; simp [HCS.out]
              have HINS : Hid ((Oct.els (Oct.ins cur2 t) (64 * n)).length = (Oct.els cur2 (64 * n)).length + 1) := by show _ = _; rw [els_ins hct, if_pos ht64]
              have HC44 : Hid ((Oct.els (Oct.ins cur2 t) (64 * n)).length ≤ 17592186044415) := HCNT.out _ HP2.out.rch
              clear hct
              go_wp2_with fail
              refine HADD.out.mono ?_
              rintro r w3 ⟨rfl, hrow3, hg3⟩
              have hst3 : Stk w3 w.heap.size V l2 := HS1.out.stk.keep (fun k hk hl => hg3.block k hl (fun e => by cases e; omega))
              have HS3 : Hid (w.grownBy w3 (some b) ∧ RowG w3 base b n c (Oct.ins cur2 t) ∧ Stk w3 w.heap.size V l2) := ⟨grown_trans HS1.out.fr hg3, hrow3, hst3⟩
              have d2' : w3.cell? ⟨A, 2, none⟩ = some (.int .i64 (t : Nat)) := (World.cell?_of_block (a := ⟨A, 2, none⟩) (hg3.block A HE1.out.lt (fun e => hAb (by cases e; rfl)))).trans d2
              have hl44 : l2.length + 1 ≤ 17592186044415 := by have h1 := HS1.out.len; have h2 := HINS.out; have h3 := HC44.out; omega
              have HROW : Hid ((w3.alloc (.cells #[.int .i64 (t : Nat)] 3)).ownsRow w.heap.size 3 1 V l2.length (ints l2)) := World.ownsRow.alloc hst3 _
              have hsz3 : w.heap.size ≤ w3.heap.size := HS3.out.1.size
              have HLEN : Hid (l2.length ≤ (Oct.els cur2 (64 * n)).length) := HS1.out.len
              clear HADD hrow3 hg3 hst3 HS1 d0 d2
              go_wp2_with (at_builtin; refine wpList_append_lies (P := Tryd.prog) _ rfl _ _ 39 rfl w.heap.size 3 i0 (.int .i64 0) 1 8 Tryd.underlying39 hi hz0 hz1 hz2 rfl (by decide) V l2.length (ints l2) rfl HROW.out ⟨w3.heap.size, 0, none⟩ 1 1 [.int .i64 (t : Nat)] rfl rfl (cell_one_new _ _ _) (by simp [Value.oneCell']) (by decide) (by omega) (by omega) (by rw [World.size_alloc]; omega) _ rfl ?_; intro g4 cap4 w4 ho4 hg4 hat4 _; have HS4 : Hid (Sp w b n c base w4 (Oct.ins cur2 t) (.slice (some ⟨g4, 0, none⟩) (l2.length + 1) cap4) (l2 ++ [t])) := sp_push HS3.out ho4 hg4 hblt (by rw [HINS.out]; have := HLEN.out; omega); clear ho4 hg4 hat4 HROW)
              go_roundw
              case rel => exact ⟨j + 1, _, _, _, by go_num, rfl, by omega, HS4, HP2, HCS2, by show _ ≤ _; have h1 := HG.out; have h2 := HINS.out; have h3 := Oct.els_length (Oct.ins cur2 t) (64 * n); rw [List.length_append]; simp only [List.length_singleton]; omega⟩
              case measure => simp [intOf]; omega
        · have hlt' : ¬ (j : Int) < (en : Int) := by omega
          have HP2 : Hid (Spr es (fun y => hasK ks y.k) f cur2 l2 []) := by
            have h := HP.out
            rw [List.drop_of_length_le (by rw [← HEN.out]; omega)] at h
            exact h
          clear hold
          go_wp2
          go_roundg (gk - 1)
          case measure => have := HG.out; omega
          case rel => exact ⟨cur2, l2, HS, HP2, by show _ ≤ _; have := HG.out; omega⟩
end Go.Proofs.YtmjnobdlgbojoaaDoor
