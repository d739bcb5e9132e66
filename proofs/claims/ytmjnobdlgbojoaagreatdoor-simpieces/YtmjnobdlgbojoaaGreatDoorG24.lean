
import Derived.Test.YtmjnobdlgbojoaaGreatDoorG22
import Derived.Test.YtmjnobdlgbojoaaGreatDoorG23
import Derived.Deep.LoopGhost
import Derived.Deep.RegionWith
namespace Go.Proofs.YtmjnobdlgbojoaaGreatDoor
open Go.RowKit
attribute [local go_sem ↓] Go.wp_at_zero Go.wp_at_succ
theorem eqNil {t e : TypeId} (h : Tryz.prog.underlying t = some (.slice e)) (a : Addr) (l c : Nat) (w : World) : (binOp .eql t (.slice (some a) l c) (.slice none 0 0)).run Tryz.prog w = .ok (.bool false) w := by
  have h2 : (Op.equalIn (9999 + 1) t (.slice (some a) l c) (.slice none 0 0)).run Tryz.prog w = .ok false w := by
    rw [Op.equalIn]
    simp [run_underlying h]
  have h3 : (Op.equal t (.slice (some a) l c) (.slice none 0 0)).run Tryz.prog w = .ok false w := h2
  simp [binOp, h3]
set_option maxHeartbeats 2000000 in
theorem clone32_any (b off m c : Nat) (vs : List Value) (w : World) (hl : vs.length = m) (hm : 0 < m) (hc : ∀ j u, vs[j]? = some u → w.cell? ⟨b, off + j, none⟩ = some u) (h1 : ∀ u ∈ vs, u.oneCell' = true) (hby : m * 4 ≤ 140737488355328) :
    Calls Tryz.prog 28 #[.slice (some ⟨b, off, none⟩) m c] w fun e w' => ∃ g cap, e = .returned (.slice (some ⟨g, 0, none⟩) m cap) ∧ w'.ownsRow w.heap.size 44 1 (.slice (some ⟨g, 0, none⟩) m cap) m vs ∧ Below w.heap.size w w' := by
  obtain ⟨i0, hi, hz0, hz1, hz2⟩ := info_parts infoU
  have hmx : m ≤ maxLen := by simp only [maxLen]; omega
  have HL : Hid (vs.length = m) := hl
  have HC : Hid (∀ j u, vs[j]? = some u → (w.alloc (.cells #[] 44)).cell? ((⟨b, off, none⟩ : Addr).add j) = some u) := fun j u hj => by
    rw [Go.WideShapes.add_plain]
    exact (World.cell?_of_block (w := w) (a := ⟨b, off + j, none⟩) (Below.heap_alloc w _ b (lt_of_cell (hc j u hj)))).trans (hc j u hj)
  have H1 : Hid (∀ u ∈ vs, u.oneCell' = true) := h1
  have HO : Hid ((w.alloc (.cells #[] 44)).ownsRow w.heap.size 44 1 (.slice (some ⟨w.heap.size, 0, none⟩) 0 0) 0 []) := ⟨rfl, Or.inr ⟨w.heap.size, 0, #[], rfl, Nat.le_refl _, heap_alloc_new w _, Nat.le_refl _, by decide, rfl, rfl⟩⟩
  have eqn := fun a l c w => eqNil Tryz.underlying35 a l c w
  have HA0 : Hid (Below w.heap.size w (w.alloc (.cells #[] 44))) := (Below.refl w.heap.size w).alloc (Nat.le_refl _) _
  clear hl hc h1
  go_enter Tryz.func28, Tryz.ntmps28
  go_wp2_with (at_builtin; refine wpList_append_lies (P := Tryz.prog) _ rfl _ _ 35 rfl w.heap.size 44 i0 (.int .u32 0) 1 4 Tryz.underlying35 hi hz0 hz1 hz2 rfl (by decide) _ 0 [] rfl HO.out ⟨b, off, none⟩ m c vs rfl (by rw [HL.out, Nat.mul_one]) HC.out H1.out hm (by omega) (by omega) (by simp) _ rfl ?_; intro g cap w1 ho hg _ _; have HR : Hid (w1.ownsRow w.heap.size 44 1 (.slice (some ⟨g, 0, none⟩) (0 + m) cap) (0 + m) ([] ++ vs)) := ho; have HB : Hid (Below w.heap.size w w1) := HA0.out.grown hg (by rw [World.size_alloc]; exact Nat.le_succ _) (fun k hk => by cases hk; exact Nat.le_refl _); clear ho hg HC H1 HO)
  go_ret
  have h := HR.out
  rw [List.nil_append, Nat.zero_add] at h
  exact ⟨g, cap, rfl, h, HB.out⟩
set_option maxHeartbeats 2000000 in
theorem cloneRow_any (b off m c : Nat) (vs : List Value) (w : World) (hl : vs.length = m) (hm : 0 < m) (hc : ∀ j u, vs[j]? = some u → w.cell? ⟨b, off + j, none⟩ = some u) (h1 : ∀ u ∈ vs, u.oneCell' = true) (hby : m * 8 ≤ 140737488355328) :
    Calls Tryz.prog 35 #[.slice (some ⟨b, off, none⟩) m c] w fun e w' => ∃ g cap, e = .returned (.slice (some ⟨g, 0, none⟩) m cap) ∧ w'.ownsRow w.heap.size 26 1 (.slice (some ⟨g, 0, none⟩) m cap) m vs ∧ Below w.heap.size w w' := by
  obtain ⟨i0, hi, hz0, hz1, hz2⟩ := info_parts infoG
  have hmx : m ≤ maxLen := by simp only [maxLen]; omega
  have HL : Hid (vs.length = m) := hl
  have HC : Hid (∀ j u, vs[j]? = some u → (w.alloc (.cells #[] 26)).cell? ((⟨b, off, none⟩ : Addr).add j) = some u) := fun j u hj => by
    rw [Go.WideShapes.add_plain]
    exact (World.cell?_of_block (w := w) (a := ⟨b, off + j, none⟩) (Below.heap_alloc w _ b (lt_of_cell (hc j u hj)))).trans (hc j u hj)
  have H1 : Hid (∀ u ∈ vs, u.oneCell' = true) := h1
  have HO : Hid ((w.alloc (.cells #[] 26)).ownsRow w.heap.size 26 1 (.slice (some ⟨w.heap.size, 0, none⟩) 0 0) 0 []) := ⟨rfl, Or.inr ⟨w.heap.size, 0, #[], rfl, Nat.le_refl _, heap_alloc_new w _, Nat.le_refl _, by decide, rfl, rfl⟩⟩
  have eqn := fun a l c w => eqNil Tryz.underlying74 a l c w
  have HA0 : Hid (Below w.heap.size w (w.alloc (.cells #[] 26))) := (Below.refl w.heap.size w).alloc (Nat.le_refl _) _
  clear hl hc h1
  go_enter Tryz.func35, Tryz.ntmps35
  go_wp2_with (at_builtin; refine wpList_append_lies (P := Tryz.prog) _ rfl _ _ 74 rfl w.heap.size 26 i0 (.int .u64 0) 1 8 Tryz.underlying74 hi hz0 hz1 hz2 rfl (by decide) _ 0 [] rfl HO.out ⟨b, off, none⟩ m c vs rfl (by rw [HL.out, Nat.mul_one]) HC.out H1.out hm (by omega) (by omega) (by simp) _ rfl ?_; intro g cap w1 ho hg _ _; have HR : Hid (w1.ownsRow w.heap.size 26 1 (.slice (some ⟨g, 0, none⟩) (0 + m) cap) (0 + m) ([] ++ vs)) := ho; have HB : Hid (Below w.heap.size w w1) := HA0.out.grown hg (by rw [World.size_alloc]; exact Nat.le_succ _) (fun k hk => by cases hk; exact Nat.le_refl _); clear ho hg HC H1 HO)
  go_ret
  have h := HR.out
  rw [List.nil_append, Nat.zero_add] at h
  exact ⟨g, cap, rfl, h, HB.out⟩
end Go.Proofs.YtmjnobdlgbojoaaGreatDoor


namespace Go.Proofs.YtmjnobdlgbojoaaGreatDoor
open Go.RowKit Go.Maps
attribute [local go_sem ↓] Go.wp_at_zero Go.wp_at_succ
def Stk (w : World) (base : Nat) (V : Value) (l : List Nat) : Prop := w.ownsRow base 3 1 V l.length (ints l)
theorem Stk.ty {w : World} {base : Nat} {V : Value} {l : List Nat} (h : Stk w base V l) : ∀ b, V.ownBlock = some b → base ≤ b ∧ TyB w 3 b := by
  intro b hb
  rcases h.2 with ⟨rfl, _⟩ | ⟨g, cap, cur, rfl, hbg, hg, _⟩
  · simp [Value.ownBlock] at hb
  · simp [Value.ownBlock] at hb
    subst hb
    exact ⟨hbg, ⟨_, _, hg⟩⟩
theorem Stk.keep {w w' : World} {base : Nat} {V : Value} {l : List Nat} (h : Stk w base V l) (hk : ∀ b, base ≤ b → b < w.heap.size → w'.heap[b]? = w.heap[b]?) : Stk w' base V l := ownsRow_keep h (fun g _ hb hl => hk g hb hl)
theorem Stk.form {w : World} {base : Nat} {V : Value} {l : List Nat} (h : Stk w base V l) : ∃ (a : Option Addr) (c : Nat), V = .slice a l.length c ∧ l.length ≤ c ∧ c ≤ maxLen := by
  rcases h.2 with ⟨hv, hn⟩ | ⟨g, cap, cur, hv, hbg, hg, h1, h2, h3, h4⟩
  · exact ⟨none, 0, by rw [hv, hn], by omega, by decide⟩
  · exact ⟨_, _, hv, h1, h2⟩
theorem Stk.pop {w : World} {base m c : Nat} {a : Option Addr} {l : List Nat} {s : Nat} (h : Stk w base (.slice a m c) (l ++ [s])) : ∃ g, a = some ⟨g, 0, none⟩ ∧ m = l.length + 1 ∧ m ≤ c ∧ w.cell? ⟨g, l.length, none⟩ = some (.int .i64 (s : Nat)) ∧ Stk w base (.slice (some ⟨g, 0, none⟩) l.length c) l := by
  rcases h.2 with ⟨hv, hn⟩ | ⟨g, cap, cur, hv, hbg, hg, h1, h2, h3, h4⟩
  · simp at hn
  · cases hv
    have hl : (l ++ [s]).length = l.length + 1 := by simp
    refine ⟨g, rfl, hl, by omega, ?_, ⟨by rw [ints_length]; simp, Or.inr ⟨g, c, cur, rfl, hbg, hg, by omega, h2, h3, ?_⟩⟩⟩
    · have e : (ints (l ++ [s]))[l.length]? = some (.int .i64 (s : Nat)) := by rw [ints_snoc, List.getElem?_append_right (by rw [ints_length]; exact Nat.le_refl _), ints_length]; simp
      rw [← h4, List.getElem?_take_of_lt (by omega)] at e
      simp only [World.cell?, hg]
      simpa using e
    · have e : (cur.toList.take ((l ++ [s]).length * 1)).take (l.length * 1) = (ints (l ++ [s])).take (l.length * 1) := by rw [h4]
      rw [List.take_take, Nat.min_eq_left (by omega), ints_snoc, List.take_append_of_le_length (by rw [ints_length]; omega)] at e
      rw [e]
      exact List.take_of_length_le (by rw [ints_length]; omega)
theorem ownsRow_low {w : World} {base base' : Nat} {e : TypeId} {size : Nat} {v : Value} {n : Nat} {xs : List Value} (h : w.ownsRow base e size v n xs) (hb : base' ≤ base) : w.ownsRow base' e size v n xs := by
  refine ⟨h.1, ?_⟩
  rcases h.2 with h2 | ⟨g, cap, cur, hv, hbg, rest⟩
  · exact Or.inl h2
  · exact Or.inr ⟨g, cap, cur, hv, by omega, rest⟩
theorem grown_none_trans {w u v : World} {r : Option Nat} (h : w.grownBy u r) (hb : Below u.heap.size u v) : w.grownBy v r := ⟨hb.os.trans h.os, hb.tape.trans h.tape, hb.output.trans h.output, Nat.le_trans h.size hb.size, fun k hk hne => (hb.block k (Nat.lt_of_lt_of_le hk h.size)).trans (h.block k hk hne)⟩
theorem grown_transS {w u v : World} {r : Option Nat} (h : w.grownBy u r) (hb : u.grownBy v r) : w.grownBy v r := ⟨hb.os.trans h.os, hb.tape.trans h.tape, hb.output.trans h.output, Nat.le_trans h.size hb.size, fun k hk hne => (hb.block k (Nat.lt_of_lt_of_le hk h.size) hne).trans (h.block k hk hne)⟩
theorem grown_newS {w u v : World} {r q : Option Nat} (h : w.grownBy u r) (hb : u.grownBy v q) (hq : ∀ k, q = some k → w.heap.size ≤ k) : w.grownBy v r := ⟨hb.os.trans h.os, hb.tape.trans h.tape, hb.output.trans h.output, Nat.le_trans h.size hb.size, fun k hk hne => (hb.block k (Nat.lt_of_lt_of_le hk h.size) (fun e => by have := hq k e.symm; omega)).trans (h.block k hk hne)⟩
structure Sp (w : World) (b n c base : Nat) (u : World) (cur : Oct.S) (V : Value) (l : List Nat) : Prop where
  fr : w.grownBy u (some b)
  row : RowG u base b n c cur
  stk : Stk u w.heap.size V l
  len : l.length ≤ (Oct.els cur (64 * n)).length
section
variable {w u u' : World} {b n c base : Nat} {cur : Oct.S} {V : Value} {l : List Nat}
theorem Sp.later (h : Sp w b n c base u cur V l) (hb : Below u.heap.size u u') : Sp w b n c base u' cur V l :=
  ⟨grown_none_trans h.fr hb, h.row.later hb, h.stk.keep (fun b _ hl => hb.block b hl), h.len⟩
theorem Sp.old (h : Sp w b n c base u cur V l) {k : Nat} (hk : k < w.heap.size) (hne : k ≠ b) : u.heap[k]? = w.heap[k]? := h.fr.block k hk (fun e => hne (by cases e; rfl))
end
theorem sp_push {w w3 w4 : World} {b n c base : Nat} {cur : Oct.S} {V : Value} {l : List Nat} {t g cap : Nat} {o : Obj} (h : w.grownBy w3 (some b) ∧ RowG w3 base b n c cur ∧ Stk w3 w.heap.size V l) (ho : w4.ownsRow w.heap.size 3 1 (.slice (some ⟨g, 0, none⟩) (l.length + 1) cap) (l.length + 1) (ints l ++ [.int .i64 (t : Nat)])) (hg : (w3.alloc o).grownBy w4 V.ownBlock) (hb : b < w.heap.size) (hlen : l.length + 1 ≤ (Oct.els cur (64 * n)).length) : Sp w b n c base w4 cur (.slice (some ⟨g, 0, none⟩) (l.length + 1) cap) (l ++ [t]) := by
  obtain ⟨h1, h2, h3⟩ := h
  have hV : ∀ k, V.ownBlock = some k → w.heap.size ≤ k := fun k hk => (h3.ty k hk).1
  have hk : Below w3.heap.size w3 (w3.alloc o) := (Below.refl _ _).alloc (Nat.le_refl _) _
  refine ⟨grown_newS (grown_none_trans h1 hk) hg hV, ?_, ?_, ?_⟩
  · exact (h2.later hk).same (hg.block b (by have := h2.lt.1; simp; omega) (fun e => by have := hV b e.symm; omega))
  · unfold Stk
    rw [ints_snoc, List.length_append]
    exact ho
  · rw [List.length_append]
    exact hlen
set_option maxRecDepth 8000 in
set_option maxHeartbeats 8000000 in
theorem spread_any {X : Nat → Prop} (Wb mb b n c base kn kc : Nat) (a : Option Addr) (ks : List Int) (es : List Eg) (f : Oct.S) (w : World)
    (hW : w.cell? ⟨Wb, 0, none⟩ = some (.map (some mb))) (hWb : Wb ≠ b) (hM : ByAt X w mb es) (hX : ∀ k, X k → k ≠ b) (hmb : mb ≠ b) (hR : RowG w base b n c f) (hT : Tab w) (hb0 : b ≠ 0) (hn : n ≤ 2513169434900)
    (hkn : ks.length = kn) (hk1 : kn ≤ 1000) (hK : KsAt w a ks) (hkb : ∀ k off, a = some ⟨k, off, none⟩ → k ≠ b)
    (hf : ∀ s, f s = true → s < 64 * n) (he : ∀ y ∈ es, 0 ≤ y.f ∧ y.f < 64 * (n : Int) ∧ 0 ≤ y.t ∧ y.t < 64 * (n : Int)) (hel : es.length ≤ 2513169434900)
    (hcnt : ∀ g : Oct.S, (∀ s, g s = true → Rch es (fun y => hasK ks y.k) f s) → (Oct.els g (64 * n)).length ≤ 17592186044415) :
    Calls Tryz.prog 36 #[.pointer (some ⟨Wb, 0, none⟩), .slice (some ⟨b, 0, none⟩) n c, .slice a kn kc] w fun e w' => e = .returned (.tuple #[]) ∧ ∃ g, IsCl es (fun y => hasK ks y.k) f g ∧ RowG w' base b n c g ∧ w.grownBy w' (some b) := by
  have hblt := hR.lt.1
  have hWlt := lt_of_cell hW
  have hmlt := hM.lt
  have HW : Hid (w.cell? ⟨Wb, 0, none⟩ = some (.map (some mb))) := hW
  have HM : Hid (ByAt X w mb es) := hM
  have HX : Hid (∀ k, X k → k ≠ b) := hX
  have HK : Hid (KsAt w a ks) := hK
  have HKN : Hid (ks.length = kn) := hkn
  have HKB : Hid (∀ k off, a = some ⟨k, off, none⟩ → k ≠ b) := hkb
  have HEE : Hid (∀ y ∈ es, 0 ≤ y.f ∧ y.f < 64 * (n : Int) ∧ 0 ≤ y.t ∧ y.t < 64 * (n : Int)) := he
  have HCNT : Hid (∀ g : Oct.S, (∀ s, g s = true → Rch es (fun y => hasK ks y.k) f s) → (Oct.els g (64 * n)).length ≤ 17592186044415) := hcnt
  have HNB : Hid (Wb ≠ b ∧ mb ≠ b ∧ b ≠ 0) := ⟨hWb, hmb, hb0⟩
  have HSP : Hid (Spr es (fun y => hasK ks y.k) f f (Oct.els f (64 * n)) []) := spr_start es _ f hf
  have kk : Below w.heap.size w (w.alloc (.cells #[.slice (some ⟨b, 0, none⟩) n c] 74)) := (Below.refl _ _).alloc (Nat.le_refl _) _
  have HC : Hid (Calls Tryz.prog 34 #[.func (.func 56) #[] #[.pointer (some ⟨w.heap.size, 0, none⟩)]] (w.alloc (.cells #[.slice (some ⟨b, 0, none⟩) n c] 74)) _) :=
    collect_any w.heap.size b n c base f _ (Boxed.new w 74 (.slice (some ⟨b, 0, none⟩) n c)).cell (hR.later kk) (hT.later kk) hn (Nat.le_trans (hcnt f (fun s hs => .base s hs)) (by decide))
  have HR : Hid (RowG w base b n c f) := hR
  have HON : Hid (Calls Tryz.prog 31 #[.slice (some ⟨b, 0, none⟩) n c] w _) := on_any b n c w
  obtain ⟨i0, hi, hz0, hz1, hz2⟩ := info_parts info3
  have hmx : 20000000000000 ≤ maxLen := by decide
  have HF0 : Hid (∀ s, f s = true → s < 64 * n) := hf
  clear hW hM hX hR hT hK hkn hkb hf he hcnt hWb hmb hb0
  go_enter Tryz.func36, Tryz.ntmps36
  go_wp2_with fail
  refine HON.out.mono ?_
  rintro e w1 ⟨rfl, rfl⟩
  clear HON
  go_wp2_with fail
  refine HC.out.mono ?_
  rintro e w1 ⟨V0, rfl, hst, hb1⟩
  have HS0 : Hid (Sp w b n c base w1 f V0 (Oct.els f (64 * n))) := by
    have k1 : Below w.heap.size w w1 := kk.trans (hb1.mono (by simp))
    exact ⟨⟨k1.os, k1.tape, k1.output, k1.size, fun k hk _ => k1.block k hk⟩, HR.out.same (k1.block b hblt), ownsRow_low hst (by simp), Nat.le_refl _⟩
  clear HC hst hb1 kk HR
  go_wp2_with fail
  go_loopg [6] (2 * (64 * n - (Oct.els f (64 * n)).length) + (Oct.els f (64 * n)).length + 1) (fun gk V u => ∃ cur l, Hid (Sp w b n c base u cur V l) ∧ Hid (Spr es (fun y => hasK ks y.k) f cur l []) ∧ Hid (2 * (64 * n - (Oct.els cur (64 * n)).length) + l.length + 1 ≤ gk))
  case atStart => exact ⟨f, _, HS0, HSP, Nat.le_refl _⟩
  case round =>
    obtain ⟨cur, l, HS, HP, HG⟩ := hrel
    have hold : ∀ k, k < w.heap.size → k ≠ b → wr.heap[k]? = w.heap[k]? := fun k hk hne => HS.out.old hk hne
    rcases List.eq_nil_or_concat l with rfl | ⟨l', s, rfl⟩
    · obtain ⟨o, cc, hV, _, _⟩ := HS.out.stk.form
      simp only [List.length_nil] at hV
      subst hV
      clear hold
      go_wp2
      go_end0
      exact ⟨rfl, cur, HP.out.done, HS.out.row, HS.out.fr⟩
    · rw [List.concat_eq_append] at HS HP HG
      obtain ⟨o, cc, hV, _, _⟩ := HS.out.stk.form
      subst hV
      obtain ⟨g, rfl, hm, hmc, hcs, hst⟩ := HS.out.stk.pop
      obtain ⟨m, hmm⟩ : ∃ m, m = (l' ++ [s]).length := ⟨_, rfl⟩
      rw [← hmm] at hm hmc HS ⊢
      obtain ⟨k, hk⟩ : ∃ k, k = l'.length := ⟨_, rfl⟩
      rw [← hk] at hm hcs hst
      have HKL : Hid (k = l'.length) := hk
      have HSL : Hid (Stk wr w.heap.size (.slice (some ⟨g, 0, none⟩) k cc) l') := hst
      have hmk : (m : Int) - 1 = (k : Int) := by omega
      have hm0 : (0 : Int) < (m : Int) := by omega
      have hmd : decide (0 < m) = true := decide_eq_true (by omega)
      have hkm : (k : Int) < (m : Int) := by omega
      have hkc : (k : Int) ≤ (cc : Int) := by omega
      have hcnt2 := HCNT.out cur HP.out.rch
      have hk44 : k < 17592186044415 := by have := HS.out.len; rw [← hmm] at this; omega
      obtain ⟨hpop, hcs1⟩ := HP.out.pop (fun y hy => (HEE.out y hy).1)
      have HPP : Hid (Spr es (fun y => hasK ks y.k) f cur l' (fromE es s)) := hpop
      have HCS : Hid (cur s = true) := hcs1
      obtain ⟨nm, F, hmap, hrows⟩ := HM.out
      obtain ⟨ea, ec, hF, hEA⟩ := hrows s
      obtain ⟨en, hen⟩ : ∃ en, en = (fromE es s).length := ⟨_, rfl⟩
      rw [← hen] at hF
      have hs64 : s < 64 * n := by
        have := HP.out.todo s (by simp)
        refine Classical.byContradiction fun hge => ?_
        have h2 := (HP.out.rch s this).lt (S := 64 * n) HF0.out (fun y hy => by have := HEE.out y hy; omega)
        omega
      have hlook := (hmap.same (hold mb hmlt HNB.out.2.1)).look (x := ((s : Nat) : Int)) (by omega) (by omega)
      rw [hF] at hlook
      have HEA : Hid (EAt X w ea (fromE es s)) := hEA
      have HEN : Hid (en = (fromE es s).length) := hen
      have henl : en ≤ 2513169434900 := by rw [hen]; exact Nat.le_trans (fromE_len es s) hel
      have hcw : wr.cell? ⟨Wb, 0, none⟩ = some (.map (some mb)) := (World.cell?_of_block (a := ⟨Wb, 0, none⟩) (hold Wb hWlt HNB.out.1)).trans HW.out
      have HS1 : Hid (Sp w b n c base wr cur (.slice (some ⟨g, 0, none⟩) k cc) l') := ⟨HS.out.fr, HS.out.row, by have h := HSL.out; rw [hk] at h ⊢; exact h, by have := HS.out.len; rw [List.length_append] at this; simp at this; omega⟩
      have HG1 : Hid (2 * (64 * n - (Oct.els cur (64 * n)).length) + l'.length + 2 ≤ gk) := by have := HG.out; rw [List.length_append] at this; simp at this; show _ ≤ _; omega
      clear hold hst hk hpop hcs1 hmap hrows hF hEA hen HS HP HG hcnt2 hm hmm hmc
      go_wp2_with fail
      go_loopw [34, 6] (fun i V u => ∃ j : Nat, ∃ V1 cur2 l2, i = .int .i64 (j : Nat) ∧ V1 = V ∧ j ≤ en ∧ Hid (Sp w b n c base u cur2 V1 l2) ∧ Hid (Spr es (fun y => hasK ks y.k) f cur2 l2 ((fromE es s).drop j)) ∧ Hid (cur2 s = true) ∧ Hid (2 * (64 * n - (Oct.els cur2 (64 * n)).length) + l2.length + 2 ≤ gk)) (fun i _ _ => en - (intOf i).toNat)
      case atStart => exact ⟨0, _, cur, l', rfl, rfl, Nat.zero_le _, HS1, HPP, HCS, HG1⟩
      case round =>
        clear HS1 HPP HCS HG1 hlook hcw hcs HSL hmk hm0 hkm hkc hk44 HKL
        obtain ⟨j, V, cur2, l2, rfl, hVV, hjn, HS, HP, HCS, HG⟩ := hrel
        subst hVV
        have hold : ∀ k, k < w.heap.size → k ≠ b → wr.heap[k]? = w.heap[k]? := fun k hk hne => HS.out.old hk hne
        by_cases hlt : j < en
        · have hlt' : (j : Int) < (en : Int) := by omega
          obtain ⟨y, hy⟩ : ∃ y, (fromE es s)[j]? = some y := ⟨_, List.getElem?_eq_getElem (by rw [← HEN.out]; exact hlt)⟩
          obtain ⟨eb, off, rfl, e0, e1, e2, e3, e4, e5, e6⟩ := (HEA.out.keep (Y := X) (w' := wr) (fun _ h _ => h) (fun k hX hl => hold k hl (HX.out k hX))).nth hy
          have hdrop : (fromE es s).drop j = y :: (fromE es s).drop (j + 1) := by
            rw [List.drop_eq_getElem_cons (List.getElem?_eq_some_iff.1 hy).1, (List.getElem?_eq_some_iff.1 hy).2]
          have hmem := mem_fromE.1 (List.mem_of_getElem? hy)
          have hbnd := HEE.out y hmem.1
          rw [hdrop] at HP
          obtain ⟨k, f0, tz, s0⟩ := y
          simp only at e0 e1 e2 e3 e4 e5 e6 hmem hbnd
          obtain ⟨t, rfl⟩ : ∃ t : Nat, tz = (t : Int) := ⟨tz.toNat, by omega⟩
          have HMEM : Hid ((⟨k, f0, (t : Int), s0⟩ : Eg) ∈ es ∧ f0 = ((s : Nat) : Int)) := hmem
          have ht64 : t < 64 * n := by omega
          have kk : Below wr.heap.size wr (wr.alloc (.cells #[.int .i64 k, .int .i64 f0, .int .i64 (t : Nat), .int .u64 (Oct.word s0 0 : Nat), .int .u64 (Oct.word s0 1 : Nat), .int .u64 (Oct.word s0 2 : Nat), .int .u64 (Oct.word s0 3 : Nat)] 66)) := (Below.refl _ _).alloc (Nat.le_refl _) _
          have HS1 : Hid (Sp w b n c base (wr.alloc (.cells #[.int .i64 k, .int .i64 f0, .int .i64 (t : Nat), .int .u64 (Oct.word s0 0 : Nat), .int .u64 (Oct.word s0 1 : Nat), .int .u64 (Oct.word s0 2 : Nat), .int .u64 (Oct.word s0 3 : Nat)] 66)) cur2 V l2) := HS.out.later kk
          have HE1 : Hid (EB (wr.alloc (.cells #[.int .i64 k, .int .i64 f0, .int .i64 (t : Nat), .int .u64 (Oct.word s0 0 : Nat), .int .u64 (Oct.word s0 1 : Nat), .int .u64 (Oct.word s0 2 : Nat), .int .u64 (Oct.word s0 3 : Nat)] 66)) wr.heap.size ⟨k, f0, (t : Int), s0⟩) := eb_new wr ⟨k, f0, (t : Int), s0⟩
          obtain ⟨w2, hw2⟩ : ∃ w2, wr.alloc (.cells #[.int .i64 k, .int .i64 f0, .int .i64 (t : Nat), .int .u64 (Oct.word s0 0 : Nat), .int .u64 (Oct.word s0 1 : Nat), .int .u64 (Oct.word s0 2 : Nat), .int .u64 (Oct.word s0 3 : Nat)] 66) = w2 := ⟨_, rfl⟩
          rw [hw2] at HS1 HE1
          have HW2 : Hid (wr.alloc (.cells #[.int .i64 k, .int .i64 f0, .int .i64 (t : Nat), .int .u64 (Oct.word s0 0 : Nat), .int .u64 (Oct.word s0 1 : Nat), .int .u64 (Oct.word s0 2 : Nat), .int .u64 (Oct.word s0 3 : Nat)] 66) = w2) := hw2
          obtain ⟨A, hA⟩ : ∃ A, wr.heap.size = A := ⟨_, rfl⟩
          rw [hA] at HE1
          have HAA : Hid (wr.heap.size = A) := hA
          have hAb : A ≠ b := by
            intro e
            have h1 := HS.out.row.lt.1
            omega
          have hold2 : ∀ k, k < w.heap.size → k ≠ b → w2.heap[k]? = w.heap[k]? := fun k hk hne => HS1.out.old hk hne
          have hks : KsAt w2 a ks := by
            rcases HK.out with h | ⟨kb, koff, rfl, hc⟩
            · exact Or.inl h
            · exact Or.inr ⟨kb, koff, rfl, fun j x hj => (World.cell?_of_block (a := ⟨kb, koff + j, none⟩) (hold2 kb (lt_of_cell (hc j x hj)) (HKB.out kb koff rfl))).trans (hc j x hj)⟩
          have HCON : Hid (Calls Tryz.prog 59 #[.slice a kn kc, .int .i64 k] w2 _) := contains_any ks a kn kc k w2 HKN.out hk1 hks
          have HHAS : Hid (Calls Tryz.prog 60 #[.slice (some ⟨b, 0, none⟩) n c, .int .i64 (t : Nat)] w2 _) := hasRow_any base b n c t cur2 w2 HS1.out.row ht64 hn
          have HADD : Hid (Calls Tryz.prog 33 #[.slice (some ⟨b, 0, none⟩) n c, .int .i64 (t : Nat)] w2 _) := addRow_any base b n c t cur2 w2 HS1.out.row ht64 hn
          obtain ⟨d0, d1, d2, d3, d4, d5, d6⟩ := HE1.out.cells
          simp only at d0 d1 d2
          clear hold hold2 hks kk hw2 hA hy hdrop HS hmem hbnd d1 d3 d4 d5 d6
          go_upto_region 7 with fail
          rw [HW2.out, HAA.out]
          clear HW2 HAA e0 e1 e2 e3 e4 e5 e6
          go_wp2_with fail
          refine HCON.out.mono ?_
          rintro r w3 ⟨rfl, rfl⟩
          clear HCON
          cases hk : hasK ks k with
          | false =>
            have HP2 : Hid (Spr es (fun y => hasK ks y.k) f cur2 l2 ((fromE es s).drop (j + 1))) := HP.out.skip (Or.inl hk)
            clear hk
            go_wp2
            go_roundw
            case rel => exact ⟨j + 1, V, cur2, l2, by go_num, rfl, by omega, HS1, HP2, HCS, HG⟩
            case measure => simp [intOf]; omega
          | true =>
            have HKK : Hid (hasK ks k = true) := hk
            clear hk
            go_wp2_with fail
            refine HHAS.out.mono ?_
            rintro r w3 ⟨rfl, rfl⟩
            clear HHAS
            cases hct : cur2 t with
            | true =>
              have HP2 : Hid (Spr es (fun y => hasK ks y.k) f cur2 l2 ((fromE es s).drop (j + 1))) := HP.out.skip (Or.inr (by simpa using hct))
              clear hct
              go_wp2
              go_roundw
              case rel => exact ⟨j + 1, V, cur2, l2, by go_num, rfl, by omega, HS1, HP2, HCS, HG⟩
              case measure => simp [intOf]; omega
            | false =>
              have HP2 : Hid (Spr es (fun y => hasK ks y.k) f (Oct.ins cur2 t) (l2 ++ [t]) ((fromE es s).drop (j + 1))) := by
                have h := HP.out.push HMEM.out.1 HKK.out (by rw [HMEM.out.2]; simpa using HCS.out)
                simp only [Int.toNat_natCast] at h
                exact h
              have HCS2 : Hid (Oct.ins cur2 t s = true) := by show _ = _; unfold Oct.ins; simp [HCS.out]
              have HINS : Hid ((Oct.els (Oct.ins cur2 t) (64 * n)).length = (Oct.els cur2 (64 * n)).length + 1) := by show _ = _; rw [els_ins hct, if_pos ht64]
              have HC44 : Hid ((Oct.els (Oct.ins cur2 t) (64 * n)).length ≤ 17592186044415) := HCNT.out _ HP2.out.rch
              clear hct
              go_wp2_with fail
              refine HADD.out.mono ?_
              rintro r w3 ⟨rfl, hrow3, hg3⟩
              have hst3 : Stk w3 w.heap.size V l2 := HS1.out.stk.keep (fun k hk hl => hg3.block k hl (fun e => by cases e; omega))
              have HS3 : Hid (w.grownBy w3 (some b) ∧ RowG w3 base b n c (Oct.ins cur2 t) ∧ Stk w3 w.heap.size V l2) := ⟨grown_transS HS1.out.fr hg3, hrow3, hst3⟩
              have d2' : w3.cell? ⟨A, 2, none⟩ = some (.int .i64 (t : Nat)) := (World.cell?_of_block (a := ⟨A, 2, none⟩) (hg3.block A HE1.out.lt (fun e => hAb (by cases e; rfl)))).trans d2
              have hl44 : l2.length + 1 ≤ 17592186044415 := by have h1 := HS1.out.len; have h2 := HINS.out; have h3 := HC44.out; omega
              have HROW : Hid ((w3.alloc (.cells #[.int .i64 (t : Nat)] 3)).ownsRow w.heap.size 3 1 V l2.length (ints l2)) := World.ownsRow.alloc hst3 _
              have hsz3 : w.heap.size ≤ w3.heap.size := HS3.out.1.size
              have HLEN : Hid (l2.length ≤ (Oct.els cur2 (64 * n)).length) := HS1.out.len
              clear HADD hrow3 hg3 hst3 HS1 d0 d2
              go_wp2_with (at_builtin; refine wpList_append_lies (P := Tryz.prog) _ rfl _ _ 52 rfl w.heap.size 3 i0 (.int .i64 0) 1 8 Tryz.underlying52 hi hz0 hz1 hz2 rfl (by decide) V l2.length (ints l2) rfl HROW.out ⟨w3.heap.size, 0, none⟩ 1 1 [.int .i64 (t : Nat)] rfl rfl (cell_one_new _ _ _) (by simp [Value.oneCell']) (by decide) (by omega) (by omega) (by rw [World.size_alloc]; omega) _ rfl ?_; intro g4 cap4 w4 ho4 hg4 hat4 _; have HS4 : Hid (Sp w b n c base w4 (Oct.ins cur2 t) (.slice (some ⟨g4, 0, none⟩) (l2.length + 1) cap4) (l2 ++ [t])) := sp_push HS3.out ho4 hg4 hblt (by rw [HINS.out]; have := HLEN.out; omega); clear ho4 hg4 hat4 HROW)
              go_roundw
              case rel => exact ⟨j + 1, _, _, _, by go_num, rfl, by omega, HS4, HP2, HCS2, by show _ ≤ _; have h1 := HG.out; have h2 := HINS.out; have h3 := Oct.els_length (Oct.ins cur2 t) (64 * n); rw [List.length_append]; simp only [List.length_singleton]; omega⟩
              case measure => simp [intOf]; omega
        · have hlt' : ¬ (j : Int) < (en : Int) := by omega
          have HP2 : Hid (Spr es (fun y => hasK ks y.k) f cur2 l2 []) := by
            have h := HP.out
            rw [List.drop_of_length_le (by rw [← HEN.out]; omega)] at h
            exact h
          clear hold
          go_wp2
          go_roundg (gk - 1)
          case measure => have := HG.out; omega
          case rel => exact ⟨cur2, l2, HS, HP2, by show _ ≤ _; have := HG.out; omega⟩
end Go.Proofs.YtmjnobdlgbojoaaGreatDoor


namespace Go.Proofs.YtmjnobdlgbojoaaGreatDoor
open Go.RowKit
attribute [local go_sem ↓] Go.wp_at_zero Go.wp_at_succ
def WkB (w : World) (Wb mb : Nat) (Vr Vi : Value) (r : Nat) (bg : Bool) : Prop := w.heap[Wb]? = some (.cells #[.map (some mb), Vr, Vi, .int .u32 (r : Nat), .bool bg] 76 (0, 0))
section
variable {w w' : World} {Wb mb : Nat} {Vr Vi : Value} {r : Nat} {bg : Bool}
theorem WkB.lt (h : WkB w Wb mb Vr Vi r bg) : Wb < w.heap.size := (Array.getElem?_eq_some_iff.1 h).1
theorem WkB.ty (h : WkB w Wb mb Vr Vi r bg) : TyB w 76 Wb := ⟨_, _, h⟩
theorem WkB.cells (h : WkB w Wb mb Vr Vi r bg) : w.cell? ⟨Wb, 0, none⟩ = some (.map (some mb)) ∧ w.cell? ⟨Wb, 1, none⟩ = some Vr ∧ w.cell? ⟨Wb, 2, none⟩ = some Vi ∧ w.cell? ⟨Wb, 3, none⟩ = some (.int .u32 (r : Nat)) ∧ w.cell? ⟨Wb, 4, none⟩ = some (.bool bg) := by
  refine ⟨?_, ?_, ?_, ?_, ?_⟩ <;> simp [World.cell?, show w.heap[Wb]? = _ from h]
theorem WkB.frozen (h : WkB w Wb mb Vr Vi r bg) (j : Nat) : w.frozen? ⟨Wb, j, none⟩ = false := by simp [World.frozen?, show w.heap[Wb]? = _ from h]
theorem WkB.same (h : WkB w Wb mb Vr Vi r bg) (e : w'.heap[Wb]? = w.heap[Wb]?) : WkB w' Wb mb Vr Vi r bg := e.trans h
theorem WkB.setIn (h : WkB w Wb mb Vr Vi r bg) (V : Value) : WkB (w.setCell ⟨Wb, 2, none⟩ V) Wb mb Vr V r bg := by
  unfold WkB
  rw [heap_set h]
  simp
theorem WkB.setMet (h : WkB w Wb mb Vr Vi r bg) (x : Nat) : WkB (w.setCell ⟨Wb, 3, none⟩ (.int .u32 (x : Nat))) Wb mb Vr Vi x bg := by
  unfold WkB
  rw [heap_set h]
  simp
theorem WkB.setBg (h : WkB w Wb mb Vr Vi r bg) (x : Bool) : WkB (w.setCell ⟨Wb, 4, none⟩ (.bool x)) Wb mb Vr Vi r x := by
  unfold WkB
  rw [heap_set h]
  simp
end
structure Fr2 (A B : Nat) (w w' : World) : Prop where
  os : w'.os = w.os
  tape : w'.tape = w.tape
  output : w'.output = w.output
  size : w.heap.size ≤ w'.heap.size
  block : ∀ k, k < w.heap.size → k ≠ A → k ≠ B → w'.heap[k]? = w.heap[k]?
theorem Fr2.trans {A B : Nat} {w u v : World} (h : Fr2 A B w u) (h2 : Fr2 A B u v) : Fr2 A B w v :=
  ⟨h2.os.trans h.os, h2.tape.trans h.tape, h2.output.trans h.output, Nat.le_trans h.size h2.size, fun k hk h3 h4 => (h2.block k (Nat.lt_of_lt_of_le hk h.size) h3 h4).trans (h.block k hk h3 h4)⟩
theorem Fr2.grown {A B : Nat} {w u : World} (hg : w.grownBy u (some B)) : Fr2 A B w u := ⟨hg.os, hg.tape, hg.output, hg.size, fun k hk _ h4 => hg.block k hk (fun e => h4 (by cases e; rfl))⟩
theorem Fr2.below {A B : Nat} {w u : World} (hg : Below w.heap.size w u) : Fr2 A B w u := ⟨hg.os, hg.tape, hg.output, hg.size, fun k hk _ _ => hg.block k hk⟩
theorem Fr2.set (A B : Nat) (w : World) (j : Nat) (v : Value) : Fr2 A B w (w.setCell ⟨A, j, none⟩ v) := ⟨rfl, rfl, rfl, by simp, fun k _ h3 _ => Below.heap_setCell w ⟨A, j, none⟩ v k h3⟩
theorem Fr2.to {A B : Nat} {w u : World} (h : Fr2 A B w u) {b : Nat} (hA : b ≤ A) (hB : b ≤ B) (hb : b ≤ w.heap.size) : Below b w u := ⟨h.os, h.tape, h.output, h.size, fun k hk => h.block k (by omega) (by omega) (by omega)⟩
theorem KsAt.same {w w' : World} {a : Option Addr} {ks : List Int} (h : KsAt w a ks) (hb : ∀ k off, a = some ⟨k, off, none⟩ → k < w.heap.size → w'.heap[k]? = w.heap[k]?) : KsAt w' a ks := by
  rcases h with h | ⟨b, off, rfl, hc⟩
  · exact Or.inl h
  · exact Or.inr ⟨b, off, rfl, fun j x hj => (World.cell?_of_block (a := ⟨b, off + j, none⟩) (hb b off rfl (lt_of_cell (hc j x hj)))).trans (hc j x hj)⟩
set_option maxRecDepth 8000 in
set_option maxHeartbeats 8000000 in
theorem enter_any {X : Nat → Prop} (Wb mb b n c base kn kc S rc r0 : Nat) (ra : Option Addr) (Vi : Value) (bg : Bool) (a : Option Addr) (ks : List Int) (M : Ma) (f : Oct.S) (w : World) (hM : Fits M S) (hSn : S ≤ 64 * n) (hn : n ≤ 2513169434900) (hel : M.es.length ≤ 2513169434900)
    (hW : WkB w Wb mb (.slice ra S rc) Vi r0 bg) (hBy : ByAt X w mb M.es) (hU : UAt X w ra M.rs) (hX : ∀ k, X k → k ≠ b ∧ k ≠ Wb) (hR : RowG w base b n c f) (hT : Tab w) (hb0 : b ≠ 0) (hW0 : Wb ≠ 0) (hr0 : r0 < 4294967296)
    (hkn : ks.length = kn) (hk1 : kn ≤ 1000) (hK : KsAt w a ks) (hkb : ∀ k off, a = some ⟨k, off, none⟩ → k ≠ b)
    (hf : ∀ s, f s = true → s < S) (hcnt : ∀ g : Oct.S, (∀ s, g s = true → Rch M.es (fun y => hasK ks y.k) (Oct.ins f 0) s) → (Oct.els g (64 * n)).length ≤ 17592186044415) :
    Calls Tryz.prog 29 #[.pointer (some ⟨Wb, 0, none⟩), .slice (some ⟨b, 0, none⟩) n c, .slice a kn kc] w fun e w' => e = .returned (.tuple #[]) ∧ ∃ g, IsCl M.es (fun y => hasK ks y.k) (Oct.ins f 0) g ∧ WkB w' Wb mb (.slice ra S rc) (.slice (some ⟨b, 0, none⟩) n c) (r0 ||| rulesG M.rs g) bg ∧ RowG w' base b n c g ∧ Fr2 Wb b w w' := by
  obtain ⟨hS1, hMS, hrs, hed, h32⟩ := hM
  have hWlt := hW.lt
  have hblt := hR.lt.1
  have hne : Wb ≠ b := fun e => by
    have h1 := hW.ty
    rw [e] at h1
    exact absurd (TyB.ne h1 hR.ty) (by decide)
  have hmb : mb ≠ b := fun e => hBy.no _ (by rw [e]; exact hR.ty)
  have hmW : mb ≠ Wb := fun e => hBy.no _ (by rw [e]; exact hW.ty)
  have h0n : (0 : Nat) < 64 * n := by omega
  have HADD : Hid (Calls Tryz.prog 33 #[.slice (some ⟨b, 0, none⟩) n c, .int .i64 0] w fun e w' => e = .returned (.tuple #[]) ∧ RowG w' base b n c (Oct.ins f 0) ∧ w.grownBy w' (some b)) := addRow_any base b n c 0 f w hR h0n hn
  have hfi : ∀ s, Oct.ins f 0 s = true → s < S := fun s hs => by
    unfold Oct.ins at hs
    simp only [Bool.or_eq_true, beq_iff_eq] at hs
    rcases hs with hs | hs
    · omega
    · exact hf s hs
  have HSPR : Hid (∀ u, w.grownBy u (some b) → RowG u base b n c (Oct.ins f 0) → Calls Tryz.prog 36 #[.pointer (some ⟨Wb, 0, none⟩), .slice (some ⟨b, 0, none⟩) n c, .slice a kn kc] u fun e w' => e = .returned (.tuple #[]) ∧ ∃ g, IsCl M.es (fun y => hasK ks y.k) (Oct.ins f 0) g ∧ RowG w' base b n c g ∧ u.grownBy w' (some b)) := fun u hg hr => by
    have hold : ∀ k, k < w.heap.size → k ≠ b → u.heap[k]? = w.heap[k]? := fun k hk h => hg.block k hk (fun e => h (by cases e; rfl))
    exact spread_any Wb mb b n c base kn kc a ks M.es (Oct.ins f 0) u (hW.same (hold Wb hWlt hne)).cells.1 hne (hBy.keep (Y := X) (hold mb hBy.lt hmb) (fun _ h _ => h) (fun k h hl => hold k hl (hX k h).1)) (fun k h => (hX k h).1) hmb hr (hT.keep (hold 0 hT.pos (fun e => hb0 e.symm))) hb0 hn hkn hk1 (hK.same (fun k off e hl => hold k hl (hkb k off e))) hkb (fun s hs => Nat.lt_of_lt_of_le (hfi s hs) hSn) (fun y hy => by have := hed y hy; omega) hel hcnt
  have HRUL : Hid (∀ u g, Fr2 Wb b w u → RowG u base b n c g → u.cell? ⟨Wb, 1, none⟩ = some (.slice ra S rc) → (∀ s, g s = true → s < S) → Calls Tryz.prog 37 #[.pointer (some ⟨Wb, 0, none⟩), .slice (some ⟨b, 0, none⟩) n c] u fun e W' => e = .returned (.int .u32 (rulesG M.rs g : Nat)) ∧ Below u.heap.size u W') := fun u g hg hr hc hlt => by
    have h := rulesOf_any (X := X) Wb b n c base S rc ra M.rs g u hc hrs (hU.keep (fun _ h _ => h) (fun k h hl => hg.block k hl (hX k h).2 (hX k h).1)) h32 hr (hT.keep (hg.block 0 hT.pos (fun e => hW0 e.symm) (fun e => hb0 e.symm))) hn hlt
    rw [els_all hlt hSn, ← hrs] at h
    exact h
  have HLT : Hid (∀ g, IsCl M.es (fun y => hasK ks y.k) (Oct.ins f 0) g → ∀ s, g s = true → s < S) := fun g hg s hs => hg.lt hfi (fun y hy => by have := hed y hy; omega) hs
  have HWK : Hid (WkB w Wb mb (.slice ra S rc) Vi r0 bg) := hW
  have HNE : Hid (Wb ≠ b) := hne
  have H32 : Hid (∀ x ∈ M.rs, x < 4294967296) := h32
  clear hW hBy hU hX hR hT hkn hK hkb hf hcnt hfi hMS hrs hed h32 hmb hmW hne
  go_enter Tryz.func29, Tryz.ntmps29
  go_wp2_with fail
  refine HADD.out.mono ?_
  rintro e w1 ⟨rfl, hr1, hg1⟩
  have HC : Hid (Calls Tryz.prog 36 #[.pointer (some ⟨Wb, 0, none⟩), .slice (some ⟨b, 0, none⟩) n c, .slice a kn kc] w1 _) := HSPR.out w1 hg1 hr1
  have HG1 : Hid (Fr2 Wb b w w1) := Fr2.grown hg1
  have HWK1 : Hid (WkB w1 Wb mb (.slice ra S rc) Vi r0 bg) := HWK.out.same (hg1.block Wb hWlt (fun e => HNE.out (by cases e; rfl)))
  clear hr1 hg1 HADD HSPR HWK
  go_wp2_with fail
  refine HC.out.mono ?_
  rintro e w2 ⟨rfl, g, hcl, hr2, hg2⟩
  have HCL : Hid (IsCl M.es (fun y => hasK ks y.k) (Oct.ins f 0) g) := hcl
  have hwk2 : WkB w2 Wb mb (.slice ra S rc) Vi r0 bg := HWK1.out.same (hg2.block Wb HWK1.out.lt (fun e => HNE.out (by cases e; rfl)))
  obtain ⟨_, _, p2, _, _⟩ := hwk2.cells
  have q2 := hwk2.frozen 2
  have hwk3 := hwk2.setIn (.slice (some ⟨b, 0, none⟩) n c)
  have hr3 : RowG (w2.setCell ⟨Wb, 2, none⟩ (.slice (some ⟨b, 0, none⟩) n c)) base b n c g := hr2.same (Below.heap_setCell w2 ⟨Wb, 2, none⟩ _ b (fun e => HNE.out (by have e : b = Wb := e; exact e.symm)))
  have hf3 : Fr2 Wb b w (w2.setCell ⟨Wb, 2, none⟩ (.slice (some ⟨b, 0, none⟩) n c)) := (HG1.out.trans (Fr2.grown hg2)).trans (Fr2.set Wb b w2 2 _)
  obtain ⟨w3, hw3⟩ : ∃ w3, w2.setCell ⟨Wb, 2, none⟩ (.slice (some ⟨b, 0, none⟩) n c) = w3 := ⟨_, rfl⟩
  rw [hw3] at hwk3 hr3 hf3
  have HW3 : Hid (w2.setCell ⟨Wb, 2, none⟩ (.slice (some ⟨b, 0, none⟩) n c) = w3) := hw3
  have HWK3 : Hid (WkB w3 Wb mb (.slice ra S rc) (.slice (some ⟨b, 0, none⟩) n c) r0 bg) := hwk3
  have HR3 : Hid (RowG w3 base b n c g) := hr3
  have HF3 : Hid (Fr2 Wb b w w3) := hf3
  have hlt := HLT.out g hcl
  have HRU : Hid (∀ u, Below w3.heap.size w3 u → Calls Tryz.prog 37 #[.pointer (some ⟨Wb, 0, none⟩), .slice (some ⟨b, 0, none⟩) n c] u fun e W' => e = .returned (.int .u32 (rulesG M.rs g : Nat)) ∧ Below u.heap.size u W') := fun u hu =>
    HRUL.out u g (HF3.out.trans (Fr2.below hu)) (HR3.out.later hu) (HWK3.out.same (hu.block Wb HWK3.out.lt)).cells.2.1 hlt
  obtain ⟨ρ, hρ⟩ : ∃ ρ, rulesG M.rs g = ρ := ⟨_, rfl⟩
  have hρl : ρ < 4294967296 := by rw [← hρ]; exact rulesG_lt H32.out
  rw [hρ] at HRU
  have HRHO : Hid (rulesG M.rs g = ρ) := hρ
  have HOR : Hid (bits .or .u32 (r0 : Nat) (ρ : Nat) = ((r0 ||| ρ : Nat) : Int)) := u32_or_nat r0 ρ hr0 hρl
  have HEND : Hid (∀ u, Below w3.heap.size w3 u → WkB (u.setCell ⟨Wb, 3, none⟩ (.int .u32 ((r0 ||| ρ : Nat) : Int))) Wb mb (.slice ra S rc) (.slice (some ⟨b, 0, none⟩) n c) (r0 ||| ρ) bg ∧ RowG (u.setCell ⟨Wb, 3, none⟩ (.int .u32 ((r0 ||| ρ : Nat) : Int))) base b n c g ∧ Fr2 Wb b w (u.setCell ⟨Wb, 3, none⟩ (.int .u32 ((r0 ||| ρ : Nat) : Int)))) := fun u hu =>
    ⟨(HWK3.out.same (hu.block Wb HWK3.out.lt)).setMet _, (HR3.out.later hu).same (Below.heap_setCell u ⟨Wb, 3, none⟩ _ b (fun e => HNE.out (by have e : b = Wb := e; exact e.symm))), (HF3.out.trans (Fr2.below hu)).trans (Fr2.set Wb b u 3 _)⟩
  have HFC : Hid (∀ u, Below w3.heap.size w3 u → u.cell? ⟨Wb, 3, none⟩ = some (.int .u32 (r0 : Nat)) ∧ u.frozen? ⟨Wb, 3, none⟩ = false) := fun u hu => ⟨(HWK3.out.same (hu.block Wb HWK3.out.lt)).cells.2.2.2.1, (HWK3.out.same (hu.block Wb HWK3.out.lt)).frozen 3⟩
  obtain ⟨c3, f3⟩ := HFC.out w3 (Below.refl _ _)
  clear hcl hr2 hg2 hwk2 hwk3 hr3 hf3 hlt hρ hw3 HC HRUL HWK1
  go_upto_region 3 with fail
  rw [HW3.out]
  clear HW3 p2 q2
  go_region_with (go_at_call 37; refine (HRU.out _ ((Below.refl _ _).drew)).mono ?_; rintro e u ⟨rfl, hu⟩; have HU : Hid (Below w3.heap.size w3 u) := (((Below.refl _ w3).drew).trans hu); obtain ⟨c4, f4⟩ := HFC.out u HU.out; clear hu)
  all_goals
    go_wp2
    go_end0
    obtain ⟨h1, h2, h3⟩ := HEND.out _ HU.out
    rw [← HOR.out] at h1 h2 h3
    refine ⟨rfl, g, HCL.out, ?_, h2, h3⟩
    rw [HRHO.out]
    exact h1
end Go.Proofs.YtmjnobdlgbojoaaGreatDoor
