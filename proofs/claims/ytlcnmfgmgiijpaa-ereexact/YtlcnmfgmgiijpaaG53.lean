/- The document's Parse of layer 4: the region that tells a fault, whatever its order. -/
import Derived.Test.YtlcnmfgmgiijpaaG44
import Derived.Test.YtlcnmfgmgiijpaaG01
import Derived.Test.YtlcnmfgmgiijpaaG22
import Derived.Test.YtlcnmfgmgiijpaaG50
import Derived.Test.YtlcnmfgmgiijpaaG52
import Derived.Test.YtlcnmfgmgiijpaaG23
namespace Go.Proofs.Ytlcnmfgmgiijpaa
open Go.RowKit

def D13 (i : Nat) : Nat := if i = 10 then 3 else if i = 11 then 4 else 46 + i
def V13 (B c aa : Nat) : Nat → Value
  | 0 => .agg #[.int .i64 0, .int .u64 0, .int .u64 0, .int .u64 0, .int .u64 0, .slice none 0 0, .int .i64 0, .int .i64 0]
  | 1 => .pointer (some ⟨B, 0, none⟩)
  | 2 => .pointer (some ⟨B, 0, none⟩)
  | 3 => .pointer (some ⟨B, 4, none⟩)
  | 4 => .int .i64 (aa : Nat)
  | 5 => .pointer (some ⟨B, 0, none⟩)
  | 6 => .pointer (some ⟨B, 0, none⟩)
  | 7 => .pointer (some ⟨B, 3, none⟩)
  | 8 => .int .i64 (c : Nat)
  | 10 => .int .i64 (aa : Nat)
  | 11 => .int .i64 (c : Nat)
  | _ => undef
theorem d13_inj {i j : Nat} (hi : i < 12) (hj : j < 12) (h : D13 i = D13 j) : i = j := by
  unfold D13 at h
  split at h
  · split at h
    · omega
    · split at h <;> omega
  · split at h
    · split at h
      · omega
      · split at h <;> omega
    · split at h
      · omega
      · split at h <;> omega
theorem d13_lt {i : Nat} (hi : i < 12) : D13 i < 56 := by
  unfold D13
  split
  · decide
  · split
    · decide
    · omega
structure In13 (w : World) (s : ByteArray) (b0 B R d j c aa : Nat) (act : Act) (L : Nat → Bool) (a : Act) (u : World) : Prop where
  sz : a.tmps.size = 56
  df : a.defers = act.defers
  s2 : T a 2 = T act 2
  s6 : T a 6 = T act 6
  vs : ∀ i, i < 12 → i ≠ 9 → L i = true → T a (D13 i) = V13 B c aa i
  ps : Ps w s b0 B R d u j (.slice none 0 0) [] c aa
theorem In13.put {w : World} {s : ByteArray} {b0 B R d j c aa : Nat} {act : Act} {L : Nat → Bool} {a : Act} {u : World} (h : In13 w s b0 B R d j c aa act L a u) {i : Nat} (hi : i < 12) (hi9 : i ≠ 9) : In13 w s b0 B R d j c aa act (more L i) (a.put (some (D13 i)) (V13 B c aa i)) u := by
  have hlt := d13_lt hi
  have h2 : D13 i ≠ 2 := by
    unfold D13
    split
    · decide
    · split
      · decide
      · omega
  have h6 : D13 i ≠ 6 := by
    unfold D13
    split
    · decide
    · split
      · decide
      · omega
  refine ⟨by simpa [Act.put] using h.sz, h.df, (T_put' h2).trans h.s2, (T_put' h6).trans h.s6, fun k hk hk9 hL => ?_, h.ps⟩
  by_cases e : k = i
  · subst e
    exact T_put (by rw [h.sz]; exact hlt)
  · rw [T_put' (fun e2 => e (d13_inj hk hi e2.symm))]
    refine h.vs k hk hk9 ?_
    simpa [more, e] using hL
set_option maxRecDepth 100000 in
set_option maxHeartbeats 4000000 in
theorem reg13 {act : Act} {w : World} {s : ByteArray} {b0 B R d j c aa : Nat} {W : World} {Q : Exit → Act → World → Prop} (hT2 : T act 2 = .pointer (some ⟨R, 0, none⟩)) (hT6 : T act 6 = .pointer (some ⟨B, 0, none⟩)) (hsz : act.tmps.size = 56) (hS : Ps w s b0 B R d W j (.slice none 0 0) [] c aa)
    (K : ∀ a' W', a'.defers = act.defers → T a' 2 = .pointer (some ⟨R, 0, none⟩) → T a' 3 = .int .i64 (aa : Nat) → T a' 4 = .int .i64 (c : Nat) → Ps w s b0 B R d W' j (.slice none 0 0) [] c aa → Q .normal a' W') : (Code.region 13 (opsOf Try.f19 13) true).wp Try.prog Q act W := by
  refine wp_region_inv (by kernel_rfl) (In13 w s b0 B R d j c aa act) ?wf ?step ?fin ?zero
  case zero =>
    intro L hL
    exact ⟨hsz, rfl, rfl, rfl, fun i hi _ h => absurd h (by rw [hL i hi]; decide), hS.later (Below.refl _ _).drew⟩
  case fin =>
    intro L a u hL hI
    exact K a u hI.df (hI.s2.trans hT2) (hI.vs 10 (by decide) (by decide) (hL 10 (by decide))) (hI.vs 11 (by decide) (by decide) (hL 11 (by decide))) hI.ps
  case wf =>
    have h : AllFrom (fun i o => ∀ e ∈ o.after, Region.binds .any e = true → e.on < i) 0 (opsOf Try.f19 13).toList := by
      refine ⟨by simp, by simp [Region.binds], by simp [Region.binds], by simp [Region.binds], by simp [Region.binds], by simp [Region.binds], by simp [Region.binds], by simp [Region.binds], by simp [Region.binds], by simp [Region.binds], by simp [Region.binds], by simp [Region.binds], trivial⟩
    intro i o e ho he hb
    have := allFrom_at h i o (by simpa using ho) e he hb
    omega
  case step =>
    have h : AllFrom (fun k p => p.guard = none ∧ ∀ L a u, In13 w s b0 B R d j c aa act L a u → L k = false → (∀ e ∈ p.after, Region.binds .any e = true → L e.on = true) → p.wp Try.prog a u (fun a' w' => In13 w s b0 B R d j c aa act (more L k) a' w') Q) 0 (opsOf Try.f19 13).toList := by
      refine ⟨⟨rfl, fun L a u hI hk hE => ?s0⟩, ⟨rfl, fun L a u hI hk hE => ?s1⟩, ⟨rfl, fun L a u hI hk hE => ?s2⟩, ⟨rfl, fun L a u hI hk hE => ?s3⟩, ⟨rfl, fun L a u hI hk hE => ?s4⟩, ⟨rfl, fun L a u hI hk hE => ?s5⟩, ⟨rfl, fun L a u hI hk hE => ?s6⟩, ⟨rfl, fun L a u hI hk hE => ?s7⟩, ⟨rfl, fun L a u hI hk hE => ?s8⟩, ⟨rfl, fun L a u hI hk hE => ?s9⟩, ⟨rfl, fun L a u hI hk hE => ?s10⟩, ⟨rfl, fun L a u hI hk hE => ?s11⟩, trivial⟩
      case s0 =>
        refine ob_plain (v := V13 B c aa 0) (w' := u) ?_ (hI.put (i := 0) (by decide) (by decide))
        simp [execOp, Act.eval, go_sem, V13]
      case s1 =>
        have hx := hI.s6.trans hT6
        refine ob_plain (v := V13 B c aa 1) (w' := u) ?_ (hI.put (i := 1) (by decide) (by decide))
        unfold T at hx
        simp [execOp, Act.eval, hx, go_sem, V13]
      case s2 =>
        have hx := hI.vs 1 (by decide) (by decide) (hE ⟨1, .data⟩ (by simp) rfl)
        refine ob_plain (v := V13 B c aa 2) (w' := u) ?_ (hI.put (i := 2) (by decide) (by decide))
        unfold T D13 V13 at hx
        simp at hx
        simp [execOp, Act.eval, hx, go_sem, V13]
      case s3 =>
        have hx := hI.vs 2 (by decide) (by decide) (hE ⟨2, .data⟩ (by simp) rfl)
        refine ob_plain (v := V13 B c aa 3) (w' := u) ?_ (hI.put (i := 3) (by decide) (by decide))
        unfold T D13 V13 at hx
        simp at hx
        simp [execOp, Act.eval, hx, go_sem, V13]
      case s4 =>
        have hx := hI.vs 3 (by decide) (by decide) (hE ⟨3, .data⟩ (by simp) rfl)
        obtain ⟨_, _, _, _, _, _, c4⟩ := hI.ps.rd.cells
        refine ob_plain (v := V13 B c aa 4) (w' := u) ?_ (hI.put (i := 4) (by decide) (by decide))
        unfold T D13 V13 at hx
        simp at hx
        simp [execOp, Act.eval, hx, go_sem, V13, c4]
      case s5 =>
        have hx := hI.s6.trans hT6
        refine ob_plain (v := V13 B c aa 5) (w' := u) ?_ (hI.put (i := 5) (by decide) (by decide))
        unfold T at hx
        simp [execOp, Act.eval, hx, go_sem, V13]
      case s6 =>
        have hx := hI.vs 5 (by decide) (by decide) (hE ⟨5, .data⟩ (by simp) rfl)
        refine ob_plain (v := V13 B c aa 6) (w' := u) ?_ (hI.put (i := 6) (by decide) (by decide))
        unfold T D13 V13 at hx
        simp at hx
        simp [execOp, Act.eval, hx, go_sem, V13]
      case s7 =>
        have hx := hI.vs 6 (by decide) (by decide) (hE ⟨6, .data⟩ (by simp) rfl)
        refine ob_plain (v := V13 B c aa 7) (w' := u) ?_ (hI.put (i := 7) (by decide) (by decide))
        unfold T D13 V13 at hx
        simp at hx
        simp [execOp, Act.eval, hx, go_sem, V13]
      case s8 =>
        have hx := hI.vs 7 (by decide) (by decide) (hE ⟨7, .data⟩ (by simp) rfl)
        obtain ⟨_, _, _, _, _, c3, _⟩ := hI.ps.rd.cells
        refine ob_plain (v := V13 B c aa 8) (w' := u) ?_ (hI.put (i := 8) (by decide) (by decide))
        unfold T D13 V13 at hx
        simp at hx
        simp [execOp, Act.eval, hx, go_sem, V13, c3]
      case s9 =>
        have hv := hI.vs 0 (by decide) (by decide) (hE ⟨0, .data⟩ (by simp) rfl)
        have hp := hI.s2.trans hT2
        have hnb := hI.ps.res
        obtain ⟨t0, t1, t2, t3, t4, t5, t6, t7⟩ := hnb.cells
        have y0 := hnb.frozen 0
        have y1 := hnb.frozen 1
        have y2 := hnb.frozen 2
        have y3 := hnb.frozen 3
        have y4 := hnb.frozen 4
        have y5 := hnb.frozen 5
        have y6 := hnb.frozen 6
        have y7 := hnb.frozen 7
        refine ob_skip (w' := put8z u R 0 none 0 0 0 0) ?_ ?_
        · unfold T at hp hv
          unfold D13 V13 at hv
          simp at hv
          simp [execOp, Act.eval, hv, hp, go_sem, t0, t1, t2, t3, t4, t5, t6, t7, y0, y1, y2, y3, y4, y5, y6, y7, put8z]
        · rw [put8z_eq]
          have hR := hI.ps.hR
          refine ⟨hI.sz, hI.df, hI.s2, hI.s6, fun k hk hk9 hL => hI.vs k hk hk9 (by simpa [more, hk9] using hL), ⟨hnb.put8 _, hI.ps.rd.put8 hnb _, hI.ps.fr.put8 (by omega) _, nodesT_nil _ _, hR⟩⟩
      case s10 =>
        have hx := hI.vs 4 (by decide) (by decide) (hE ⟨4, .data⟩ (by simp) rfl)
        refine ob_plain (v := V13 B c aa 10) (w' := u) ?_ (hI.put (i := 10) (by decide) (by decide))
        unfold T D13 V13 at hx
        simp at hx
        simp [execOp, Act.eval, hx, go_sem, V13]
      case s11 =>
        have hx := hI.vs 8 (by decide) (by decide) (hE ⟨8, .data⟩ (by simp) rfl)
        refine ob_plain (v := V13 B c aa 11) (w' := u) ?_ (hI.put (i := 11) (by decide) (by decide))
        unfold T D13 V13 at hx
        simp at hx
        simp [execOp, Act.eval, hx, go_sem, V13]
    intro i o ho
    have h2 := allFrom_at h i o (by simpa using ho)
    rw [Nat.zero_add] at h2
    exact h2
end Go.Proofs.Ytlcnmfgmgiijpaa

/- The document's Parse of layer 4: the same as ere.Parse's. -/
namespace Go.Proofs.Ytlcnmfgmgiijpaa
open Go.RowKit
attribute [local go_sem ↓] Go.wp_at_zero Go.wp_at_succ

theorem list_byt (s : ByteArray) (m : Nat) : s.data.toList[m]? = some 10 ↔ m < s.size ∧ byt s m = 10 := by
  have hl : s.data.toList.length = s.size := by simp
  constructor
  · intro h
    have hlt : m < s.size := by rw [← hl]; exact (List.getElem?_eq_some_iff.1 h).1
    refine ⟨hlt, ?_⟩
    rw [byt_eq hlt]
    have h2 := (List.getElem?_eq_some_iff.1 h).2
    have h3 : s.data.toList[m]'(by rw [hl]; exact hlt) = s[m] := by simp; rfl
    rw [← h3, h2]
    rfl
  · rintro ⟨hlt, h⟩
    rw [byt_eq hlt] at h
    have h10 : s[m] = 10 := by rw [← UInt8.toNat_inj]; exact h
    rw [List.getElem?_eq_getElem (by rw [hl]; exact hlt)]
    have h3 : s.data.toList[m]'(by rw [hl]; exact hlt) = s[m] := by simp; rfl
    rw [h3, h10]
theorem newline_first {s : ByteArray} {k : Nat} (hk : k < s.size) (h : byt s k = 10) (hno : ∀ m, m < k → byt s m ≠ 10) : newlineAt s = (k : Nat) := by
  have hg := Lib.indexByte_ge s.data.toList 10
  by_cases h1 : Lib.indexByte s.data.toList 10 = -1
  · exact absurd ((list_byt s k).2 ⟨hk, h⟩) (Lib.indexByte_none h1 k)
  · obtain ⟨o, ho⟩ : ∃ o : Nat, Lib.indexByte s.data.toList 10 = o := ⟨(Lib.indexByte s.data.toList 10).toNat, by omega⟩
    obtain ⟨h2, h3⟩ := Lib.indexByte_some ho
    have h4 := (list_byt s o).1 h2
    have : o = k := by
      rcases Nat.lt_trichotomy o k with h5 | h5 | h5
      · exact absurd h4.2 (hno o h5)
      · exact h5
      · exact absurd ((list_byt s k).2 ⟨hk, h⟩) (h3 k h5)
    unfold newlineAt
    rw [ho, this]
theorem newline_not {s : ByteArray} (hno : ∀ m, m < s.size → byt s m ≠ 10) : ¬ 0 ≤ newlineAt s := by
  intro h
  obtain ⟨o, ho⟩ : ∃ o : Nat, Lib.indexByte s.data.toList 10 = o := ⟨(Lib.indexByte s.data.toList 10).toNat, by unfold newlineAt at h; omega⟩
  have h4 := (list_byt s o).1 (Lib.indexByte_some ho).1
  exact hno o h4.1 h4.2
set_option maxRecDepth 4000 in
theorem res19 {tmps : Array Value} {w : World} {R : Nat} {x : Nd} {v3 v4 : Value} (h2 : tmps[2]?.getD undef = .pointer (some ⟨R, 0, none⟩)) (h3 : tmps[3]?.getD undef = v3) (h4 : tmps[4]?.getD undef = v4) (hR : NB w R x) : (results Try.f19 tmps).run Try.prog w = .ok (.tuple #[x.val, v3, v4]) w := by
  obtain ⟨t0, t1, t2, t3, t4, t5, t6, t7⟩ := hR.cells
  unfold Nd.val
  simp [results, Try.results19, go_sem, h2, h3, h4, t0, t1, t2, t3, t4, t5, t6, t7]
theorem post_rparse {Q : Ending → World → Prop} {a : Act} {w : World} {R : Nat} {x : Nd} {v3 v4 : Value} (hd : a.defers = []) (h2 : a.tmps[2]?.getD undef = .pointer (some ⟨R, 0, none⟩)) (h3 : a.tmps[3]?.getD undef = v3) (h4 : a.tmps[4]?.getD undef = v4) (hR : NB w R x) (hQ : Q (.returned (.tuple #[x.val, v3, v4])) w) : bodyPost Try.prog Try.f19 Q .ret a w :=
  bodyPost_ret (res19 h2 h3 h4 hR) hd hQ
/-- the end with a fault -/
theorem pp_bad {w w' : World} {s : ByteArray} {i c : Nat} (h : parseOf s = .bad i c) (hb : Below w.heap.size w w') : ParsePost w s (.returned (.tuple #[zeroNd.val, .int .i64 (i : Nat), .int .i64 (c : Nat)])) w' := by
  refine ⟨hb, ?_⟩
  rw [h]
theorem pp_ok {w w' : World} {s : ByteArray} {t : Tr} {j : Nat} {x : Nd} (h : parseOf s = .ok t j) (hb : Below w.heap.size w w') (hx : NewT w.heap.size w' t x) : ParsePost w s (.returned (.tuple #[x.val, .int .i64 0, .int .i64 0])) w' := by
  refine ⟨hb, ?_⟩
  rw [h]
  exact ⟨x, rfl, NodeAt.keep hx (fun _ h _ => h.1) (fun _ _ _ => rfl)⟩
theorem rr_new (w : World) (s : ByteArray) (b0 : Nat) (hb : b0 ≤ w.heap.size) : RR (w.alloc (.cells #[.string s, .int .i64 0, .slice none 0 0, .int .i64 0, .int .i64 0] 57)) b0 w.heap.size s 0 0 0 0 :=
  ⟨hb, _, [], heap_alloc_new w _, World.ownsRow_nil _ _ _ _⟩
set_option maxRecDepth 4000 in
set_option maxHeartbeats 8000000 in
theorem rParse_any (s : ByteArray) (w : World) : Calls Try.prog 19 #[.string s] w (ParsePost w s) := by
  have k1 : Below w.heap.size w (w.alloc (.cells #[.int .i64 0, .int .u64 0, .int .u64 0, .int .u64 0, .int .u64 0, .slice none 0 0, .int .i64 0, .int .i64 0] 28)) := (Below.refl _ _).alloc (Nat.le_refl _) _
  have HN1 : Hid (NB (w.alloc (.cells #[.int .i64 0, .int .u64 0, .int .u64 0, .int .u64 0, .int .u64 0, .slice none 0 0, .int .i64 0, .int .i64 0] 28)) w.heap.size zeroNd) := nb_zero w
  have HB1 : Hid (Below w.heap.size w (w.alloc (.cells #[.int .i64 0, .int .u64 0, .int .u64 0, .int .u64 0, .int .u64 0, .slice none 0 0, .int .i64 0, .int .i64 0] 28))) := k1
  obtain ⟨w1, hw1⟩ : ∃ w1, w1 = w.alloc (.cells #[.int .i64 0, .int .u64 0, .int .u64 0, .int .u64 0, .int .u64 0, .slice none 0 0, .int .i64 0, .int .i64 0] 28) := ⟨_, rfl⟩
  obtain ⟨R, hR⟩ : ∃ R, R = w.heap.size := ⟨_, rfl⟩
  rw [← hw1, ← hR] at HN1
  rw [← hw1] at HB1
  have HW1 : Hid (w.alloc (.cells #[.int .i64 0, .int .u64 0, .int .u64 0, .int .u64 0, .int .u64 0, .slice none 0 0, .int .i64 0, .int .i64 0] 28) = w1) := hw1.symm
  have HRR : Hid (w.heap.size = R) := hR.symm
  have HRL : Hid (w.heap.size ≤ R) := by show _ ≤ _; omega
  clear hw1 hR k1
  obtain ⟨z0, z1, z2, z3, z4, z5, z6, z7⟩ := HN1.out.cells
  have y0 := HN1.out.frozen 0
  have y1 := HN1.out.frozen 1
  have y2 := HN1.out.frozen 2
  have y3 := HN1.out.frozen 3
  have y4 := HN1.out.frozen 4
  have y5 := HN1.out.frozen 5
  have y6 := HN1.out.frozen 6
  have y7 := HN1.out.frozen 7
  by_cases hlen : 1024 < s.size
  · have HX : Hid (parseOf s = .bad 1024 40) := by show _ = _; unfold parseOf; rw [if_pos hlen]
    have hlen' : (1024 : Int) < (s.size : Int) := by omega
    clear hlen
    go_enter Try.func19, Try.ntmps19
    go_upto_region 1 with fail
    rw [HW1.out, HRR.out]
    go_wp2
    show bodyPost _ _ _ _ _ (put8z _ R 0 none 0 0 0 0)
    rw [put8z_eq]
    exact post_rparse (R := R) (x := zeroNd) rfl rfl rfl rfl (HN1.out.put8 _) (pp_bad HX.out (below_put8 HB1.out HRL.out _))
  · have hlen' : ¬ (1024 : Int) < (s.size : Int) := by omega
    have hs : s.size ≤ 1024 := by omega
    have HPO : Hid (parseOf s = if 0 ≤ newlineAt s then .bad (newlineAt s).toNat 41 else wholeOf s) := by show _ = _; unfold parseOf; rw [if_neg hlen]
    clear hlen
    go_enter Try.func19, Try.ntmps19
    go_upto_region 1 with fail
    rw [HW1.out, HRR.out]
    go_wp2_with fail
    go_loopw [5] (fun v u => ∃ k : Nat, k ≤ s.size ∧ v = .int .i64 k ∧ Hid (∀ m, m < k → byt s m ≠ 10) ∧ u = w1) (fun v _ => 4000 - (intOf v).toNat)
    case atStart => exact ⟨0, Nat.zero_le _, rfl, fun m h => by omega, rfl⟩
    case round =>
      obtain ⟨k, hk, rfl, hno, hw⟩ := hrel
      subst hw
      by_cases hlt : k < s.size
      · have hlt' : (k : Int) < (s.size : Int) := by omega
        have hb := byt_eq hlt
        by_cases h10 : s[k].toNat = 10
        · have g10 : ((s[k].toNat : Int) == 10) = true := by simp; omega
          have HX : Hid (parseOf s = .bad k 41) := by show _ = _; rw [HPO.out, newline_first hlt (by rw [hb]; exact h10) hno.out, if_pos (by omega)]; rfl
          clear h10 hb hno
          go_wp2
          show bodyPost _ _ _ _ _ (put8z _ R 0 none 0 0 0 0)
          rw [put8z_eq]
          exact post_rparse (R := R) (x := zeroNd) rfl rfl rfl rfl (HN1.out.put8 _) (pp_bad HX.out (below_put8 HB1.out HRL.out _))
        · have g10 : ((s[k].toNat : Int) == 10) = false := by simp; omega
          have HN2 : Hid (∀ m, m < k + 1 → byt s m ≠ 10) := fun m hm => by
            by_cases hmk : m = k
            · subst hmk; rw [hb]; exact h10
            · exact hno.out m (by omega)
          clear h10 hb hno
          go_wp2
          go_roundw
          case rel => exact ⟨k + 1, by omega, by go_num, HN2, trivial⟩
          case measure => simp [intOf]; omega
      · have hlt' : ¬ (k : Int) < (s.size : Int) := by omega
        have HNL : Hid (∀ m, m < s.size → byt s m ≠ 10) := fun m hm => hno.out m (by omega)
        have HNA : Hid (∀ m, byt s m ≠ 10) := no_newline (newline_not HNL.out)
        have HX : Hid (parseOf s = wholeOf s) := by show _ = _; rw [HPO.out, if_neg (newline_not HNL.out)]
        clear hno HPO
        have hz1 : w.heap.size + 1 ≤ wr.heap.size := by have := HN1.out.lt; have := HRR.out; omega
        have hal : Below wr.heap.size wr (wr.alloc (.cells #[.string s, .int .i64 0, .slice none 0 0, .int .i64 0, .int .i64 0] 57)) := (Below.refl _ _).alloc (Nat.le_refl _) _
        have HS2 : Hid (Ps w s w.heap.size wr.heap.size R 0 (wr.alloc (.cells #[.string s, .int .i64 0, .slice none 0 0, .int .i64 0, .int .i64 0] 57)) 0 (.slice none 0 0) [] 0 0) := ⟨HN1.out.later hal, rr_new wr s w.heap.size (by omega), Fr.of_below _ _ (below_trans HB1.out hal HB1.out.size), nodesT_nil _ _, HRR.out.symm⟩
        clear z0 z1 z2 z3 z4 z5 z6 z7 y0 y1 y2 y3 y4 y5 y6 y7
        go_upto_region 9 with fail
        obtain ⟨w2, hw2⟩ : ∃ w2, w2 = wr.alloc (.cells #[.string s, .int .i64 0, .slice none 0 0, .int .i64 0, .int .i64 0] 57) := ⟨_, rfl⟩
        obtain ⟨B, hB⟩ : ∃ B, B = wr.heap.size := ⟨_, rfl⟩
        rw [← hw2, ← hB] at HS2 ⊢
        obtain ⟨b0, hb0⟩ : ∃ b0, b0 = w.heap.size := ⟨_, rfl⟩
        rw [← hb0] at HS2
        have HB0 : Hid (b0 = w.heap.size) := hb0
        have HBB : Hid (b0 ≤ B) := by show _ ≤ _; omega
        clear hw2 hB hal hz1 hb0
        go_wp2_with fail
        refine (rpattern_any b0 B s w2 ⟨HS2.out.rd, Nat.zero_le _, hs, by decide, by have := HS2.out.size; have := HB0.out; omega, HNL.out⟩).mono ?_
        intro e w3 h3
        cases hpt : patOf s with
        | out => exact absurd hpt (patOf_out s)
        | bad a c =>
          have HX2 : Hid (parseOf s = .bad a c) := by show _ = _; rw [HX.out]; unfold wholeOf; rw [hpt]
          rw [hpt] at h3
          obtain ⟨hc0, t, x, j, d', rfl, hx, hr3, hf3⟩ := h3
          clear hpt HX
          have HS3 : Hid (Ps w s b0 B R d' w3 j (.slice none 0 0) [] c a) := HS2.out.read hf3 hr3
          have HX3' : Hid (NewT (w.heap.size + 1) w3 t x) := hx.less HS2.out.size
          obtain ⟨hp4, hb4⟩ := HS3.out.box x
          have HS4 : Hid (Ps w s b0 B R d' _ j (.slice none 0 0) [] c a) := hp4
          have HB4 : Hid (NB _ w3.heap.size x) := hb4
          have HX4 : Hid (NewT (w.heap.size + 1) _ t x) := HX3'.out.later ((Below.refl _ w3).alloc (Nat.le_refl _) (.cells #[.int .i64 x.k, .int .u64 (Oct.word x.s 0 : Nat), .int .u64 (Oct.word x.s 1 : Nat), .int .u64 (Oct.word x.s 2 : Nat), .int .u64 (Oct.word x.s 3 : Nat), .slice x.a x.n x.c, .int .i64 x.mn, .int .i64 x.mx] 28))
          clear hx hr3 hf3 hp4 hb4
          unfold Nd.val
          go_upto_region 10 with fail
          obtain ⟨w4, hw4⟩ : ∃ w4, w4 = w3.alloc (.cells #[.int .i64 x.k, .int .u64 (Oct.word x.s 0 : Nat), .int .u64 (Oct.word x.s 1 : Nat), .int .u64 (Oct.word x.s 2 : Nat), .int .u64 (Oct.word x.s 3 : Nat), .slice x.a x.n x.c, .int .i64 x.mn, .int .i64 x.mx] 28) := ⟨_, rfl⟩
          obtain ⟨G, hG⟩ : ∃ G, G = w3.heap.size := ⟨_, rfl⟩
          rw [← hw4] at HS4 HB4 HX4 ⊢
          rw [← hG] at HB4 ⊢
          clear hw4 hG
          obtain ⟨oo, cc, c0, c1, c2, c3, c4⟩ := HS4.out.rd.cells
          obtain ⟨p0, p1, p2, p3, p4, p5, p6, p7⟩ := HB4.out.cells
          have q0 : ((c : Int) == 0) = false := by simp <;> omega
          have q1 : ((c : Int) != 0) = true := by simp <;> omega
          clear c0 c1 c2 c3 c4 p0 p1 p2 p3 p4 p5 p6 p7
          obtain ⟨oo, cc, c0, c1, c2, c3, c4⟩ := HS4.out.rd.cells
          obtain ⟨z0, z1, z2, z3, z4, z5, z6, z7⟩ := HS4.out.res.cells
          have y0 := HS4.out.res.frozen 0
          have y1 := HS4.out.res.frozen 1
          have y2 := HS4.out.res.frozen 2
          have y3 := HS4.out.res.frozen 3
          have y4 := HS4.out.res.frozen 4
          have y5 := HS4.out.res.frozen 5
          have y6 := HS4.out.res.frozen 6
          have y7 := HS4.out.res.frozen 7
          go_upto_region 13 with fail
          refine reg13 rfl rfl rfl HS4.out ?_
          intro a7 w7 hd7 h72 h73 h74 hp7
          have HP7 : Hid (Ps w s b0 B R _ w7 _ (.slice none 0 0) [] c a) := hp7
          clear hp7 c0 c1 c2 c3 c4 z0 z1 z2 z3 z4 z5 z6 z7 y0 y1 y2 y3 y4 y5 y6 y7
          go_wp2
          exact post_rparse (R := R) (x := zeroNd) hd7 h72 h73 h74 HP7.out.res (pp_bad HX2.out (HB0.out ▸ HP7.out.fr.below HBB.out (by rw [HB0.out]; exact Nat.le_refl _)))
        | ok t j =>
          have hst : ¬ j < s.size ∨ sees s j 41 = true := pat_stop hpt
          have HGD : Hid (Good (j + 1) t) := ((read_good s HNA.out _).1 _ _ _ _ hpt)
          have HX1 : Hid (parseOf s = if j = s.size then (if 2048 < placesOf (up t) then .bad 0 48 else .ok t j) else .bad j 42) := by show _ = _; rw [HX.out]; unfold wholeOf; rw [hpt]
          rw [hpt] at h3
          clear hpt HX
          cases h41 : sees s j 41 with
          | true =>
            have hjl := seesl h41
            have HX2 : Hid (parseOf s = .bad j 42) := by show _ = _; rw [HX1.out, if_neg (by omega)]
            rw [show top s 0 (.ok t j) = .bad j 42 from by unfold top; simp only; rw [if_pos ⟨trivial, h41⟩]] at h3
            obtain ⟨hc0, t2, x, j2, d', rfl, hx, hr3, hf3⟩ := h3
            clear hst h41 HX1 HGD
            have HS3 : Hid (Ps w s b0 B R d' w3 j2 (.slice none 0 0) [] 42 j) := HS2.out.read hf3 hr3
            have HX3' : Hid (NewT (w.heap.size + 1) w3 t2 x) := hx.less HS2.out.size
            obtain ⟨hp4, hb4⟩ := HS3.out.box x
            have HS4 : Hid (Ps w s b0 B R d' _ j2 (.slice none 0 0) [] 42 j) := hp4
            have HB4 : Hid (NB _ w3.heap.size x) := hb4
            have HX4 : Hid (NewT (w.heap.size + 1) _ t2 x) := HX3'.out.later ((Below.refl _ w3).alloc (Nat.le_refl _) (.cells #[.int .i64 x.k, .int .u64 (Oct.word x.s 0 : Nat), .int .u64 (Oct.word x.s 1 : Nat), .int .u64 (Oct.word x.s 2 : Nat), .int .u64 (Oct.word x.s 3 : Nat), .slice x.a x.n x.c, .int .i64 x.mn, .int .i64 x.mx] 28))
            clear hx hr3 hf3 hp4 hb4
            unfold Nd.val
            go_upto_region 10 with fail
            obtain ⟨w4, hw4⟩ : ∃ w4, w4 = w3.alloc (.cells #[.int .i64 x.k, .int .u64 (Oct.word x.s 0 : Nat), .int .u64 (Oct.word x.s 1 : Nat), .int .u64 (Oct.word x.s 2 : Nat), .int .u64 (Oct.word x.s 3 : Nat), .slice x.a x.n x.c, .int .i64 x.mn, .int .i64 x.mx] 28) := ⟨_, rfl⟩
            obtain ⟨G, hG⟩ : ∃ G, G = w3.heap.size := ⟨_, rfl⟩
            rw [← hw4] at HS4 HB4 HX4 ⊢
            rw [← hG] at HB4 ⊢
            clear hw4 hG
            obtain ⟨oo, cc, c0, c1, c2, c3, c4⟩ := HS4.out.rd.cells
            obtain ⟨p0, p1, p2, p3, p4, p5, p6, p7⟩ := HB4.out.cells
            clear c0 c1 c2 c3 c4 p0 p1 p2 p3 p4 p5 p6 p7
            obtain ⟨oo, cc, c0, c1, c2, c3, c4⟩ := HS4.out.rd.cells
            obtain ⟨z0, z1, z2, z3, z4, z5, z6, z7⟩ := HS4.out.res.cells
            have y0 := HS4.out.res.frozen 0
            have y1 := HS4.out.res.frozen 1
            have y2 := HS4.out.res.frozen 2
            have y3 := HS4.out.res.frozen 3
            have y4 := HS4.out.res.frozen 4
            have y5 := HS4.out.res.frozen 5
            have y6 := HS4.out.res.frozen 6
            have y7 := HS4.out.res.frozen 7
            go_upto_region 13 with fail
            refine reg13 rfl rfl rfl HS4.out ?_
            intro a7 w7 hd7 h72 h73 h74 hp7
            have HP7 : Hid (Ps w s b0 B R _ w7 _ (.slice none 0 0) [] 42 j) := hp7
            clear hp7 c0 c1 c2 c3 c4 z0 z1 z2 z3 z4 z5 z6 z7 y0 y1 y2 y3 y4 y5 y6 y7
            go_wp2
            exact post_rparse (R := R) (x := zeroNd) hd7 h72 h73 h74 HP7.out.res (pp_bad HX2.out (HB0.out ▸ HP7.out.fr.below HBB.out (by rw [HB0.out]; exact Nat.le_refl _)))
          | false =>
            have hjs : ¬ j < s.size := by
              rcases hst with h | h
              · exact h
              · rw [h41] at h; cases h
            rw [show top s 0 (.ok t j) = .ok t j from by unfold top; simp only; rw [if_neg (fun h => by rw [h41] at h; cases h.2)]] at h3
            obtain ⟨hj, x, rfl, hx, hr3, hf3⟩ := h3
            have HX3 : Hid (parseOf s = if 2048 < placesOf (up t) then .bad 0 48 else .ok t j) := by show _ = _; rw [HX1.out, if_pos (by omega)]
            clear hst h41 HX1 hjs
            have HS3 : Hid (Ps w s b0 B R 0 w3 j (.slice none 0 0) [] 0 0) := HS2.out.read hf3 hr3
            have HX3' : Hid (NewT (w.heap.size + 1) w3 t x) := hx.less HS2.out.size
            obtain ⟨hp4, hb4⟩ := HS3.out.box x
            have HS4 : Hid (Ps w s b0 B R 0 _ j (.slice none 0 0) [] 0 0) := hp4
            have HB4 : Hid (NB _ w3.heap.size x) := hb4
            have HX4 : Hid (NewT (w.heap.size + 1) _ t x) := HX3'.out.later ((Below.refl _ w3).alloc (Nat.le_refl _) (.cells #[.int .i64 x.k, .int .u64 (Oct.word x.s 0 : Nat), .int .u64 (Oct.word x.s 1 : Nat), .int .u64 (Oct.word x.s 2 : Nat), .int .u64 (Oct.word x.s 3 : Nat), .slice x.a x.n x.c, .int .i64 x.mn, .int .i64 x.mx] 28))
            clear hx hr3 hf3 hp4 hb4
            unfold Nd.val
            go_upto_region 10 with fail
            obtain ⟨w4, hw4⟩ : ∃ w4, w4 = w3.alloc (.cells #[.int .i64 x.k, .int .u64 (Oct.word x.s 0 : Nat), .int .u64 (Oct.word x.s 1 : Nat), .int .u64 (Oct.word x.s 2 : Nat), .int .u64 (Oct.word x.s 3 : Nat), .slice x.a x.n x.c, .int .i64 x.mn, .int .i64 x.mx] 28) := ⟨_, rfl⟩
            obtain ⟨G, hG⟩ : ∃ G, G = w3.heap.size := ⟨_, rfl⟩
            rw [← hw4] at HS4 HB4 HX4 ⊢
            rw [← hG] at HB4 ⊢
            clear hw4 hG
            obtain ⟨oo, cc, c0, c1, c2, c3, c4⟩ := HS4.out.rd.cells
            obtain ⟨p0, p1, p2, p3, p4, p5, p6, p7⟩ := HB4.out.cells
            have HIN : Hid (InAt w4 (up t) x) := NodeAt.inAt HX4.out (N := j + 1) (by omega) (by omega) HGD.out
            have HPL : Hid (Calls Try.prog 21 #[x.val] w4 fun e w' => e = .returned (.int .i64 (placesOf (up t) : Nat)) ∧ Below w4.heap.size w4 w') := rPlaces_any w4 HIN.out
            have hple := placesOf_le (up t)
            obtain ⟨P, hP⟩ : ∃ P, P = placesOf (up t) := ⟨_, rfl⟩
            rw [← hP] at HPL HX3 hple
            clear hP
            have HPLV := HPL.out
            unfold Nd.val at HPLV
            have HPL2 : Hid (Calls Try.prog 21 _ w4 _) := HPLV
            clear HPLV HPL
            go_wp2_with fail
            refine HPL2.out.mono ?_
            rintro e w5 ⟨rfl, hb5⟩
            have HS5 : Hid (Ps w s b0 B R 0 w5 j (.slice none 0 0) [] 0 0) := HS4.out.later hb5
            have HB5 : Hid (NB w5 G x) := HB4.out.later hb5
            have HX5 : Hid (NewT (w.heap.size + 1) w5 t x) := HX4.out.later hb5
            clear hb5 c0 c1 c2 c3 c4 p0 p1 p2 p3 p4 p5 p6 p7
            by_cases hpl : 2048 < P
            · have g1 : (2048 : Int) < (P : Int) := by omega
              have HX2 : Hid (parseOf s = .bad 0 48) := by show _ = _; rw [HX3.out, if_pos hpl]
              clear hpl HX3
              go_wp2_with fail
              refine (rfault_lit b0 B j 0 48 0 _ rfl s _ HS5.out.rd).mono ?_
              rintro e w6 ⟨rfl, hr6, hf6⟩
              have HS4' : Hid (Ps w s b0 B R 0 w6 j (.slice none 0 0) [] 48 0) := HS5.out.read hf6 hr6
              clear hr6 hf6
              have hc0 : (48 : Nat) ≠ 0 := by decide
              clear HX5
              obtain ⟨oo, cc, c0, c1, c2, c3, c4⟩ := HS4'.out.rd.cells
              obtain ⟨z0, z1, z2, z3, z4, z5, z6, z7⟩ := HS4'.out.res.cells
              have y0 := HS4'.out.res.frozen 0
              have y1 := HS4'.out.res.frozen 1
              have y2 := HS4'.out.res.frozen 2
              have y3 := HS4'.out.res.frozen 3
              have y4 := HS4'.out.res.frozen 4
              have y5 := HS4'.out.res.frozen 5
              have y6 := HS4'.out.res.frozen 6
              have y7 := HS4'.out.res.frozen 7
              unfold zeroNd Nd.val
              go_upto_region 13 with fail
              refine reg13 rfl rfl rfl HS4'.out ?_
              intro a7 w7 hd7 h72 h73 h74 hp7
              have HP7 : Hid (Ps w s b0 B R _ w7 _ (.slice none 0 0) [] 48 0) := hp7
              clear hp7 c0 c1 c2 c3 c4 z0 z1 z2 z3 z4 z5 z6 z7 y0 y1 y2 y3 y4 y5 y6 y7
              go_wp2
              exact post_rparse (R := R) (x := zeroNd) hd7 h72 h73 h74 HP7.out.res (pp_bad HX2.out (HB0.out ▸ HP7.out.fr.below HBB.out (by rw [HB0.out]; exact Nat.le_refl _)))
            · have g1 : ¬ (2048 : Int) < (P : Int) := by omega
              have HX2 : Hid (parseOf s = .ok t j) := by show _ = _; rw [HX3.out, if_neg hpl]
              clear hpl HX3
              obtain ⟨oo, cc, c0, c1, c2, c3, c4⟩ := HS5.out.rd.cells
              obtain ⟨p0, p1, p2, p3, p4, p5, p6, p7⟩ := HB5.out.cells
              obtain ⟨z0, z1, z2, z3, z4, z5, z6, z7⟩ := HS5.out.res.cells
              have y0 := HS5.out.res.frozen 0
              have y1 := HS5.out.res.frozen 1
              have y2 := HS5.out.res.frozen 2
              have y3 := HS5.out.res.frozen 3
              have y4 := HS5.out.res.frozen 4
              have y5 := HS5.out.res.frozen 5
              have y6 := HS5.out.res.frozen 6
              have y7 := HS5.out.res.frozen 7
              go_wp2
              exact post_rparse (R := R) (x := x) rfl rfl rfl rfl (HS5.out.res.put8 x) (pp_ok HX2.out (below_put8 (HB0.out ▸ HS5.out.fr.below HBB.out (by rw [HB0.out]; exact Nat.le_refl _)) HRL.out x) ((HX5.out.put8 (by rw [← HRR.out]; omega) x).less (Nat.le_succ _)))
end Go.Proofs.Ytlcnmfgmgiijpaa
