/- past: the iterator over the whole lines of a text: its contract, for every loop body that keeps the text. -/
import Derived.RangeFuncNested
import Derived.RangeFuncBound
import Derived.RangeFuncCalls
import Derived.RangeFuncLeaves
import Derived.RangeFuncBox
import Derived.RangeFuncWrites
import Derived.Shelf.Abstract
import Derived.Shelf.RegionOpen
import Derived.OwnWalkIn
import Derived.TacticsInMore
import Derived.LoopNIn
import Derived.LoopIn
import Derived.Maps.AppendAt
import Derived.Test.YtobbcgendjakiaaG29
import Derived.Test.YtobbcgendjakiaaG30
namespace Go.Proofs.Ytobbcgendjakiaa
open Go.RowKit Go.Shelf Sf
attribute [local go_sem] Oper.semAt_some

/-- a place of a text, and the bytes from there to the next newline -/
abbrev Ln (bs : List UInt8) := { x : Nat × List UInt8 // ∃ r, bs.drop x.1 = x.2 ++ 10 :: r }
abbrev encL (b c : Nat) (bs : List UInt8) (x : Ln bs) : Array Value := #[.int .i64 (x.val.1 : Nat), .slice (some ⟨b, x.val.1, none⟩) x.val.2.length (c - x.val.1)]
def lnV {bs : List UInt8} (l : List (Ln bs)) : List (Nat × List UInt8) := l.map (fun x => x.val)
theorem lnV_snoc {bs : List UInt8} (l : List (Ln bs)) (x : Ln bs) : lnV (l ++ [x]) = lnV l ++ [x.val] := by unfold lnV; rw [List.map_append]; rfl
theorem lnV_length {bs : List UInt8} (l : List (Ln bs)) : (lnV l).length = l.length := by unfold lnV; exact List.length_map _
/-- what a round keeps: all below n₀, and the text's box -/
def KpL (n₀ A : Nat) (W W' : World) : Prop := ∀ k, (k < n₀ ∨ k = A) → W'.heap[k]? = W.heap[k]?
theorem kpL_t {n₀ A : Nat} {X Y Z : World} (h : KpL n₀ A X Y) (k : KpL n₀ A Y Z) : KpL n₀ A X Z := fun j hj => (k j hj).trans (h j hj)
theorem kpL_b {n₀ A : Nat} {w : World} (hn : n₀ ≤ w.heap.size) (hA : A < w.heap.size) (W : World) (l : Nat) (o o' : Obj) (hl : w.heap.size ≤ l) (h : W.heap[l]? = some o) (_ : o.isCells = false) (_ : o.isWalk = false) : KpL n₀ A W (W.putObj l o') := fun k hk => by
  have hlt := (Array.getElem?_eq_some_iff.1 h).1
  have hkl : k < l := by omega
  exact (grownBy_putObj' W l o').block k (by omega) (fun e => by cases e; omega)
structure TxA (W : World) (A b n c : Nat) (bs : List UInt8) : Prop where
  bx : W.heap[A]? = some (.cells #[.slice (some ⟨b, 0, none⟩) n c] 72 (0, 0))
  la : LAt W (.slice (some ⟨b, 0, none⟩) n c) (uv bs)
theorem TxA.kept {W W' : World} {A b n c n₀ : Nat} {bs : List UInt8} (h : TxA W A b n c bs) (hk : KpL n₀ A W W') (hb : b < n₀) : TxA W' A b n c bs := by
  refine ⟨(hk A (.inr rfl)).trans h.bx, ?_⟩
  obtain ⟨a', c', e, h1, h2, h3⟩ := h.la
  refine ⟨a', c', e, h1, h2, ?_⟩
  rcases h3 with h3 | ⟨b', off, e2, hc⟩
  · exact .inl h3
  · refine .inr ⟨b', off, e2, fun k v hv => ?_⟩
    rw [e2] at e
    cases e
    have := hc k v hv
    simp only [World.cell?] at this ⊢
    rw [hk b (.inl hb)]
    exact this
theorem TxA.len {W : World} {A b n c : Nat} {bs : List UInt8} (h : TxA W A b n c bs) : bs.length = n ∧ n ≤ c ∧ c ≤ 9223372036854775807 := by
  obtain ⟨a', c', e, h1, h2, _⟩ := h.la
  cases e
  rw [uv_len] at h1 ⊢
  exact ⟨rfl, h1, h2⟩
set_option maxRecDepth 100000 in
set_option maxHeartbeats 4000000 in
theorem whole1_in (nF : Nat) (hF : 1 ≤ nF) (l A b n c n₀ : Nat) (bs : List UInt8) (hb : b < n₀) (hn : n ≤ 1048576) (N : Nat) (hN : (lines bs).length ≤ N) (J Jx : List (Ln bs) → World → Prop)
    (hY : ∀ pre x W1, J pre W1 → pre.length < N → YieldAt Fence.wide (nF - 1) Try.prog l (encL b c bs x) W1 fun e W' =>
      (e = .returned (.bool true) ∧ J (pre ++ [x]) W' ∧ KpL n₀ A W1 W') ∨ (e = .returned (.bool false) ∧ Jx (pre ++ [x]) W'))
    (W : World) (hT : TxA W A b n c bs) (hJ0 : J [] W) :
    CallsIn Fence.wide nF Try.prog 48 #[.func (.yield l) #[] #[], .pointer (some ⟨A, 0, none⟩)] W fun e W' => (∃ v, e = .returned v) ∧
      ((∃ ys, lnV ys = lines bs ∧ J ys W') ∨ (∃ pre, True ∧ Jx pre W')) := by
  have HT0 : Hid (TxA W A b n c bs) := hT
  obtain ⟨hbn, hnc, hc⟩ := hT.len
  have HBN : Hid (bs.length = n) := hbn
  have H0 : Hid (∃ pre : List (Ln bs), lnV pre ++ lns 0 [] (bs.drop 0) = lines bs ∧ J pre W) := ⟨[], rfl, hJ0⟩
  have HY : Hid (∀ pre x W1, J pre W1 → pre.length < N → YieldAt Fence.wide (nF - 1) Try.prog l (encL b c bs x) W1 fun e W' =>
      (e = .returned (.bool true) ∧ J (pre ++ [x]) W' ∧ KpL n₀ A W1 W') ∨ (e = .returned (.bool false) ∧ Jx (pre ++ [x]) W')) := hY
  have HNN : Hid ((lines bs).length ≤ N) := hN
  clear hT hJ0 hY hN hbn
  refine callsIn_of_wp Try.func48 rfl trivial ?_ rfl
  simp only [Try.ntmps48, List.size_toArray, List.length_cons, List.length_nil, Nat.reduceAdd, Nat.reduceSub, Array.replicate_succ, Array.replicate_zero, List.push_toArray, List.append_toArray, List.nil_append, List.cons_append]
  gi_wp2
  gi_loopw [3] (fun i wr => ∃ k : Nat, k ≤ n ∧ i = .int .i64 k ∧ Hid (TxA wr A b n c bs) ∧ Hid (∃ pre : List (Ln bs), lnV pre ++ lns k [] (bs.drop k) = lines bs ∧ J pre wr))
    (fun i _ => n + 1 - (intOf i).toNat)
  case atStart => exact ⟨0, Nat.zero_le _, rfl, HT0, H0⟩
  case round =>
    obtain ⟨k, hk, rfl, ht, hj⟩ := hrel
    clear HT0 H0
    have c0 : wr.cell? ⟨A, 0, none⟩ = some (.slice (some ⟨b, 0, none⟩) n c) := by simp [World.cell?, ht.out.bx]
    by_cases hkc : k = c
    · have hkn : k = n := by omega
      subst hkc
      subst hkn
      have HI : Hid (Calls Try.prog 49 #[.slice (some ⟨b, 0, none⟩) 0 0, .int .u8 10] wr fun e w' => e = .returned (.int .i64 (-1)) ∧ w' = wr) := idx_any (l := []) ⟨_, 0, rfl, Nat.le_refl _, by omega, .inl rfl⟩ rfl
      have HE : Hid (∃ ys : List (Ln bs), lnV ys = lines bs ∧ J ys wr) := by
        obtain ⟨pre, e, hJ⟩ := hj.out
        rw [List.drop_eq_nil_of_le (by rw [HBN.out]; exact Nat.le_refl _)] at e
        simp only [lns, List.append_nil] at e
        exact ⟨pre, e, hJ⟩
      clear hj
      gi_wp2
      refine ⟨trivial, ?_⟩
      refine (callsIn_wide.2 HI.out).mono ?_
      rintro e w1 ⟨rfl, rfl⟩
      clear HI
      gi_wp2
      refine ⟨fun _ h => (by cases h), ?_⟩
      gi_wp2
      first | go_end0 | (simp only [Exit.inBlock, Exit.then]; refine bodyPost_ret (results_none rfl _ _ _) rfl ?_) | refine bodyPost_ret (results_none rfl _ _ _) rfl ?_
      exact ⟨⟨_, rfl⟩, .inl HE.out⟩
    · have hkc2 : ¬ c = k := fun e => hkc e.symm
      have hla : LAt wr (.slice (some ⟨b, k, none⟩) (n - k) (c - k)) (uv (bs.drop k)) := by
        have x := ht.out.la.drop (k := k) rfl hk
        rw [Nat.zero_add, ← uv_drop] at x
        exact x
      rcases idx_spec (bs.drop k) with ⟨hno, hix⟩ | ⟨a, r, hdr, hno, hix⟩
      · have HI : Hid (Calls Try.prog 49 #[.slice (some ⟨b, k, none⟩) (n - k) (c - k), .int .u8 10] wr fun e w' => e = .returned (.int .i64 (-1)) ∧ w' = wr) := (idx_any hla rfl).mono (fun e w' x => by rw [hix] at x; exact x)
        have HE : Hid (∃ ys : List (Ln bs), lnV ys = lines bs ∧ J ys wr) := by
          obtain ⟨pre, e, hJ⟩ := hj.out
          rw [lns_none _ _ _ hno, List.append_nil] at e
          exact ⟨pre, e, hJ⟩
        clear hj hla hno hix hkc
        gi_wp2
        refine ⟨trivial, ?_⟩
        refine (callsIn_wide.2 HI.out).mono ?_
        rintro e w1 ⟨rfl, rfl⟩
        clear HI
        gi_wp2
        refine ⟨fun _ h => (by cases h), ?_⟩
        gi_wp2
        first | go_end0 | (simp only [Exit.inBlock, Exit.then]; refine bodyPost_ret (results_none rfl _ _ _) rfl ?_) | refine bodyPost_ret (results_none rfl _ _ _) rfl ?_
        exact ⟨⟨_, rfl⟩, .inl HE.out⟩
      · obtain ⟨m, hm⟩ : ∃ m, a.length = m := ⟨_, rfl⟩
        have hlen : k + m + 1 ≤ n := by
          have x := congrArg List.length hdr
          rw [List.length_drop, HBN.out, List.length_append, List.length_cons, hm] at x
          omega
        have HI : Hid (Calls Try.prog 49 #[.slice (some ⟨b, k, none⟩) (n - k) (c - k), .int .u8 10] wr fun e w' => e = .returned (.int .i64 (m : Nat)) ∧ w' = wr) := (idx_any hla rfl).mono (fun e w' x => by rw [hix, hm] at x; exact x)
        have hd2 : bs.drop (k + m + 1) = r := by
          rw [show k + m + 1 = k + (m + 1) by omega, ← List.drop_drop, hdr, ← hm, show a.length + 1 = (a ++ [10]).length by simp, show a ++ 10 :: r = (a ++ [10]) ++ r by simp, List.drop_left]
        obtain ⟨pre, hpre, hJp⟩ := hj.out
        have hls : lns k [] (bs.drop k) = (k, a) :: lns (k + m + 1) [] (bs.drop (k + m + 1)) := by
          rw [hd2, hdr, lns_some a r k [] hno, List.nil_append, hm]
        rw [hls] at hpre
        have hpl : pre.length < N := by
          have x := congrArg List.length hpre
          rw [List.length_append, lnV_length, List.length_cons] at x
          have := HNN.out
          omega
        have HPRE : Hid (lnV (pre ++ [⟨(k, a), ⟨r, hdr⟩⟩]) ++ lns (k + m + 1) [] (bs.drop (k + m + 1)) = lines bs) := by
          show _ = _
          rw [lnV_snoc, ← hpre]
          simp
        obtain ⟨fn, tmps, assign, body, hy, hR⟩ := HY.out pre ⟨(k, a), ⟨r, hdr⟩⟩ wr hJp hpl
        dsimp only [encL] at hy
        rw [hm] at hy
        have hm0 : ¬ (m : Int) < 0 := by omega
        have hle1 : (k : Int) ≤ (k : Int) + (m : Int) := by omega
        have hle2 : (k : Int) + (m : Int) ≤ (c : Int) := by omega
        have hsub : k + m - k = m := by omega
        clear hj hla hno hix hkc hpre hls hd2 hJp hm hpl
        gi_wp2
        refine ⟨trivial, ?_⟩
        refine (callsIn_wide.2 HI.out).mono ?_
        rintro e w1 ⟨rfl, rfl⟩
        clear HI
        gi_wp2
        refine hR.mono ?_
        rintro e w3 (⟨rfl, hJ3, hk3⟩ | ⟨rfl, hJx3⟩)
        · have HT3 : Hid (TxA w3 A b n c bs) := ht.out.kept hk3 hb
          have HJ3 : Hid (∃ pre : List (Ln bs), lnV pre ++ lns (k + m + 1) [] (bs.drop (k + m + 1)) = lines bs ∧ J pre w3) := ⟨_, HPRE.out, hJ3⟩
          clear hJ3 hk3 hy hR ht
          gi_wp2
          go_roundw
          case rel => exact ⟨k + m + 1, by omega, by go_num, HT3, HJ3⟩
          case measure => simp [intOf]; omega
        · gi_wp2
          first | go_end0 | (simp only [Exit.inBlock, Exit.then]; refine bodyPost_ret (results_none rfl _ _ _) rfl ?_) | refine bodyPost_ret (results_none rfl _ _ _) rfl ?_
          exact ⟨⟨_, rfl⟩, .inr ⟨_, trivial, hJx3⟩⟩
/-- THE ITERATOR's CONTRACT. -/
theorem whole_stops (nF : Nat) (hF : 1 ≤ nF) (A b n c n₀ : Nat) (bs : List UInt8) (w : World) (hb : b < n₀) (hn : n ≤ 1048576) (hT : TxA w A b n c bs) (N : Nat) (hN : (lines bs).length ≤ N) :
    SeqStopsK Fence.wide nF Try.prog 48 #[.pointer (some ⟨A, 0, none⟩)] (encL b c bs) (KpL n₀ A) (fun xs => lnV xs = lines bs) (fun _ => True) N w :=
  fun l J Jx W hW _ _ hY h1 => whole1_in nF hF l A b n c n₀ bs hb hn N hN J Jx hY W ⟨(hW.block A (Array.getElem?_eq_some_iff.1 hT.bx).1).trans hT.bx, hT.la.later hW⟩ h1
/-- of a text that has no byte -/
theorem whole_none (nF : Nat) (hF : 1 ≤ nF) (A : Nat) (w : World) (hT : w.heap[A]? = some (.cells #[.slice none 0 0] 72 (0, 0))) (Kp : World → World → Prop) (N : Nat) :
    SeqStopsK Fence.wide nF Try.prog 48 #[.pointer (some ⟨A, 0, none⟩)] (encL 0 0 []) Kp (fun xs => lnV xs = lines []) (fun _ => True) N w :=
  fun l J Jx W hW _ _ hY h1 => by
    have hT2 : W.heap[A]? = some (.cells #[.slice none 0 0] 72 (0, 0)) := (hW.block A (Array.getElem?_eq_some_iff.1 hT).1).trans hT
    have c0 : W.cell? ⟨A, 0, none⟩ = some (.slice none 0 0) := by simp [World.cell?, hT2]
    have HE : Hid (J [] W) := h1
    clear hY hW hT hT2 h1
    show CallsIn Fence.wide nF Try.prog 48 #[.func (.yield l) #[] #[], .pointer (some ⟨A, 0, none⟩)] W _
    refine callsIn_of_wp Try.func48 rfl trivial ?_ rfl
    simp only [Try.ntmps48, List.size_toArray, List.length_cons, List.length_nil, Nat.reduceAdd, Nat.reduceSub, Array.replicate_succ, Array.replicate_zero, List.push_toArray, List.append_toArray, List.nil_append, List.cons_append]
    gi_wp2
    gi_loopw [3] (fun i wr => i = .int .i64 0 ∧ wr = W) (fun _ _ => 1)
    case atStart => exact ⟨rfl, rfl⟩
    case round =>
      obtain ⟨rfl, rfl⟩ := hrel
      have HI : Hid (Calls Try.prog 49 #[.slice none 0 0, .int .u8 10] wr fun e w' => e = .returned (.int .i64 (-1)) ∧ w' = wr) := Try.bytes_IndexByte_nil 10 wr
      gi_wp2
      refine ⟨trivial, ?_⟩
      refine (callsIn_wide.2 HI.out).mono ?_
      rintro e w1 ⟨rfl, rfl⟩
      clear HI
      gi_wp2
      refine ⟨fun _ h => (by cases h), ?_⟩
      gi_wp2
      first | go_end0 | (simp only [Exit.inBlock, Exit.then]; refine bodyPost_ret (results_none rfl _ _ _) rfl ?_) | refine bodyPost_ret (results_none rfl _ _ _) rfl ?_
      exact ⟨⟨_, rfl⟩, .inl ⟨[], rfl, HE.out⟩⟩
theorem whole_any (va : Option Addr) (n c : Nat) (w : World) : Calls Try.prog 31 #[.slice va n c] w fun e w' => e = .returned (.func (.func 48) #[] #[.pointer (some ⟨w.heap.size, 0, none⟩)]) ∧ w' = w.alloc (.cells #[.slice va n c] 72) := by
  go_enter Try.func31, Try.ntmps31
  go_wp2
  go_ret
  exact ⟨rfl, rfl⟩
end Go.Proofs.Ytobbcgendjakiaa
