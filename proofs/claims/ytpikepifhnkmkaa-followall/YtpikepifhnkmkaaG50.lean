/- Plain: a file that is only appended to, and rotated. -/
import Derived.Test.YtpikepifhnkmkaaG49
namespace Fo
open Sf Ln Go.Proofs.Ytpikepifhnkmkaa

/-- the whole lines of bytes, and what is behind the last newline -/
def whs : List UInt8 → List UInt8 → List (List UInt8) × List UInt8
  | u, [] => ([], u)
  | u, c :: r => if c = 10 then ((u :: (whs [] r).1), (whs [] r).2) else whs (u ++ [c]) r
theorem whs_st (most : Nat) : ∀ (l u : List UInt8), (St.mk [] u 0).go most l = ⟨(whs u l).1.filter fun x => decide (x.length ≤ most), (whs u l).2, ((whs u l).1.filter fun x => !decide (x.length ≤ most)).length⟩
  | [], u => rfl
  | c :: r, u => by
    have hg : (St.mk [] u 0).go most (c :: r) = (St.step most ⟨[], u, 0⟩ c).go most r := rfl
    rw [hg]
    unfold whs St.step
    by_cases h : c = 10
    · rw [if_pos h, if_pos h]
      by_cases h2 : u.length ≤ most
      · rw [if_pos h2, St.shift, whs_st most r []]
        simp [h2]
      · rw [if_neg h2, St.shift, whs_st most r []]
        simp [h2, Nat.add_comm]
    · rw [if_neg h, if_neg h]
      exact whs_st most r (u ++ [c])
theorem whs_rest : ∀ (l u : List UInt8), (∀ c ∈ u, c ≠ 10) → ((whs u l).2 = [] ↔ (u ++ l = [] ∨ (u ++ l).getLast? = some 10))
  | [], u, hu => by
    show u = [] ↔ _
    rw [List.append_nil]
    constructor
    · exact fun h => .inl h
    · rintro (h | h)
      · exact h
      · exact absurd rfl (hu 10 (List.mem_of_getLast? h))
  | c :: r, u, hu => by
    unfold whs
    by_cases h : c = 10
    · rw [if_pos h]
      have := whs_rest r [] (fun c hc => by cases hc)
      rw [List.nil_append] at this
      show (whs [] r).2 = [] ↔ _
      rw [this, h]
      cases r with
      | nil => simp
      | cons x q => simp [List.getLast?_append]
    · rw [if_neg h]
      have := whs_rest r (u ++ [c]) (fun x hx => by
        rcases List.mem_append.1 hx with hx | hx
        · exact hu x hx
        · rw [List.mem_singleton.1 hx]; exact h)
      rw [this, List.append_assoc]
      rfl
/-- a follower in the midst of a file that is only appended to: c bytes are gone through, L are its lines -/
structure AllF (f : Fo) (i ln ck : Nat) (all : List UInt8) (c : Nat) (L : List (List UInt8)) (lg : Nat) : Prop where
  s : f.m.s = (i : Int) + 1
  n : f.m.n = (i : Int) + 1
  g : f.m.g = 0
  nm : f.nm = sa
  cq : f.ck = ck
  most : f.k.most = ln
  ms : f.m.ms = 0
  gn : f.m.gn = 0
  ct : f.m.ct = 0
  cl : c ≤ all.length
  st : (St.mk [] [] 0).go ln (all.take c) = ⟨L, f.k.u, lg⟩
  o : f.m.o + f.k.u.length = c
structure AllD (d : Dk) (i : Nat) (all : List UInt8) : Prop where
  hi : d.hi = i + 1
  num : num d sa = i + 1
  ser : ser d sa = i + 1
  x : ∃ x, d.ino (i + 1) = some x ∧ x.gen = 0 ∧ x.bs = all ∧ x.nm = sa
theorem AllD.err {d : Dk} {i : Nat} {all : List UInt8} (h : AllD d i all) : err d sa = 0 := by unfold Sf.err; rw [may_a, h.num]; rfl
/-- a step in the midst of it -/
structure AllStep (f : Fo) (d : Dk) (i ln ck : Nat) (all : List UInt8) (c : Nat) (L : List (List UInt8)) (lg : Nat) : Prop where
  stop : c = all.length → f.step d = f ∧ f.line d = none
  go : c < all.length → ∃ c' L' lg', c < c' ∧ AllF (f.step d) i ln ck all c' L' lg' ∧ (f.step d).m.tl = f.m.tl ∧ (f.step d).m.lg = raise f.m.lg ((lg' : Int) - lg) ∧ lg ≤ lg' ∧ lg' ≤ lg + 1 ∧ ((f.line d = none ∧ L' = L) ∨ ∃ t, f.line d = some t ∧ L' = L ++ [t] ∧ (f.step d).k.u = [])
theorem all_step {f : Fo} {d : Dk} {i ln ck : Nat} {all : List UInt8} {c : Nat} {L : List (List UInt8)} {lg : Nat} (h : AllF f i ln ck all c L lg) (hd : AllD d i all) (hck : 1 ≤ ck) (hlgx : 0 ≤ f.m.lg ∧ f.m.lg ≤ top) : AllStep f d i ln ck all c L lg := by
  obtain ⟨x, hx, hg, hb, _⟩ := hd.x
  have hn : f.m.n ≠ 0 := by rw [h.n]; omega
  have hin : inoZ d f.m.n = some x := by
    unfold inoZ
    rw [h.n, if_pos (by omega), show ((i : Int) + 1).toNat = i + 1 by omega]
    exact hx
  have hge : ¬ (x.gen : Int) ≠ f.m.g := by rw [hg, h.g]; exact fun e => e rfl
  have hgot : f.got x = (all.drop c).take ck := by unfold Fo.got; rw [h.o, hb, h.cq, Int.toNat_natCast]
  have hnf : further f d = false := by
    cases hf : further f d with
    | false => rfl
    | true =>
      have := (further_iff.1 hf).2
      rw [h.nm, hd.ser, h.s] at this
      omega
  refine ⟨fun hc => ?_, fun hc => ?_⟩
  · have hg0 : f.got x = [] := by rw [hgot, hc, List.drop_length, List.take_nil]
    refine ⟨?_, ?_⟩
    · unfold Fo.step
      rw [if_neg hn, hin]
      simp only
      rw [if_neg hge, if_neg (fun e => e hg0), if_neg (by rw [hnf]; exact Bool.false_ne_true)]
    · unfold Fo.line
      rw [if_neg hn, hin]
      simp only
      rw [if_neg hge, if_neg (fun e => e.1 hg0)]
  · obtain ⟨b, hbb⟩ : ∃ b, f.got x = b := ⟨_, rfl⟩
    have hbl : 0 < b.length ∧ b.length ≤ all.length - c := by rw [← hbb, hgot, List.length_take, List.length_drop]; omega
    have hne : f.got x ≠ [] := by rw [hbb]; exact List.length_pos_iff.1 hbl.1
    have hs : f.step d = f.on b := by
      unfold Fo.step
      rw [if_neg hn, hin]
      simp only
      rw [if_neg hge, if_pos hne, hbb]
    have htp := took_pos hbl.1
    have htl := took_le b
    have hfeed := St.feed L f.k b
    have hbt : b.take (took b) = (all.drop c).take (took b) := by
      rw [← hbb, hgot, List.take_take]
      congr 1
      have : took b ≤ ck := by
        have := (got_le f x).1
        rw [hbb, h.cq] at this
        omega
      rw [← hgot, hbb]
      omega
    have htake : all.take (c + took b) = all.take c ++ (all.drop c).take (took b) := List.take_add
    have hst : (St.mk [] [] 0).go ln (all.take (c + took b)) = (St.mk L f.k.u lg).go ln (b.take (took b)) := by rw [htake, St.go_append, h.st, hbt]
    rw [h.most] at hfeed
    unfold St.of at hfeed
    rw [St.shift ln (b.take (took b)) L f.k.u f.k.long] at hfeed
    rw [St.shift ln (b.take (took b)) L f.k.u lg] at hst
    obtain ⟨X, hX⟩ : ∃ X, (St.mk [] f.k.u 0).go ln (b.take (took b)) = X := ⟨_, rfl⟩
    rw [hX] at hfeed hst
    have e1 := congrArg St.ls hfeed
    have e2 := congrArg St.u hfeed
    have e3 := congrArg St.lg hfeed
    simp only at e1 e2 e3
    obtain ⟨o1, o2, o3, o4, o5⟩ := on_m (f := f) (b := b)
    have hu' : (f.on b).m.o + (f.on b).k.u.length = ((c + took b : Nat) : Int) := by
      rw [o4, o5]
      have ho := h.o
      by_cases hnl : nl b < b.length
      · rw [if_pos hnl, feed_nl hnl]
        simp only [List.length_nil]
        omega
      · rw [if_neg hnl, feed_no hnl, List.length_append]
        have : took b = b.length := by unfold took; rw [if_neg hnl]
        omega
    have hrest : (f.on b).nm = f.nm ∧ (f.on b).ck = f.ck ∧ (f.on b).m.ms = f.m.ms ∧ (f.on b).m.gn = f.m.gn ∧ (f.on b).m.ct = f.m.ct ∧ (f.on b).m.tl = f.m.tl := by
      unfold Fo.on
      split
      · split <;> exact ⟨rfl, rfl, rfl, rfl, rfl, rfl⟩
      · exact ⟨rfl, rfl, rfl, rfl, rfl, rfl⟩
    obtain ⟨r1, r2, r3, r4, r5, r6⟩ := hrest
    have hF : AllF (f.on b) i ln ck all (c + took b) (L ++ X.ls) (lg + X.lg) :=
      ⟨by rw [o3]; exact h.s, by rw [o1]; exact h.n, by rw [o2]; exact h.g, by rw [r1]; exact h.nm, by rw [r2]; exact h.cq, by rw [o4, Mk.feed_most]; exact h.most, by rw [r3]; exact h.ms, by rw [r4]; exact h.gn, by rw [r5]; exact h.ct, by omega, by rw [hst, o4, ← e2], hu'⟩
    have hlgd : (f.on b).m.lg = raise f.m.lg (X.lg : Int) ∧ X.lg ≤ 1 := by
      have hz : raise f.m.lg 0 = f.m.lg := by unfold raise; have := hlgx.2; omega
      unfold Fo.on
      by_cases hnl : nl b < b.length
      · rw [if_pos hnl]
        cases hw : f.k.whole b with
        | true =>
          rw [if_pos rfl]
          have : (f.k.feed b).long = f.k.long := by
            unfold Mk.feed
            rw [if_pos hnl, Mk.ended_yes]
            · rfl
            · unfold Mk.whole at hw
              rw [Bool.and_eq_true, decide_eq_true_eq, decide_eq_true_eq] at hw
              show (f.k.u ++ b.take (nl b)).length ≤ f.k.most
              rw [List.length_append, List.length_take]
              omega
          have hx0 : X.lg = 0 := by omega
          rw [hx0]
          exact ⟨hz.symm, by omega⟩
        | false =>
          rw [if_neg Bool.false_ne_true]
          have : (f.k.feed b).long = f.k.long + 1 := by
            unfold Mk.feed
            rw [if_pos hnl, Mk.ended_no]
            · rfl
            · unfold Mk.whole at hw
              rw [decide_eq_true hnl, Bool.true_and, decide_eq_false_iff_not] at hw
              show ¬ (f.k.u ++ b.take (nl b)).length ≤ f.k.most
              rw [List.length_append, List.length_take]
              omega
          have hx1 : X.lg = 1 := by omega
          rw [hx1]
          exact ⟨rfl, Nat.le_refl _⟩
      · rw [if_neg hnl]
        have : (f.k.feed b).long = f.k.long := by unfold Mk.feed; rw [if_neg hnl]; rfl
        have hx0 : X.lg = 0 := by omega
        rw [hx0]
        exact ⟨hz.symm, by omega⟩
    refine ⟨c + took b, L ++ X.ls, lg + X.lg, by omega, by rw [hs]; exact hF, by rw [hs]; exact r6, ?_, by omega, by omega, ?_⟩
    · rw [hs, hlgd.1]
      congr 1
      omega
    · have hl : f.line d = if f.got x ≠ [] ∧ f.k.whole (f.got x) = true then some (f.k.text (f.got x)) else none := by
        unfold Fo.line
        rw [if_neg hn, hin]
        simp only
        rw [if_neg hge]
      rw [hbb] at hl
      cases hw : f.k.whole b with
      | true =>
        right
        rw [hw, if_pos rfl] at e1
        refine ⟨f.k.text b, ?_, e1.symm, ?_⟩
        · rw [hl, if_pos ⟨by rw [← hbb]; exact hne, hw⟩]
        · have hnl : nl b < b.length := by
            unfold Mk.whole at hw
            rw [Bool.and_eq_true, decide_eq_true_eq] at hw
            exact hw.1
          rw [hs, o4, feed_nl hnl]
      | false =>
        left
        rw [hw, if_neg Bool.false_ne_true] at e1
        exact ⟨by rw [hl, if_neg (fun e => by rw [hw] at e; cases e.2)], e1.symm⟩
end Fo

/- Plain: the disk of a file that is only appended to, and rotated. -/
namespace Fo
open Sf Ln Go.Proofs.Ytpikepifhnkmkaa

theorem sar : sa ≠ sr := by decide
theorem all_start : AllD (Sf.create Sf.new sa) 0 [] := by
  rw [mk_new]
  exact ⟨rfl, mk_num, mk_ser, ⟨_, mk_ino, rfl, rfl, rfl⟩⟩
theorem all_append {d : Dk} {i : Nat} {all b : List UInt8} (h : AllD d i all) {x : Ino} (hx : d.ino (i + 1) = some x) : AllD (Sf.putI d (i + 1) (some (x.lay b))) i (all ++ b) := by
  obtain ⟨y, hy, h1, h2, h3⟩ := h.x
  rw [hx] at hy
  cases hy
  exact ⟨h.hi, h.num, h.ser, ⟨x.lay b, by simp [Sf.putI], h1, by show x.bs ++ b = _; rw [h2], h3⟩⟩
/-- what a rotation leaves -/
structure Rot (d : Dk) (i : Nat) (all : List UInt8) : Prop where
  e : renE d sa sr = 0
  e1 : err (Sf.rename d sa sr) sa = 141
  x : ∃ x, (Sf.create (Sf.rename d sa sr) sa).ino (i + 1) = some x ∧ x.gen = 0 ∧ x.bs = all
  n : AllD (Sf.create (Sf.rename d sa sr) sa) (i + 1) []
theorem all_rot {d : Dk} {i K : Nat} {all : List UInt8} (h : AllD d i all) (hw : Wf d K) : Rot d i all := by
  obtain ⟨x, hx, hg, hb, hnm⟩ := h.x
  obtain ⟨g1, g2, g3, g4, g5, g6⟩ := hw.gone sr
  have hlab : (Sf.gone d sr).lab sa = d.lab sa := g4 sa sar
  have hser : Sf.ser (Sf.gone d sr) sa = i + 1 := by
    have : Sf.ser (Sf.gone d sr) sa = Sf.ser d sa := by unfold Sf.ser; rw [hlab]
    rw [this, h.ser]
  have hr : Sf.rename d sa sr = Sf.arrive (Sf.putL (Sf.gone d sr) sa (i + 1) 0) (i + 1) x sr := by
    unfold Sf.rename
    rw [h.num, hx]
    simp only
    rw [hser]
  have hsr : ¬ sa = sr := sar
  have hrs : ¬ sr = sa := fun e => sar e.symm
  have l1 : (Sf.rename d sa sr).lab sa = some (i + 1, 0) := by
    rw [hr]
    simp [Sf.arrive, Sf.putI, Sf.putL, hsr]
  have i1 : (Sf.rename d sa sr).ino (i + 1) = some (x.name sr) := by rw [hr]; simp [Sf.arrive, Sf.putI]
  have h1 : (Sf.rename d sa sr).hi = i + 1 := by rw [hr]; show (Sf.gone d sr).hi = _; rw [g5, h.hi]
  have n1 : Sf.num (Sf.rename d sa sr) sa = 0 := by unfold Sf.num; rw [l1]
  have s1 : Sf.ser (Sf.rename d sa sr) sa = i + 1 := by unfold Sf.ser; rw [l1]
  have hc : Sf.create (Sf.rename d sa sr) sa = Sf.arrive (Sf.putI (Sf.up (Sf.rename d sa sr)) (i + 2) (some Sf.fresh)) (i + 2) Sf.fresh sa := by unfold Sf.create; rw [h1]
  have hs2 : Sf.ser (Sf.putI (Sf.up (Sf.rename d sa sr)) (i + 2) (some Sf.fresh)) sa = i + 1 := s1
  have l2 : (Sf.create (Sf.rename d sa sr) sa).lab sa = some (i + 2, i + 2) := by
    rw [hc]
    unfold Sf.arrive
    rw [hs2]
    simp [Sf.putI, Sf.putL]
  refine ⟨?_, ?_, ⟨x.name sr, ?_, hg, hb⟩, ⟨?_, ?_, ?_, ⟨Sf.fresh.name sa, ?_, rfl, rfl, rfl⟩⟩⟩
  · unfold renE
    rw [h.err, may_r]
    rfl
  · unfold Sf.err
    rw [may_a, n1]
    rfl
  · rw [hc]
    unfold Sf.arrive Sf.putI Sf.putL Sf.up
    simp only
    rw [if_neg (by omega), if_neg (by omega)]
    exact i1
  · rw [hc]
    show (Sf.rename d sa sr).hi + 1 = _
    omega
  · unfold Sf.num; rw [l2]
  · unfold Sf.ser; rw [l2]
  · rw [hc]
    unfold Sf.arrive Sf.putI
    simp
theorem raise_zero (x : Int) (h : x ≤ top) : raise x 0 = x := by unfold raise; omega
/-- the first step of all -/
theorem all_first {d : Dk} {ln ck : Nat} (hd : AllD d 0 []) : AllF ((newF sa ln ck zeroM).step d) 0 ln ck [] 0 [] 0 ∧ (newF sa ln ck zeroM).line d = none ∧ ((newF sa ln ck zeroM).step d).m.tl = 0 ∧ ((newF sa ln ck zeroM).step d).m.lg = 0 := by
  have hz : (newF sa ln ck zeroM).m.n = 0 := rfl
  have hf : further (newF sa ln ck zeroM) d = true := further_iff.2 ⟨hd.err, by show (0 : Int) < (Sf.ser d sa : Int); rw [hd.ser]; omega⟩
  have hs : (newF sa ln ck zeroM).step d = (newF sa ln ck zeroM).takeUp d := by unfold Fo.step; rw [if_pos hz, if_pos hf]
  have hl : (newF sa ln ck zeroM).line d = none := by unfold Fo.line; rw [if_pos hz]
  obtain ⟨x, hx, hg, hb, _⟩ := hd.x
  have hgen : genOf d (Sf.num d sa) = 0 := by unfold genOf; rw [hd.num, hx]; exact hg
  rw [hs]
  refine ⟨⟨?_, ?_, ?_, rfl, rfl, rfl, ?_, rfl, rfl, Nat.le_refl _, rfl, rfl⟩, hl, rfl, rfl⟩
  · show (Sf.ser d sa : Int) = _; rw [hd.ser]; rfl
  · show (Sf.num d sa : Int) = _; rw [hd.num]; rfl
  · show (genOf d (Sf.num d sa) : Int) = 0; rw [hgen]; rfl
  · show raise 0 ((Sf.ser d sa : Int) - 0 - 1) = 0; rw [hd.ser]; decide
/-- over a rotation -/
theorem all_over {f : Fo} {d : Dk} {i ln ck lg : Nat} {all : List UInt8} {L : List (List UInt8)} (h : AllF f i ln ck all all.length L lg) (hx : ∃ x, d.ino (i + 1) = some x ∧ x.gen = 0 ∧ x.bs = all) (hd : AllD d (i + 1) []) : AllF (f.step d) (i + 1) ln ck [] 0 [] 0 ∧ f.line d = none ∧ (f.step d).m.tl = (if 0 < f.k.u.length then raise f.m.tl 1 else f.m.tl) ∧ (f.step d).m.lg = f.m.lg := by
  obtain ⟨x, hx, hg, hb⟩ := hx
  have hn : f.m.n ≠ 0 := by rw [h.n]; omega
  have hin : inoZ d f.m.n = some x := by
    unfold inoZ
    rw [h.n, if_pos (by omega), show ((i : Int) + 1).toNat = i + 1 by omega]
    exact hx
  have hge : ¬ (x.gen : Int) ≠ f.m.g := by rw [hg, h.g]; exact fun e => e rfl
  have hgot : f.got x = [] := by unfold Fo.got; rw [h.o, hb, Int.toNat_natCast, List.drop_length, List.take_nil]
  have hf : further f d = true := further_iff.2 ⟨by rw [h.nm]; exact hd.err, by rw [h.nm, hd.ser, h.s]; omega⟩
  have hs : f.step d = f.tail.takeUp d := by
    unfold Fo.step
    rw [if_neg hn, hin]
    simp only
    rw [if_neg hge, if_neg (fun e => e hgot), if_pos hf]
  have hl : f.line d = none := by
    unfold Fo.line
    rw [if_neg hn, hin]
    simp only
    rw [if_neg hge, if_neg (fun e => e.1 hgot)]
  obtain ⟨y, hy, hyg, hyb, _⟩ := hd.x
  have t : f.tail.nm = f.nm ∧ f.tail.ck = f.ck ∧ f.tail.k = f.k ∧ f.tail.m.s = f.m.s ∧ f.tail.m.ms = f.m.ms ∧ f.tail.m.gn = f.m.gn ∧ f.tail.m.ct = f.m.ct ∧ f.tail.m.lg = f.m.lg ∧ f.tail.m.tl = (if 0 < f.k.u.length then raise f.m.tl 1 else f.m.tl) := by
    unfold Fo.tail
    split <;> exact ⟨rfl, rfl, rfl, rfl, rfl, rfl, rfl, rfl, rfl⟩
  obtain ⟨t1, t2, t3, t4, t5, t6, t7, t8, t9⟩ := t
  have hgen : genOf d (Sf.num d f.nm) = 0 := by unfold genOf; rw [h.nm, hd.num, hy]; exact hyg
  rw [hs]
  refine ⟨⟨?_, ?_, ?_, ?_, ?_, ?_, ?_, ?_, ?_, Nat.le_refl _, rfl, rfl⟩, hl, t9, t8⟩
  · show (Sf.ser d f.tail.nm : Int) = _; rw [t1, h.nm, hd.ser]; rfl
  · show (Sf.num d f.tail.nm : Int) = _; rw [t1, h.nm, hd.num]; rfl
  · show (genOf d (Sf.num d f.tail.nm) : Int) = 0; rw [t1, hgen]; rfl
  · show f.tail.nm = _; rw [t1, h.nm]
  · show f.tail.ck = _; rw [t2, h.cq]
  · show f.tail.k.most = _; rw [t3, h.most]
  · show raise f.tail.m.ms ((Sf.ser d f.tail.nm : Int) - f.tail.m.s - 1) = 0
    rw [t1, t4, t5, h.nm, hd.ser, h.s, h.ms, show ((i + 1 + 1 : Nat) : Int) - ((i : Int) + 1) - 1 = 0 by omega]
    rfl
  · show f.tail.m.gn = 0; rw [t6, h.gn]
  · show f.tail.m.ct = 0; rw [t7, h.ct]
/-- further bytes -/
theorem AllF.more {f : Fo} {i ln ck c lg : Nat} {all b : List UInt8} {L : List (List UInt8)} (h : AllF f i ln ck all c L lg) : AllF f i ln ck (all ++ b) c L lg :=
  ⟨h.s, h.n, h.g, h.nm, h.cq, h.most, h.ms, h.gn, h.ct, by rw [List.length_append]; have := h.cl; omega, by rw [List.take_append_of_le_length h.cl]; exact h.st, h.o⟩
/-- made anew with its own mark, behind a newline -/
theorem AllF.anew {f : Fo} {i ln ck c lg : Nat} {all : List UInt8} {L : List (List UInt8)} (h : AllF f i ln ck all c L lg) (hu : f.k.u = []) : AllF (newF sa ln ck f.m) i ln ck all c L lg :=
  ⟨h.s, h.n, h.g, rfl, rfl, rfl, h.ms, h.gn, h.ct, h.cl, by have := h.st; rw [hu] at this; exact this, by have := h.o; rw [hu] at this; exact this⟩
end Fo
