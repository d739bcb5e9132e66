/- FollowAll: within a file. -/
import Derived.Test.YtpikepifhnkmkaaG51
import Derived.Test.YtpikepifhnkmkaaG49
namespace Go.Proofs.Ytpikepifhnkmkaa
open Go.RowKit Go.Maps Sf Ln Fo

/-- what each round of the outer loop begins with -/
def OutI (w : World) (N ln ck A Bd i lgN tlN tn F B : Nat) (V U : Value) (u : World) : Prop := ∃ d f Pd K C G, AllS w w.heap.size A Bd Pd F B K C d f V U G G u ∧ AllR i N ln ck d f lgN tlN ∧ K ≤ 8 * i ∧ C ≤ 5000 * i ∧ G.length ≤ 400 * i ∧ tn = G.length
/-- behind the new file's making -/
def MidI (w : World) (ln ck A Bd i lgN tlN tn F B m : Nat) (V U : Value) (u : World) : Prop := ∃ d f Pd K C G, AllS w w.heap.size A Bd Pd F B K C d f V U G G u ∧ Pr i ln ck lgN tlN f d ∧ (1 ≤ m → AllF f i ln ck [] 0 [] 0 ∧ f.m.tl = tlN ∧ f.m.lg = lgN) ∧ K ≤ 8 * i + 2 ∧ C ≤ 5000 * i + m ∧ G.length ≤ 400 * i ∧ tn = G.length ∧ lgN ≤ 400 * i ∧ tlN ≤ i
/-- k pieces are appended, c bytes gone through -/
structure KF (i ln ck lgN tlN k m j tn : Nat) (z : Bool) (s : ByteArray) (f : Fo) (d : Dk) (K C : Nat) (G0 L : List (List UInt8)) (c lg : Nat) : Prop where
  af : AllF f i ln ck s.data.toList c L lg
  ad : AllD d i s.data.toList
  pr : j ≤ c ∨ c = s.size
  ll : L.length ≤ c ∧ lg ≤ c
  tl1 : f.m.tl = tlN
  lg1 : f.m.lg = (lgN : Int) + lg
  kb : K ≤ 8 * i + 2 + k
  cb : C ≤ m
  gb : G0.length ≤ 400 * i
  tn1 : tn = G0.length + L.length
  sb : s.size ≤ 60 * k
  lb : lgN ≤ 400 * i ∧ tlN ≤ i
  z1 : z = true → f.k.u = []
theorem sz_list (s : ByteArray) : s.data.toList.length = s.size := by simp
def KI (w : World) (i ln ck A Bd lgN tlN tn F B k m j : Nat) (z : Bool) (s : ByteArray) (V U : Value) (u : World) : Prop := ∃ d f Pd K C G0 L c lg, AllS w w.heap.size A Bd Pd F B K C d f V U (G0 ++ L) G0 u ∧ KF i ln ck lgN tlN k m j tn z s f d K C G0 L c lg
/-- a line is answered, and not yet taken in -/
def KL (w : World) (i ln ck A Bd lgN tlN tn F B k m j : Nat) (s t : ByteArray) (V U : Value) (u : World) : Prop := ∃ d f Pd K C G0 L c lg, AllS w w.heap.size A Bd Pd F B K C d f V U (G0 ++ L) G0 u ∧ KF i ln ck lgN tlN k m j (tn + 1) true s f d K C G0 (L ++ [t.data.toList]) c lg
section
variable {w u v : World} {i ln ck A Bd lgN tlN tn F B k m j N : Nat} {z : Bool} {s t : ByteArray} {V U V' U' : Value}
theorem KI.later (h : KI w i ln ck A Bd lgN tlN tn F B k m j z s V U u) (hb : Below u.heap.size u v) : KI w i ln ck A Bd lgN tlN tn F B k m j z s V U v := by
  obtain ⟨d, f, Pd, K, C, G0, L, c, lg, h1, h2⟩ := h
  exact ⟨d, f, Pd, K, C, G0, L, c, lg, h1.later hb, h2⟩
theorem KL.later (h : KL w i ln ck A Bd lgN tlN tn F B k m j s t V U u) (hb : Below u.heap.size u v) : KL w i ln ck A Bd lgN tlN tn F B k m j s t V U v := by
  obtain ⟨d, f, Pd, K, C, G0, L, c, lg, h1, h2⟩ := h
  exact ⟨d, f, Pd, K, C, G0, L, c, lg, h1.later hb, h2⟩
theorem KI.start (h : MidI w ln ck A Bd i lgN tlN tn F B 3 V U u) : KI w i ln ck A Bd lgN tlN tn F B 0 (5000 * i + 3) 0 false ⟨#[]⟩ V U u := by
  obtain ⟨d, f, Pd, K, C, G, h1, h2, h2', h3, h4, h5, h6, h7, h8⟩ := h
  obtain ⟨a, b, c⟩ := h2' (by omega)
  exact ⟨d, f, Pd, K, C, G, [], 0, 0, by rw [List.append_nil]; exact h1, ⟨a, h2.dk, .inl (Nat.le_refl _), ⟨Nat.le_refl _, Nat.le_refl _⟩, b, by rw [c]; simp, by omega, h4, h5, by simpa using h6, Nat.le_refl _, ⟨h7, h8⟩, fun e => by cases e⟩⟩
theorem KI.full {n : Nat} (h : KI w i ln ck A Bd lgN tlN tn F B k m j z s V U u) (hj : s.size < j) : KI w i ln ck A Bd lgN tlN tn F B k m n false s V U u := by
  obtain ⟨d, f, Pd, K, C, G0, L, c, lg, h1, h2⟩ := h
  have h3 := h2.pr
  have h4 := h2.af.cl
  rw [sz_list] at h4
  exact ⟨d, f, Pd, K, C, G0, L, c, lg, h1, { h2 with pr := .inr (by omega), z1 := fun e => by cases e }⟩
theorem KI.upM {m' : Nat} (h : KI w i ln ck A Bd lgN tlN tn F B k m j z s V U u) (hm : m ≤ m') : KI w i ln ck A Bd lgN tlN tn F B k m' j z s V U u := by
  obtain ⟨d, f, Pd, K, C, G0, L, c, lg, h1, h2⟩ := h
  have := h2.cb
  exact ⟨d, f, Pd, K, C, G0, L, c, lg, h1, { h2 with cb := by omega }⟩
theorem KI.low (h : KI w i ln ck A Bd lgN tlN tn F B k m j z s V U u) : Below w.heap.size w u := by
  obtain ⟨d, f, Pd, K, C, G0, L, c, lg, h1, h2⟩ := h
  exact h1.s.lo
theorem KI.pth (h : KI w i ln ck A Bd lgN tlN tn F B k m j z s V U u) : PtBx u A := by
  obtain ⟨d, f, Pd, K, C, G0, L, c, lg, h1, h2⟩ := h
  exact h1.p.1
theorem KI.ns (h : KI w i ln ck A Bd lgN tlN tn F B k m j z s V U u) (hi : i < 4) (hk : k ≤ 6) : s.size ≤ 360 ∧ tn ≤ 2000 := by
  obtain ⟨d, f, Pd, K, C, G0, L, c, lg, h1, h2⟩ := h
  have a := h2.sb
  have b := h2.tn1
  have c1 := h2.gb
  have d1 := h2.ll.1
  have e := h2.af.cl
  rw [sz_list] at e
  omega
/-- a step -/
theorem KI.step (h : KI w i ln ck A Bd lgN tlN tn F B k m j z s V U u) (hi : i < 4) (hk : k ≤ 6) (hm : m < 1000000) (hck : 1 ≤ ck) : Calls Try.prog 11 #[.pointer (some ⟨F, 0, none⟩), .pointer (some ⟨Bd, 0, none⟩)] u fun e v => (e = .returned (.tuple #[.agg #[.int .i64 0, .int .i64 0, .int .i64 0, .int .i64 0, .int .i64 0, .int .i64 0, .int .i64 0, .int .i64 0, .int .i64 0, .string ⟨#[]⟩], .bool false]) ∧ KI w i ln ck A Bd lgN tlN tn F B k (m + 1) (j + 1) false s V U v) ∨ ∃ (q : Mrk) (t : ByteArray), e = .returned (.tuple #[.agg #[.int .i64 q.s, .int .i64 q.n, .int .i64 q.g, .int .i64 q.o, .int .i64 q.ms, .int .i64 q.gn, .int .i64 q.ct, .int .i64 q.tl, .int .i64 q.lg, .string t], .bool true]) ∧ KL w i ln ck A Bd lgN tlN tn F B k (m + 1) (j + 1) s t V U v := by
  obtain ⟨d, f, Pd, K, C, G0, L, c, lg, h1, h2⟩ := h
  have hcb := h2.cb
  have hsb := h2.sb
  have hcl := h2.af.cl
  have hll := h2.ll
  have hlb := h2.lb
  have hlg := h2.lg1
  have hpr := h2.pr
  have htn := h2.tn1
  rw [sz_list] at hcl
  have st := all_step h2.af h2.ad hck ⟨by rw [hlg]; omega, by rw [hlg]; unfold top; omega⟩
  refine (h1.step (by omega)).mono fun e v x => ?_
  by_cases hc : c = s.data.toList.length
  · obtain ⟨a, b⟩ := st.stop hc
    rw [a, b] at x
    exact .inl ⟨x.1, d, f, Pd, K, C + 1, G0, L, c, lg, x.2, { h2 with cb := by omega, pr := .inr (by rw [hc, sz_list]), z1 := fun e => by cases e }⟩
  · rw [sz_list] at hc
    obtain ⟨c', L', lg', g1, g2, g3, g4, g5, g6, g7⟩ := st.go (by rw [sz_list]; omega)
    have hcl' := g2.cl
    rw [sz_list] at hcl'
    have hlg2 : (f.step d).m.lg = (lgN : Int) + lg' := by rw [g4, hlg]; unfold raise top; omega
    rcases g7 with ⟨b, rfl⟩ | ⟨t, b, rfl, hu⟩
    · rw [b] at x
      exact .inl ⟨x.1, d, _, Pd, K, C + 1, G0, L', c', lg', x.2, ⟨g2, h2.ad, by omega, by omega, by rw [g3]; exact h2.tl1, hlg2, h2.kb, by omega, h2.gb, h2.tn1, h2.sb, h2.lb, fun e => by cases e⟩⟩
    · rw [b] at x
      exact .inr ⟨f.m, ⟨t.toArray⟩, x.1, d, _, Pd, K, C + 1, G0, L, c', lg', x.2, ⟨g2, h2.ad, by omega, by rw [List.length_append, List.length_singleton]; omega, by rw [g3]; exact h2.tl1, hlg2, h2.kb, by omega, h2.gb, by rw [List.length_append, List.length_singleton]; omega, h2.sb, h2.lb, fun _ => hu⟩⟩
/-- a piece is appended -/
theorem KI.append (h : KI w i ln ck A Bd lgN tlN tn F B k m s.size z s V U u) (hi : i < 4) (hk : k < 6) (ht : t.size ≤ 60) (hb : Below u.heap.size u v) {Y : Value} (hY : LAt v Y (uv t.data.toList)) : Calls Try.prog 12 #[.pointer (some ⟨Bd, 0, none⟩), .string sa, Y] v fun e v' => e = .returned (.int .i64 0) ∧ KI w i ln ck A Bd lgN tlN tn F B (k + 1) m 0 false (s ++ t) V U v' := by
  obtain ⟨d, f, Pd, K, C, G0, L, c, lg, h1, h2⟩ := h
  have hcb := h2.cb
  have hsb := h2.sb
  have hkb := h2.kb
  have h3 := h1.later hb
  obtain ⟨x, hx, hxg, hxb, _⟩ := h2.ad.x
  have hnum := h2.ad.num
  have hat : (s ++ t).data.toList = s.data.toList ++ t.data.toList := by simp
  have hst : (s ++ t).size = s.size + t.size := by simp
  have hxl : x.bs.length = s.size := by rw [hxb, sz_list]
  have htl := sz_list t
  refine (append_any h3.s.dk sa (by decide) hY).mono fun e v' y => ?_
  rw [hnum] at y
  rcases y with ⟨y, _⟩ | ⟨_, g, hg, (⟨y, _⟩ | ⟨_, y, y2⟩)⟩
  · exact absurd h2.ad.err y
  · rw [hx] at hg
    cases hg
    omega
  · rw [hx] at hg
    cases hg
    obtain ⟨_, _, _, _, q5, _, q7⟩ := h3.s.dk.wf.ino _ x hx
    have hw : Wf (Sf.putI d (i + 1) (some (x.lay t.data.toList))) (K + 1) := h3.s.dk.wf.putI hx rfl (by show x.ls ≤ (x.bs ++ t.data.toList).length; rw [List.length_append]; omega) (by show (x.bs ++ t.data.toList).length ≤ _; rw [List.length_append]; omega) (by show x.gen ≤ K + 1; omega)
    exact ⟨y, _, f, _, K + 1, C, G0, L, c, lg, h3.does (y2.up (Nat.le_succ K)) hw (by omega), ⟨by rw [hat]; exact h2.af.more, by rw [hat]; exact all_append h2.ad hx, .inl (Nat.zero_le _), h2.ll, h2.tl1, h2.lg1, by omega, h2.cb, h2.gb, h2.tn1, by omega, h2.lb, fun e => by cases e⟩⟩
/-- the line is taken in -/
theorem KL.own (h : KL w i ln ck A Bd lgN tlN tn F B k m j s t V U u) : ∃ X : List (List UInt8), u.ownsRow w.heap.size 9 1 V tn (sv X) ∧ w.heap.size ≤ u.heap.size ∧ ∀ v V', u.grownBy v V.ownBlock → v.ownsRow w.heap.size 9 1 V' (tn + 1) (sv X ++ [.string t]) → Here u V V' → KI w i ln ck A Bd lgN tlN (tn + 1) F B k m j true s V' U v := by
  obtain ⟨d, f, Pd, K, C, G0, L, c, lg, h1, h2⟩ := h
  have hn := h2.tn1
  rw [List.length_append, List.length_singleton] at hn
  have hl : (G0 ++ L).length = tn := by rw [List.length_append]; omega
  refine ⟨G0 ++ L, by have := h1.g.1; rw [hl] at this; exact this, h1.b0.2, fun v V' hg ho hh => ?_⟩
  exact ⟨d, f, Pd, K, C, G0, L ++ [t.data.toList], c, lg, by rw [← List.append_assoc]; exact h1.putG hg (by rw [hl]; exact ho) hh, h2⟩
theorem may_of {q : Mrk} (h : q.In) (h2 : 0 < q.s) (h3 : q.n ≠ 0) : mayB q = true := by
  obtain ⟨a1, a2, a3, a4, a5, a6, a7, a8, a9⟩ := h
  unfold top at *
  unfold mayB mvs restB
  rw [if_neg h3]
  simp only [List.all_cons, List.all_nil, Bool.and_eq_true, inR_iff, decide_eq_true_eq]
  exact ⟨⟨a1, a2, a3, a4, a5, a6, a7, a8, a9, trivial⟩, h2⟩
/-- the follower is made anew -/
theorem KI.anew (h : KI w i ln ck A Bd lgN tlN tn F B k m j true s V U u) (hln : 1 ≤ ln ∧ ln ≤ 4096) (hck : 1 ≤ ck ∧ ck ≤ 4096) : ∃ q : Mrk, (∀ x, Below u.heap.size u x → Calls Try.prog 13 #[.pointer (some ⟨F, 0, none⟩)] x (fun e v => e = .returned (mrkBox q) ∧ Below x.heap.size x v)) ∧ ∀ v, Below u.heap.size u v → Calls Try.prog 8 #[pathV sa sr, .int .i64 (ln : Nat), .int .i64 (ck : Nat), mrkBox q, .pointer (some ⟨Bd, 0, none⟩)] v fun e y => ∃ F' B', e = .returned (.tuple #[.pointer (some ⟨F', 0, none⟩), .int .i64 0]) ∧ KI w i ln ck A Bd lgN tlN tn F' B' k m j true s V U y := by
  obtain ⟨d, f, Pd, K, C, G0, L, c, lg, h1, h2⟩ := h
  refine ⟨f.m, fun x hx => (h1.later hx).s.mark, fun v hb => ?_⟩
  have h3 := h1.later hb
  have hmay : mayB f.m = true := by
    have h4 := h2.af.n
    have h5 := h2.af.s
    exact may_of h1.s.ok.m (by omega) (by omega)
  refine (new_ok h3.s.dk sa sr (by decide) (by decide) ln ck f.m ⟨err_may may_a, .inl (err_may may_r)⟩ hln hck hmay).mono fun e y ⟨F', B', he, hn⟩ => ⟨F', B', he, ?_⟩
  have hmd : madeF sa sr ln ck f.m d = newF sa ln ck f.m := by
    unfold madeF
    rw [if_neg]
    intro x
    apply x.2.1
    rw [h2.af.n]
    unfold inoOf
    rw [if_pos h2.ad.err, h2.ad.num]
    rfl
  rw [hmd] at hn
  have hok : (newF sa ln ck f.m).Ok 0 := ⟨h1.s.ok.m, hln.2, Nat.zero_le _, Nat.zero_le _, hck, (by decide : sa.size ≤ 32)⟩
  exact ⟨d, _, Pd, K, 0, G0, L, c, lg, h3.anew (Below.refl _ _) hn hok, ⟨h2.af.anew (h2.z1 rfl), h2.ad, h2.pr, h2.ll, h2.tl1, h2.lg1, h2.kb, Nat.zero_le _, h2.gb, h2.tn1, h2.sb, h2.lb, fun _ => rfl⟩⟩
end
end Go.Proofs.Ytpikepifhnkmkaa

/- FollowAll: what is asked of a file's lines; the end. -/
namespace Go.Proofs.Ytpikepifhnkmkaa
open Go.RowKit Go.Maps Sf Ln Fo

def shorts (ln : Nat) (W : List (List UInt8)) : List (List UInt8) := W.filter fun x => decide (x.length ≤ ln)
def longs (ln : Nat) (W : List (List UInt8)) : Nat := (W.filter fun x => !decide (x.length ≤ ln)).length
theorem take_some {W : List (List UInt8)} {q : Nat} {x : List UInt8} (h : W[q]? = some x) : W.take (q + 1) = W.take q ++ [x] := by
  obtain ⟨hl, e⟩ := List.getElem?_eq_some_iff.1 h
  rw [List.take_succ_eq_append_getElem hl, e]
theorem shorts_yes {ln q : Nat} {W : List (List UInt8)} {x : List UInt8} (h : W[q]? = some x) (hx : x.length ≤ ln) : shorts ln (W.take (q + 1)) = shorts ln (W.take q) ++ [x] ∧ longs ln (W.take (q + 1)) = longs ln (W.take q) := by
  unfold shorts longs
  rw [take_some h, List.filter_append, List.filter_append]
  simp [hx]
theorem shorts_no {ln q : Nat} {W : List (List UInt8)} {x : List UInt8} (h : W[q]? = some x) (hx : ¬ x.length ≤ ln) : shorts ln (W.take (q + 1)) = shorts ln (W.take q) ∧ longs ln (W.take (q + 1)) = longs ln (W.take q) + 1 := by
  unfold shorts longs
  rw [take_some h, List.filter_append, List.filter_append]
  simp [hx]
/-- the first q lines of a file are asked for -/
def KH (w : World) (i ln ck A Bd lgN tlN lgq tn F B m : Nat) (s : ByteArray) (q : Nat) (Y V U : Value) (u : World) : Prop := ∃ d f Pd K C G0 L lg k j z, (AllS w w.heap.size A Bd Pd F B K C d f V U (G0 ++ L) (G0 ++ shorts ln ((whs [] s.data.toList).1.take q)) u ∧ KF i ln ck lgN tlN k m j tn z s f d K C G0 L s.size lg) ∧ k ≤ 6 ∧ lgq = lgN + longs ln ((whs [] s.data.toList).1.take q) ∧ u.ownsRow w.heap.size 9 1 Y (whs [] s.data.toList).1.length (sv (whs [] s.data.toList).1) ∧ ∀ b, Y.ownBlock = some b → U.ownBlock ≠ some b
section
variable {w u v : World} {i ln ck A Bd lgN tlN lgq tn F B k m j N q : Nat} {z : Bool} {s t : ByteArray} {V U V' U' Y : Value}
theorem KH.start (h : KI w i ln ck A Bd lgN tlN tn F B k m s.size z s V U u) (hk : k ≤ 6) (hb : Below u.heap.size u v) (hr : v.ownsRow u.heap.size 9 1 Y (whs [] s.data.toList).1.length (sv (whs [] s.data.toList).1)) : KH w i ln ck A Bd lgN tlN lgN tn F B m s 0 Y V U v := by
  obtain ⟨d, f, Pd, K, C, G0, L, c, lg, h1, h2⟩ := h
  have hpr := h2.pr
  have hcl := h2.af.cl
  rw [sz_list] at hcl
  obtain rfl : c = s.size := by omega
  refine ⟨d, f, Pd, K, C, G0, L, lg, k, s.size, z, ⟨?_, h2⟩, hk, rfl, own_low hr h1.b0.2, fun b hb2 hu => ?_⟩
  · have h3 := h1.later hb
    rw [show G0 ++ shorts ln ((whs [] s.data.toList).1.take 0) = G0 by rw [List.take_zero]; exact List.append_nil _]
    exact h3
  · have a := own_lt hr hb2
    have b := own_lt h1.t.1 hu
    omega
theorem KH.own (h : KH w i ln ck A Bd lgN tlN lgq tn F B m s q Y V U u) (hi : i < 4) {x : List UInt8} (hx : (whs [] s.data.toList).1[q]? = some x) (hs : x.length ≤ ln) (hq : (whs [] s.data.toList).1.length ≤ 360) : ∃ (X : List (List UInt8)) (n : Nat), n ≤ 3000 ∧ u.ownsRow w.heap.size 9 1 U n (sv X) ∧ w.heap.size ≤ u.heap.size ∧ ∀ v U', u.grownBy v U.ownBlock → v.ownsRow w.heap.size 9 1 U' (n + 1) (sv X ++ [.string ⟨x.toArray⟩]) → Here u U U' → KH w i ln ck A Bd lgN tlN lgq tn F B m s (q + 1) Y V U' v := by
  obtain ⟨d, f, Pd, K, C, G0, L, lg, k, j, z, ⟨h1, h2⟩, h3, h4, h5, h6⟩ := h
  obtain ⟨e1, e2⟩ := shorts_yes hx hs
  refine ⟨_, _, ?_, h1.t.1, h1.b0.2, fun v U' hg ho hh => ?_⟩
  · have a := h2.gb
    have b : (shorts ln ((whs [] s.data.toList).1.take q)).length ≤ 360 := by
      unfold shorts
      exact Nat.le_trans (List.length_filter_le _ _) (Nat.le_trans (List.length_take_le' _ _) hq)
    rw [List.length_append]
    omega
  · have hY : v.ownsRow w.heap.size 9 1 Y (whs [] s.data.toList).1.length (sv (whs [] s.data.toList).1) := ownsRow_keep h5 (fun g hg2 _ hl => hg.block g hl (fun e => h6 g hg2 e.symm))
    refine ⟨d, f, Pd, K, C, G0, L, lg, k, j, z, ⟨?_, h2⟩, h3, by rw [e2]; exact h4, hY, fun b hb hu => ?_⟩
    · rw [e1, ← List.append_assoc]
      exact h1.putH hg ho hh
    · rcases hh b hu with e | e
      · exact h6 b hb e
      · have := (own_lt h5 hb).2
        omega
theorem KH.later (h : KH w i ln ck A Bd lgN tlN lgq tn F B m s q Y V U u) (hb : Below u.heap.size u v) : KH w i ln ck A Bd lgN tlN lgq tn F B m s q Y V U v := by
  obtain ⟨d, f, Pd, K, C, G0, L, lg, k, j, z, ⟨h1, h2⟩, h3, h4, h5, h6⟩ := h
  exact ⟨d, f, Pd, K, C, G0, L, lg, k, j, z, ⟨h1.later hb, h2⟩, h3, h4, ownsRow_keep h5 (fun g _ _ hl => hb.block g hl), h6⟩
theorem KH.long (h : KH w i ln ck A Bd lgN tlN lgq tn F B m s q Y V U u) {x : List UInt8} (hx : (whs [] s.data.toList).1[q]? = some x) (hs : ¬ x.length ≤ ln) : KH w i ln ck A Bd lgN tlN (lgq + 1) tn F B m s (q + 1) Y V U u := by
  obtain ⟨d, f, Pd, K, C, G0, L, lg, k, j, z, ⟨h1, h2⟩, h3, h4, h5, h6⟩ := h
  obtain ⟨e1, e2⟩ := shorts_no hx hs
  exact ⟨d, f, Pd, K, C, G0, L, lg, k, j, z, ⟨by rw [e1]; exact h1, h2⟩, h3, by rw [e2]; omega, h5, h6⟩
theorem KH.row (h : KH w i ln ck A Bd lgN tlN lgq tn F B m s q Y V U u) : LAt u Y (sv (whs [] s.data.toList).1) := by
  obtain ⟨d, f, Pd, K, C, G0, L, lg, k, j, z, _, _, _, h5, _⟩ := h
  exact owns_lat h5
/-- the tail of a file -/
def tailB (N i : Nat) (s : ByteArray) : Bool := decide (i + 1 < N ∧ i < 3 ∧ s.data.toList ≠ [] ∧ s.data.toList.getLast? ≠ some 10)
theorem KH.done (h : KH w i ln ck A Bd lgN tlN lgq tn F B m s (whs [] s.data.toList).1.length Y V U u) (hm : m ≤ 5000 * i + 5000) : OutI w N ln ck A Bd (i + 1) lgq (tlN + if tailB N i s then 1 else 0) tn F B V U u := by
  obtain ⟨d, f, Pd, K, C, G0, L, lg, k, j, z, ⟨h1, h2⟩, h3, h4, h5, h6⟩ := h
  rw [List.take_length] at h1 h4
  have hst := h2.af.st
  rw [← sz_list, List.take_length, whs_st] at hst
  have e1 : shorts ln (whs [] s.data.toList).1 = L := congrArg St.ls hst
  have e2 : (whs [] s.data.toList).2 = f.k.u := congrArg St.u hst
  have e3 : longs ln (whs [] s.data.toList).1 = lg := congrArg St.lg hst
  rw [e1] at h1
  rw [e3] at h4
  have hll := h2.ll
  have hsb := h2.sb
  have hgb := h2.gb
  have hlb := h2.lb
  have hkb := h2.kb
  have hcb := h2.cb
  have htl := h2.tl1
  have hwr := whs_rest s.data.toList [] (fun c hc => by cases hc)
  rw [List.nil_append, e2] at hwr
  have hu : (0 < f.k.u.length ∧ i + 1 < N ∧ i + 1 < 4) ↔ (i + 1 < N ∧ i < 3 ∧ s.data.toList ≠ [] ∧ s.data.toList.getLast? ≠ some 10) := by
    have hl : 0 < f.k.u.length ↔ f.k.u ≠ [] := List.length_pos_iff
    constructor
    · rintro ⟨a, b, c⟩
      exact ⟨b, by omega, fun e => hl.1 a (hwr.2 (.inl e)), fun e => hl.1 a (hwr.2 (.inr e))⟩
    · rintro ⟨a, b, c, e⟩
      refine ⟨hl.2 (fun x => ?_), a, by omega⟩
      rcases hwr.1 x with x | x
      · exact c x
      · exact e x
  refine ⟨d, f, Pd, K, C, G0 ++ L, h1, ⟨fun e => by omega, fun j' e => ?_, by rw [h2.lg1, h4]; omega, ?_, ?_⟩, by omega, by omega, by rw [List.length_append]; omega, by rw [List.length_append]; exact h2.tn1⟩
  · obtain rfl : j' = i := by omega
    exact ⟨_, L, lg, by rw [sz_list]; exact h2.af, h2.ad⟩
  · by_cases hc : i + 1 < N ∧ i < 3 ∧ s.data.toList ≠ [] ∧ s.data.toList.getLast? ≠ some 10
    · rw [if_pos (hu.2 hc), htl]
      unfold tailB
      rw [decide_eq_true hc, if_pos rfl]
      omega
    · rw [if_neg (fun x => hc (hu.1 x)), htl]
      unfold tailB
      rw [decide_eq_false hc, if_neg Bool.false_ne_true]
      omega
  · rw [htl]
    split <;> omega
theorem OutI.fin (h : OutI w N ln ck A Bd i lgN tlN tn F B V U u) (hn : ¬ (i < N ∧ i < 4)) : ∃ (q : Mrk) (X : List (List UInt8)), Calls Try.prog 13 #[.pointer (some ⟨F, 0, none⟩)] u (fun e v => e = .returned (mrkBox q) ∧ Below u.heap.size u v) ∧ q.ms = 0 ∧ q.gn = 0 ∧ q.ct = 0 ∧ q.tl = tlN ∧ q.lg = lgN ∧ LAt u V (sv X) ∧ LAt u U (sv X) ∧ X.length = tn ∧ Below w.heap.size w u ∧ tn ≤ 400 * i := by
  obtain ⟨d, f, Pd, K, C, G, h1, h2, h3, h4, h5, h6⟩ := h
  have htl := h2.tl
  rw [if_neg (fun x => hn x.2)] at htl
  have hz : f.m.ms = 0 ∧ f.m.gn = 0 ∧ f.m.ct = 0 := by
    by_cases hi : i = 0
    · obtain ⟨_, rfl⟩ := h2.zero hi
      exact ⟨rfl, rfl, rfl⟩
    · obtain ⟨all, L, lg, hf, _⟩ := h2.more (i - 1) (by omega)
      exact ⟨hf.ms, hf.gn, hf.ct⟩
  exact ⟨f.m, G, h1.s.mark, hz.1, hz.2.1, hz.2.2, by omega, h2.lg, owns_lat h1.g.1, owns_lat h1.t.1, h6.symm, h1.s.lo, by omega⟩
end
end Go.Proofs.Ytpikepifhnkmkaa
