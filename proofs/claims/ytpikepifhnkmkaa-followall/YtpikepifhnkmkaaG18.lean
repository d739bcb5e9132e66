/- Plain: one path's reading. -/
import Derived.Test.YtpikepifhnkmkaaG08
import Derived.Test.YtpikepifhnkmkaaG17
namespace Fo
open Sf Ln Go.Proofs.Ytpikepifhnkmkaa

def top : Int := 4611686018427387904
/-- a mark: serial, inode, generation, place, and five losses -/
structure Mrk where
  s : Int
  n : Int
  g : Int
  o : Int
  ms : Int
  gn : Int
  ct : Int
  tl : Int
  lg : Int
def raise (x k : Int) : Int := x + min k (top - x)
structure Fo where
  m : Mrk
  nm : ByteArray
  ck : Nat
  k : Mk
/-- a mark that may be, by its numbers -/
structure Mrk.In (m : Mrk) : Prop where
  s : 0 ≤ m.s ∧ m.s ≤ top
  n : 0 ≤ m.n ∧ m.n ≤ top
  g : 0 ≤ m.g ∧ m.g ≤ top
  o : 0 ≤ m.o ∧ m.o ≤ top
  ms : 0 ≤ m.ms ∧ m.ms ≤ top
  gn : 0 ≤ m.gn ∧ m.gn ≤ top
  ct : 0 ≤ m.ct ∧ m.ct ≤ top
  tl : 0 ≤ m.tl ∧ m.tl ≤ top
  lg : 0 ≤ m.lg ∧ m.lg ≤ top
theorem raise_in {x k : Int} (hx : 0 ≤ x ∧ x ≤ top) (hk : 0 ≤ k) : 0 ≤ raise x k ∧ raise x k ≤ top ∧ x ≤ raise x k := by
  unfold raise top at *
  omega
theorem raise_min (x k : Int) : raise x k = min (x + k) top := by
  unfold raise top at *
  omega
/-- holds another generation, or none: from its first byte on -/
def Fo.hold (f : Fo) (n g : Int) : Fo := ⟨{ f.m with n := n, g := g, o := 0 }, f.nm, f.ck, f.k.drop⟩
def Fo.lose (f : Fo) : Fo := Fo.hold ⟨{ f.m with gn := raise f.m.gn 1 }, f.nm, f.ck, f.k⟩ 0 0
def Fo.take (f : Fo) (q n g : Int) : Fo := Fo.hold ⟨{ f.m with ms := raise f.m.ms (q - f.m.s - 1), s := q }, f.nm, f.ck, f.k⟩ n g
def Fo.cut (f : Fo) (g : Int) : Fo := Fo.hold ⟨{ f.m with ct := raise f.m.ct (max (g - f.m.g) 0) }, f.nm, f.ck, f.k⟩ f.m.n g
def Fo.tail (f : Fo) : Fo := if 0 < f.k.u.length then ⟨{ f.m with tl := raise f.m.tl 1 }, f.nm, f.ck, f.k⟩ else f
/-- the name's inode, where it came behind the one that was taken up last -/
def further (f : Fo) (d : Dk) : Bool := decide (err d f.nm = 0) && decide (f.m.s < (ser d f.nm : Int))
def genOf (d : Dk) (n : Nat) : Nat := match d.ino n with
  | some x => x.gen
  | none => 0
def Fo.takeUp (f : Fo) (d : Dk) : Fo := f.take (ser d f.nm : Int) (num d f.nm : Int) (genOf d (num d f.nm) : Int)
/-- behind a newline -/
def Fo.on (f : Fo) (b : List UInt8) : Fo :=
  if nl b < b.length then
    (if f.k.whole b then ⟨{ f.m with o := f.m.o + f.k.u.length + took b }, f.nm, f.ck, f.k.feed b⟩
     else ⟨{ f.m with o := f.m.o + f.k.u.length + took b, lg := raise f.m.lg 1 }, f.nm, f.ck, f.k.feed b⟩)
  else ⟨f.m, f.nm, f.ck, f.k.feed b⟩
/-- what a read brings -/
def Fo.got (f : Fo) (x : Ino) : List UInt8 := (x.bs.drop (f.m.o + f.k.u.length).toNat).take f.ck
def Fo.step (f : Fo) (d : Dk) : Fo :=
  if f.m.n = 0 then (if further f d then f.takeUp d else f)
  else match inoZ d f.m.n with
  | none => f.lose
  | some x =>
    if (x.gen : Int) ≠ f.m.g then f.cut x.gen
    else if f.got x ≠ [] then f.on (f.got x)
    else if further f d then f.tail.takeUp d
    else f
/-- the line that a step answers -/
def Fo.line (f : Fo) (d : Dk) : Option (List UInt8) :=
  if f.m.n = 0 then none
  else match inoZ d f.m.n with
  | none => none
  | some x =>
    if (x.gen : Int) ≠ f.m.g then none
    else if f.got x ≠ [] ∧ f.k.whole (f.got x) = true then some (f.k.text (f.got x))
    else none
theorem hold_same (f : Fo) (n g : Int) : (f.hold n g).nm = f.nm ∧ (f.hold n g).ck = f.ck ∧ (f.hold n g).k = f.k.drop := ⟨rfl, rfl, rfl⟩
theorem step_same (f : Fo) (d : Dk) : (f.step d).nm = f.nm ∧ (f.step d).ck = f.ck ∧ (f.step d).k.most = f.k.most := by
  have h1 : ∀ g : Fo, (g.takeUp d).nm = g.nm ∧ (g.takeUp d).ck = g.ck ∧ (g.takeUp d).k.most = g.k.most := fun g => ⟨rfl, rfl, rfl⟩
  have h2 : (f.tail).nm = f.nm ∧ f.tail.ck = f.ck ∧ f.tail.k = f.k := by unfold Fo.tail; split <;> exact ⟨rfl, rfl, rfl⟩
  unfold Fo.step
  split
  · split
    · exact h1 f
    · exact ⟨rfl, rfl, rfl⟩
  · split
    · exact ⟨rfl, rfl, rfl⟩
    · rename_i x hx
      split
      · exact ⟨rfl, rfl, rfl⟩
      · split
        · unfold Fo.on
          split
          · split
            · exact ⟨rfl, rfl, Mk.feed_most _ _⟩
            · exact ⟨rfl, rfl, Mk.feed_most _ _⟩
          · exact ⟨rfl, rfl, Mk.feed_most _ _⟩
        · split
          · obtain ⟨a, b, c⟩ := h1 f.tail
            exact ⟨a.trans h2.1, b.trans h2.2.1, by rw [c, h2.2.2]⟩
          · exact ⟨rfl, rfl, rfl⟩
/-- WHAT HOLDS OF A FOLLOWER behind at most C steps. -/
structure Fo.Ok (f : Fo) (C : Nat) : Prop where
  m : f.m.In
  most : f.k.most ≤ 4096
  u : f.k.u.length ≤ 1048576
  long : f.k.long ≤ C
  ck : 1 ≤ f.ck ∧ f.ck ≤ 4096
  nm : f.nm.size ≤ 32
theorem got_le (f : Fo) (x : Ino) : (f.got x).length ≤ f.ck ∧ (f.got x ≠ [] → (f.m.o + f.k.u.length).toNat + (f.got x).length ≤ x.bs.length) := by
  unfold Fo.got
  rw [List.length_take, List.length_drop]
  refine ⟨by omega, fun h => ?_⟩
  have : 0 < (List.take f.ck (List.drop (f.m.o + f.k.u.length).toNat x.bs)).length := List.length_pos_iff.2 h
  rw [List.length_take, List.length_drop] at this
  omega
theorem feed_long (k : Mk) (b : List UInt8) : (k.feed b).long ≤ k.long + 1 := by
  unfold Mk.feed
  split
  · unfold Mk.ended
    by_cases hx : (k.goOn (List.take (nl b) b)).u.length ≤ (k.goOn (List.take (nl b) b)).most
    · rw [if_pos hx]; show k.long ≤ _; omega
    · rw [if_neg hx]; exact Nat.le_refl _
  · show k.long ≤ _; omega
theorem gen_le {d : Dk} {K : Nat} (h : Wf d K) (n : Nat) : genOf d n ≤ K := by
  unfold genOf
  cases x : d.ino n with
  | none => exact Nat.zero_le _
  | some f => exact (h.ino n f x).2.2.2.2.2.2
theorem zero_in : (0 : Int) ≤ 0 ∧ (0 : Int) ≤ top := ⟨by decide, by decide⟩
theorem hold_ok {f : Fo} {C : Nat} (h : f.Ok C) {n g : Int} (hn : 0 ≤ n ∧ n ≤ top) (hg : 0 ≤ g ∧ g ≤ top) : (f.hold n g).Ok C :=
  ⟨⟨h.m.s, hn, hg, zero_in, h.m.ms, h.m.gn, h.m.ct, h.m.tl, h.m.lg⟩, h.most, Nat.zero_le _, h.long, h.ck, h.nm⟩
theorem lose_ok {f : Fo} {C : Nat} (h : f.Ok C) : f.lose.Ok C := by
  obtain ⟨a, b, c⟩ := raise_in h.m.gn (k := 1) (by decide)
  unfold Fo.lose
  have h2 : Fo.Ok ⟨{ f.m with gn := raise f.m.gn 1 }, f.nm, f.ck, f.k⟩ C := ⟨⟨h.m.s, h.m.n, h.m.g, h.m.o, h.m.ms, ⟨a, b⟩, h.m.ct, h.m.tl, h.m.lg⟩, h.most, h.u, h.long, h.ck, h.nm⟩
  exact hold_ok h2 zero_in zero_in
theorem cut_ok {f : Fo} {C : Nat} (h : f.Ok C) {g : Int} (hg : 0 ≤ g ∧ g ≤ top) : (f.cut g).Ok C := by
  obtain ⟨a, b, c⟩ := raise_in h.m.ct (k := max (g - f.m.g) 0) (by omega)
  unfold Fo.cut
  have h2 : Fo.Ok ⟨{ f.m with ct := raise f.m.ct (max (g - f.m.g) 0) }, f.nm, f.ck, f.k⟩ C := ⟨⟨h.m.s, h.m.n, h.m.g, h.m.o, h.m.ms, h.m.gn, ⟨a, b⟩, h.m.tl, h.m.lg⟩, h.most, h.u, h.long, h.ck, h.nm⟩
  exact hold_ok h2 h.m.n hg
theorem tail_ok {f : Fo} {C : Nat} (h : f.Ok C) : f.tail.Ok C := by
  unfold Fo.tail
  split
  · obtain ⟨a, b, c⟩ := raise_in h.m.tl (k := 1) (by decide)
    exact ⟨⟨h.m.s, h.m.n, h.m.g, h.m.o, h.m.ms, h.m.gn, h.m.ct, ⟨a, b⟩, h.m.lg⟩, h.most, h.u, h.long, h.ck, h.nm⟩
  · exact h
theorem further_iff {f : Fo} {d : Dk} : further f d = true ↔ err d f.nm = 0 ∧ f.m.s < (ser d f.nm : Int) := by unfold further; simp
theorem takeUp_ok {f : Fo} {C K : Nat} {d : Dk} (h : f.Ok C) (hw : Wf d K) (hK : K ≤ 1000000) (hf : f.m.s < (ser d f.nm : Int)) : (f.takeUp d).Ok C := by
  have h1 := hw.serLe f.nm
  have h2 := hw.numLe f.nm
  have h3 := gen_le hw (num d f.nm)
  have h4 := hw.hi
  have h5 := h.m.s
  obtain ⟨a, b, c⟩ := raise_in h.m.ms (k := (ser d f.nm : Int) - f.m.s - 1) (by omega)
  unfold Fo.takeUp Fo.take
  have hs : 0 ≤ (ser d f.nm : Int) ∧ (ser d f.nm : Int) ≤ top := by unfold top at *; omega
  have h6 : Fo.Ok ⟨{ f.m with ms := raise f.m.ms ((ser d f.nm : Int) - f.m.s - 1), s := (ser d f.nm : Int) }, f.nm, f.ck, f.k⟩ C := ⟨⟨hs, h.m.n, h.m.g, h.m.o, ⟨a, b⟩, h.m.gn, h.m.ct, h.m.tl, h.m.lg⟩, h.most, h.u, h.long, h.ck, h.nm⟩
  exact hold_ok h6 ⟨by omega, by unfold top at *; omega⟩ ⟨by omega, by unfold top at *; omega⟩
theorem inoZ_wf {d : Dk} {K : Nat} {z : Int} {x : Ino} (h : Wf d K) (hx : inoZ d z = some x) : 1 ≤ z ∧ z ≤ d.hi ∧ d.ino z.toNat = some x ∧ x.bs.length ≤ 1048576 ∧ x.gen ≤ K := by
  unfold inoZ at hx
  by_cases h0 : 0 ≤ z
  · rw [if_pos h0] at hx
    have := h.ino _ x hx
    exact ⟨by omega, by omega, hx, this.2.2.2.2.2.1, this.2.2.2.2.2.2⟩
  · rw [if_neg h0] at hx; cases hx
theorem on_ok {f : Fo} {C : Nat} {x : Ino} (h : f.Ok C) (hx : x.bs.length ≤ 1048576) (hb : f.got x ≠ []) : (f.on (f.got x)).Ok (C + 1) := by
  obtain ⟨g1, g2⟩ := got_le f x
  have g2 := g2 hb
  have h1 := h.m.o
  have h2 := h.u
  have t1 := took_le (f.got x)
  have hl := feed_long f.k (f.got x)
  have hll := h.long
  have hu := Mk.feed_u f.k (f.got x)
  have ho : 0 ≤ f.m.o + f.k.u.length + took (f.got x) ∧ f.m.o + f.k.u.length + took (f.got x) ≤ top := by unfold top at *; omega
  have hmost : (f.k.feed (f.got x)).most ≤ 4096 := by rw [Mk.feed_most]; exact h.most
  obtain ⟨r1, r2, _⟩ := raise_in h.m.lg (k := 1) (by decide)
  have hk : (f.k.feed (f.got x)).u.length ≤ 1048576 := by omega
  unfold Fo.on
  split
  · split
    · exact ⟨⟨h.m.s, h.m.n, h.m.g, ho, h.m.ms, h.m.gn, h.m.ct, h.m.tl, h.m.lg⟩, hmost, hk, Nat.le_trans hl (Nat.succ_le_succ hll), h.ck, h.nm⟩
    · exact ⟨⟨h.m.s, h.m.n, h.m.g, ho, h.m.ms, h.m.gn, h.m.ct, h.m.tl, ⟨r1, r2⟩⟩, hmost, hk, Nat.le_trans hl (Nat.succ_le_succ hll), h.ck, h.nm⟩
  · exact ⟨h.m, hmost, hk, Nat.le_trans hl (Nat.succ_le_succ hll), h.ck, h.nm⟩
theorem Ok.up {f : Fo} {C C' : Nat} (h : f.Ok C) (hc : C ≤ C') : f.Ok C' := ⟨h.m, h.most, h.u, Nat.le_trans h.long hc, h.ck, h.nm⟩
theorem step_ok {f : Fo} {C K : Nat} {d : Dk} (h : f.Ok C) (hw : Wf d K) (hK : K ≤ 1000000) : (f.step d).Ok (C + 1) := by
  have hu : f.Ok (C + 1) := Ok.up h (Nat.le_succ C)
  unfold Fo.step
  split
  · split
    · rename_i hf
      exact takeUp_ok hu hw hK (further_iff.1 hf).2
    · exact hu
  · split
    · exact lose_ok hu
    · rename_i x hx
      obtain ⟨a1, a2, a3, a4, a5⟩ := inoZ_wf hw hx
      split
      · exact cut_ok hu ⟨by omega, by unfold top; omega⟩
      · split
        · rename_i hb
          exact on_ok h a4 hb
        · split
          · rename_i hf
            have e : f.tail.m.s = f.m.s ∧ f.tail.nm = f.nm := by unfold Fo.tail; split <;> exact ⟨rfl, rfl⟩
            exact takeUp_ok (tail_ok hu) hw hK (by rw [e.1, e.2]; exact (further_iff.1 hf).2)
          · exact hu
end Fo
