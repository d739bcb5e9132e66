/- heronlaw17: whole. -/
import Derived.Test.YtpikepifhnkmkaaG50
namespace Go.Proofs.Ytpikepifhnkmkaa
open Go.RowKit Go.Maps Sf Ln Fo
attribute [local go_sem ↓] Go.wp_at_zero Go.wp_at_succ

theorem own_lt {u : World} {b0 : Nat} {e : TypeId} {z : Nat} {V : Value} {n : Nat} {xs : List Value} (h : u.ownsRow b0 e z V n xs) {g : Nat} (hg : V.ownBlock = some g) : b0 ≤ g ∧ g < u.heap.size := by
  rcases h.2 with ⟨rfl, _⟩ | ⟨g', cap, cur, rfl, hb, hh, _⟩
  · simp [Value.ownBlock] at hg
  · have : g' = g := Option.some.inj hg
    subst this
    exact ⟨hb, (Array.getElem?_eq_some_iff.1 hh).1⟩
def sv (L : List (List UInt8)) : List Value := L.map fun x => .string ⟨x.toArray⟩
theorem sv_len (L : List (List UInt8)) : (sv L).length = L.length := by simp [sv]
theorem infS : (Try.prog.info? 9).map (fun i => (i.zero, i.size, i.bytes)) = some (some (.string ⟨#[]⟩), 1, 16) := by kernel_rfl
theorem whs_snoc (c : UInt8) : ∀ (l u : List UInt8), whs u (l ++ [c]) = if c = 10 then ((whs u l).1 ++ [(whs u l).2], []) else ((whs u l).1, (whs u l).2 ++ [c])
  | [], u => by
    show whs u [c] = _
    unfold whs
    by_cases h : c = 10
    · rw [if_pos h, if_pos h]; rfl
    · rw [if_neg h, if_neg h]; rfl
  | x :: r, u => by
    show whs u (x :: (r ++ [c])) = _
    unfold whs
    by_cases h : x = 10
    · rw [if_pos h, if_pos h, whs_snoc c r []]
      by_cases h2 : c = 10
      · rw [if_pos h2, if_pos h2]; rfl
      · rw [if_neg h2, if_neg h2]
    · rw [if_neg h, if_neg h]
      exact whs_snoc c r (u ++ [x])
theorem extract_list (s : ByteArray) (a b : Nat) : s.extract a b = ⟨((s.data.toList.drop a).take (b - a)).toArray⟩ := by
  apply ByteArray.ext
  rw [ByteArray.data_extract]
  apply Array.ext'
  simp
structure WhI (s : ByteArray) (fr k : Nat) : Prop where
  le : fr ≤ k
  u : (whs [] (s.data.toList.take k)).2 = (s.data.toList.drop fr).take (k - fr)
  n : (whs [] (s.data.toList.take k)).1.length ≤ k
theorem whi_step {s : ByteArray} {fr k : Nat} (h : WhI s fr k) {c : UInt8} (hc : s.data.toList[k]? = some c) :
    (c = 10 → WhI s (k + 1) (k + 1) ∧ (whs [] (s.data.toList.take (k + 1))).1 = (whs [] (s.data.toList.take k)).1 ++ [(s.data.toList.drop fr).take (k - fr)]) ∧ (c ≠ 10 → WhI s fr (k + 1) ∧ (whs [] (s.data.toList.take (k + 1))).1 = (whs [] (s.data.toList.take k)).1) := by
  obtain ⟨hl, e⟩ := List.getElem?_eq_some_iff.1 hc
  have ht : s.data.toList.take (k + 1) = s.data.toList.take k ++ [c] := by rw [List.take_succ_eq_append_getElem hl, e]
  have hw := whs_snoc c (s.data.toList.take k) []
  rw [← ht] at hw
  have hn := h.n
  refine ⟨fun hc10 => ?_, fun hc10 => ?_⟩
  · rw [if_pos hc10] at hw
    rw [hw]
    refine ⟨⟨Nat.le_refl _, ?_, ?_⟩, by rw [h.u]⟩
    · rw [hw, Nat.sub_self, List.take_zero]
    · rw [hw, List.length_append, List.length_singleton]; omega
  · rw [if_neg hc10] at hw
    rw [hw]
    refine ⟨⟨Nat.le_succ_of_le h.le, ?_, ?_⟩, rfl⟩
    · rw [hw]
      show (whs [] (s.data.toList.take k)).2 ++ [c] = _
      rw [h.u]
      have hle := h.le
      rw [show k + 1 - fr = (k - fr) + 1 by omega]
      have hx : (s.data.toList.drop fr)[k - fr]? = some c := by rw [List.getElem?_drop, show fr + (k - fr) = k by omega]; exact hc
      obtain ⟨hl2, e2⟩ := List.getElem?_eq_some_iff.1 hx
      rw [List.take_succ_eq_append_getElem hl2, e2]
    · rw [hw]; show (whs [] (s.data.toList.take k)).1.length ≤ _; omega
set_option maxRecDepth 8000 in
set_option maxHeartbeats 4000000 in
theorem whole_fn (s : ByteArray) (w : World) (hs : s.size ≤ 1000) : Calls Try.prog 14 #[.string s] w fun e w' => ∃ V, e = .returned V ∧ w'.ownsRow w.heap.size 9 1 V (whs [] s.data.toList).1.length (sv (whs [] s.data.toList).1) ∧ Below w.heap.size w w' := by
  obtain ⟨n, hn⟩ : ∃ n, s.size = n := ⟨_, rfl⟩
  have HN : Hid (s.size = n) := hn
  have hn2 : n ≤ 1000 := by omega
  have hsz : s.size ≤ 9223372036854775807 := by omega
  have H0 : Hid (WhI s 0 0 ∧ w.ownsRow w.heap.size 9 1 (.slice none 0 0) (whs [] (s.data.toList.take 0)).1.length (sv (whs [] (s.data.toList.take 0)).1) ∧ Below w.heap.size w w) := ⟨⟨Nat.le_refl _, rfl, Nat.le_refl _⟩, World.ownsRow_nil _ _ _ _, Below.refl _ _⟩
  clear hs
  go_enter Try.func14, Try.ntmps14
  go_wp2_with fail
  go_loopw [3, 4, 5] (fun v f i u => ∃ k fr : Nat, k ≤ n ∧ i = .int .i64 (k : Nat) ∧ f = .int .i64 (fr : Nat) ∧ Hid (WhI s fr k ∧ u.ownsRow w.heap.size 9 1 v (whs [] (s.data.toList.take k)).1.length (sv (whs [] (s.data.toList.take k)).1) ∧ Below w.heap.size w u)) (fun _ _ i _ => n - (Go.RowKit.intOf i).toNat)
  case atStart => exact ⟨0, 0, Nat.zero_le _, rfl, rfl, H0⟩
  case round =>
    obtain ⟨k, fr, hk, rfl, rfl, HI⟩ := hrel
    clear H0
    by_cases hlt : k < n
    · have hks : k < s.size := by omega
      obtain ⟨c, hc⟩ : ∃ c, s.data.toList[k]? = some c := ⟨_, List.getElem?_eq_getElem (by simpa using hks)⟩
      have hcx : s[k] = c := by
        have h2 : s.data[k]? = some s.data[k] := Array.getElem?_eq_getElem hks
        rw [← Array.getElem?_toList, hc] at h2
        exact (Option.some.inj h2).symm
      obtain ⟨p1, p2⟩ := whi_step HI.out.1 hc
      by_cases h10 : c = 10
      · have he : ((s[k].toNat : Nat) : Int) = 10 := by rw [hcx, h10]; rfl
        obtain ⟨q1, q2⟩ := p1 h10
        have HQ : Hid (WhI s (k + 1) (k + 1) ∧ (whs [] (s.data.toList.take (k + 1))).1 = (whs [] (s.data.toList.take k)).1 ++ [(s.data.toList.drop fr).take (k - fr)] ∧ fr ≤ k) := ⟨q1, q2, HI.out.1.le⟩
        have hfr : (fr : Int) ≤ (k : Int) := by have := HI.out.1.le; omega
        obtain ⟨va, vc, rfl⟩ := own_form HI.out.2.1
        obtain ⟨m, hm⟩ : ∃ m, (whs [] (s.data.toList.take k)).1.length = m := ⟨_, rfl⟩
        have hml : m ≤ 1000 := by have := HI.out.1.n; omega
        have HM : Hid ((whs [] (s.data.toList.take k)).1.length = m) := hm
        rw [hm] at HI ⊢
        have HA : Hid ((wr.alloc (.cells #[.string (s.extract fr k)] 9)).ownsRow w.heap.size 9 1 (.slice va m vc) m (sv (whs [] (s.data.toList.take k)).1)) := ownsRow_keep HI.out.2.1 (fun g _ _ hl => Below.heap_alloc wr _ g hl)
        have HB : Hid (Below w.heap.size w (wr.alloc (.cells #[.string (s.extract fr k)] 9))) := HI.out.2.2.alloc HI.out.2.2.size _
        clear hc hcx p1 p2 h10 q1 q2 hm
        go_wp2_with (refine wpList_append_lat rfl (.tmp 16) (.tmp 21) rfl (.string ⟨#[]⟩) 16 (by kernel_rfl) infS rfl w.heap.size _ m (sv (whs [] (s.data.toList.take k)).1) rfl HA.out _ [.string (s.extract fr k)] rfl (lat_lit wr _ _ _) (fun u hu => by simp at hu; subst hu; rfl) (by simp only [List.length_singleton]; unfold maxLen; omega) (by simp only [List.length_singleton]; omega) HB.out.size ?_; intro V' w3 ho3 hg3 hn3 hh3; have HV : Hid (w3.ownsRow w.heap.size 9 1 V' (m + 1) (sv (whs [] (s.data.toList.take k)).1 ++ [.string (s.extract fr k)]) ∧ Below w.heap.size w w3) := ⟨ho3, HB.out.grown hg3 HB.out.size (fun g hg => (own_lt HA.out hg).1)⟩; clear ho3 hg3 hn3 hh3)
        have HI2 : Hid (WhI s (k + 1) (k + 1) ∧ w3.ownsRow w.heap.size 9 1 V' (whs [] (s.data.toList.take (k + 1))).1.length (sv (whs [] (s.data.toList.take (k + 1))).1) ∧ Below w.heap.size w w3) := by
          refine ⟨HQ.out.1, ?_, HV.out.2⟩
          rw [HQ.out.2.1, List.length_append, HM.out, List.length_singleton]
          have e : sv ((whs [] (s.data.toList.take k)).1 ++ [(s.data.toList.drop fr).take (k - fr)]) = sv (whs [] (s.data.toList.take k)).1 ++ [.string (s.extract fr k)] := by unfold sv; rw [List.map_append, extract_list]; rfl
          rw [e]
          exact HV.out.1
        clear HA HB HV HQ
        go_wp2_with fail
        go_roundw
        case rel => exact ⟨k + 1, k + 1, by omega, by go_num, by go_num, HI2⟩
        case measure => simp [Go.RowKit.intOf]; omega
      · have he : ¬ ((s[k].toNat : Nat) : Int) = 10 := by rw [hcx]; exact u8_ten h10
        obtain ⟨q1, q2⟩ := p2 h10
        have HI2 : Hid (WhI s fr (k + 1) ∧ wr.ownsRow w.heap.size 9 1 u3 (whs [] (s.data.toList.take (k + 1))).1.length (sv (whs [] (s.data.toList.take (k + 1))).1) ∧ Below w.heap.size w wr) := ⟨q1, by rw [q2]; exact HI.out.2.1, HI.out.2.2⟩
        clear hc hcx p1 p2 h10 q1 q2
        go_wp2_with fail
        go_roundw
        case rel => exact ⟨k + 1, fr, by omega, by go_num, rfl, HI2⟩
        case measure => simp [Go.RowKit.intOf]; omega
    · obtain rfl : k = n := by omega
      have ht : s.data.toList.take k = s.data.toList := List.take_of_length_le (by rw [← HN.out]; simp)
      rw [ht] at HI
      obtain ⟨va, vc, rfl⟩ := own_form HI.out.2.1
      have HE : Hid (wr.ownsRow w.heap.size 9 1 (.slice va (whs [] s.data.toList).1.length vc) (whs [] s.data.toList).1.length (sv (whs [] s.data.toList).1) ∧ Below w.heap.size w wr) := HI.out.2
      obtain ⟨m, hm⟩ : ∃ m, (whs [] s.data.toList).1.length = m := ⟨_, rfl⟩
      have HM2 : Hid ((whs [] s.data.toList).1.length = m) := hm
      rw [hm] at HE ⊢
      clear ht HI hm
      go_wp2_with fail
      go_ret
      exact ⟨_, rfl, by rw [HM2.out]; exact HE.out.1, HE.out.2⟩
end Go.Proofs.Ytpikepifhnkmkaa

/- FollowAll's state: a disk, a follower, a path, two rows of lines, all apart. -/
namespace Go.Proofs.Ytpikepifhnkmkaa
open Go.RowKit Go.Maps Sf Ln Fo

def PtBx (u : World) (A : Nat) : Prop := u.heap[A]? = some (.cells #[.string sa, .string sr] 29 (0, 0))
structure AllS (w : World) (b0 A Bd : Nat) (Pd : Nat → Prop) (F B K C : Nat) (d : Dk) (f : Fo) (V U : Value) (G H : List (List UInt8)) (u : World) : Prop where
  s : FoS w Pd Bd F B d f K C u
  p : PtBx u A ∧ ¬ Pd A
  g : u.ownsRow b0 9 1 V G.length (sv G) ∧ ∀ b, V.ownBlock = some b → ¬ Pd b
  t : u.ownsRow b0 9 1 U H.length (sv H) ∧ ∀ b, U.ownBlock = some b → ¬ Pd b
  ne : ∀ b, V.ownBlock = some b → U.ownBlock ≠ some b
  b0 : w.heap.size ≤ b0 ∧ b0 ≤ u.heap.size
section
variable {w u u1 v : World} {b0 A Bd F B K C : Nat} {Pd : Nat → Prop} {d d' : Dk} {f f' : Fo} {V V' U U' : Value} {G H : List (List UInt8)}
theorem row_ty {e : TypeId} {n : Nat} {xs : List Value} {b1 : Nat} (h : u.ownsRow b1 e 1 V n xs) {g : Nat} (hg : V.ownBlock = some g) : TyB u e g ∧ b1 ≤ g ∧ g < u.heap.size := by
  rcases h.2 with ⟨rfl, _⟩ | ⟨g', cap, cur, rfl, hb, hh, _⟩
  · simp [Value.ownBlock] at hg
  · have : g' = g := Option.some.inj hg
    subst this
    exact ⟨⟨_, _, hh⟩, hb, (Array.getElem?_eq_some_iff.1 hh).1⟩
theorem AllS.later (h : AllS w b0 A Bd Pd F B K C d f V U G H u) (hb : Below u.heap.size u v) : AllS w b0 A Bd Pd F B K C d f V U G H v :=
  ⟨h.s.later hb, ⟨(hb.block A (Array.getElem?_eq_some_iff.1 h.p.1).1).trans h.p.1, h.p.2⟩, ⟨ownsRow_keep h.g.1 (fun g _ _ hl => hb.block g hl), h.g.2⟩, ⟨ownsRow_keep h.t.1 (fun g _ _ hl => hb.block g hl), h.t.2⟩, h.ne, h.b0.1, Nat.le_trans h.b0.2 hb.size⟩
theorem AllS.bxs (h : AllS w b0 A Bd Pd F B K C d f V U G H u) {C' : Nat} (hs : FoS w Pd Bd F B d f' K C' v) (hb : Bxs u v) (hz : u.heap.size ≤ v.heap.size) : AllS w b0 A Bd Pd F B K C' d f' V U G H v :=
  ⟨hs, ⟨(hb _ A ⟨_, _, h.p.1⟩ (by decide) (by decide) (by decide)).trans h.p.1, h.p.2⟩, ⟨ownsRow_keep h.g.1 (fun g hg _ _ => hb _ g (row_ty h.g.1 hg).1 (by decide) (by decide) (by decide)), h.g.2⟩, ⟨ownsRow_keep h.t.1 (fun g hg _ _ => hb _ g (row_ty h.t.1 hg).1 (by decide) (by decide) (by decide)), h.t.2⟩, h.ne, h.b0.1, Nat.le_trans h.b0.2 hz⟩
theorem AllS.does (h : AllS w b0 A Bd Pd F B K C d f V U G H u) (hd : DkTo Pd u Bd d' (K + 1) v) (hw : Wf d' (K + 1)) (hK : K < 1000000) : AllS w b0 A Bd (More Pd u v) F B (K + 1) C d' f V U G H v := by
  obtain ⟨h2, hm⟩ := h.s.does hd hw hK
  have hA := hm A (Array.getElem?_eq_some_iff.1 h.p.1).1 h.p.2
  exact ⟨h2, ⟨hA.1.trans h.p.1, hA.2⟩, ⟨ownsRow_keep h.g.1 (fun g hg _ hl => (hm g hl (h.g.2 g hg)).1), fun b hb => (hm b (row_ty h.g.1 hb).2.2 (h.g.2 b hb)).2⟩, ⟨ownsRow_keep h.t.1 (fun g hg _ hl => (hm g hl (h.t.2 g hg)).1), fun b hb => (hm b (row_ty h.t.1 hb).2.2 (h.t.2 b hb)).2⟩, h.ne, h.b0.1, Nat.le_trans h.b0.2 hd.2.size⟩
/-- a follower made anew -/
theorem AllS.anew (h : AllS w b0 A Bd Pd F B K C d f V U G H u) {F' B' : Nat} (hb : Below u.heap.size u u1) (hn : Nf u1 F' B' f' v) (hok : f'.Ok 0) : AllS w b0 A Bd Pd F' B' K 0 d f' V U G H v := by
  have h1 := h.later hb
  have hs := FoS.made h1.s.dk h1.s.lo h1.s.hd hn hok
  obtain ⟨_, _, _, _, _, h5⟩ := hn
  have h2 := h1.later h5
  exact ⟨hs, h2.p, h2.g, h2.t, h2.ne, h2.b0⟩
theorem FoS.grown {w0 : World} (h : FoS w0 Pd Bd F B d f K C u) {q : Option Nat} (hg : u.grownBy v q) (hq : ∀ g, q = some g → TyB u 9 g ∧ ¬ Pd g ∧ w0.heap.size ≤ g) : FoS w0 Pd Bd F B d f K C v := by
  obtain ⟨V, h1, h2⟩ := h.fo
  have nb : ∀ {t : TypeId} {k : Nat}, TyB u t k → t ≠ 9 → v.heap[k]? = u.heap[k]? := fun {t k} hk hne => by
    obtain ⟨c, z, hc⟩ := hk
    exact hg.block k (Array.getElem?_eq_some_iff.1 hc).1 (fun e => hne (TyB.ne ⟨c, z, hc⟩ (hq k e.symm).1))
  refine ⟨h.dk.keep (fun k hk => hg.block k (h.dk.m.low k hk) (fun e => (hq k e.symm).2.1 hk)) hg.size, ⟨V, ⟨(nb h1.b.ty (by decide)).trans h1.b, h1.m.b.same (nb h1.m.b.ty (by decide)), h1.m.o.keep fun b hb _ => nb (h1.m.o.ty hb).1 (by decide)⟩, h2⟩, h.nf, h.ok, ?_, h.hd, h.c⟩
  exact h.lo.grown hg h.lo.size (fun k hk => (hq k hk).2.2)
theorem own_here (hh : Here u V V') (hP : ∀ b, V.ownBlock = some b → ¬ Pd b) (hl : ∀ k, Pd k → k < u.heap.size) : ∀ b, V'.ownBlock = some b → ¬ Pd b := fun b hb => by
  rcases hh b hb with e | e
  · exact hP b e
  · exact fun x => by have := hl b x; omega
/-- a line comes to the first row -/
theorem AllS.putG (h : AllS w b0 A Bd Pd F B K C d f V U G H u) {x : List UInt8} (hg : u.grownBy v V.ownBlock) (ho : v.ownsRow b0 9 1 V' (G.length + 1) (sv G ++ [.string ⟨x.toArray⟩])) (hh : Here u V V') : AllS w b0 A Bd Pd F B K C d f V' U (G ++ [x]) H v := by
  have hq : ∀ g, V.ownBlock = some g → TyB u 9 g ∧ ¬ Pd g ∧ w.heap.size ≤ g := fun g hg => ⟨(row_ty h.g.1 hg).1, h.g.2 g hg, Nat.le_trans h.b0.1 (row_ty h.g.1 hg).2.1⟩
  refine ⟨h.s.grown hg hq, ⟨(hg.block A (Array.getElem?_eq_some_iff.1 h.p.1).1 (fun e => ?_)).trans h.p.1, h.p.2⟩, ⟨?_, own_here hh h.g.2 h.s.dk.m.low⟩, ⟨ownsRow_keep h.t.1 (fun g hg2 _ hl => hg.block g hl (fun e => h.ne g e.symm hg2)), h.t.2⟩, fun b hb hu => ?_, h.b0.1, Nat.le_trans h.b0.2 hg.size⟩
  · exact absurd (TyB.ne (row_ty h.g.1 e.symm).1 ⟨_, _, h.p.1⟩) (by decide)
  · rw [List.length_append, List.length_singleton]
    have e : sv (G ++ [x]) = sv G ++ [.string ⟨x.toArray⟩] := by unfold sv; rw [List.map_append]; rfl
    rw [e]
    exact ho
  · rcases hh b hb with e | e
    · exact h.ne b e hu
    · have := (row_ty h.t.1 hu).2.2; omega
/-- a line comes to the second row -/
theorem AllS.putH (h : AllS w b0 A Bd Pd F B K C d f V U G H u) {x : List UInt8} (hg : u.grownBy v U.ownBlock) (ho : v.ownsRow b0 9 1 U' (H.length + 1) (sv H ++ [.string ⟨x.toArray⟩])) (hh : Here u U U') : AllS w b0 A Bd Pd F B K C d f V U' G (H ++ [x]) v := by
  have hq : ∀ g, U.ownBlock = some g → TyB u 9 g ∧ ¬ Pd g ∧ w.heap.size ≤ g := fun g hg => ⟨(row_ty h.t.1 hg).1, h.t.2 g hg, Nat.le_trans h.b0.1 (row_ty h.t.1 hg).2.1⟩
  refine ⟨h.s.grown hg hq, ⟨(hg.block A (Array.getElem?_eq_some_iff.1 h.p.1).1 (fun e => ?_)).trans h.p.1, h.p.2⟩, ⟨ownsRow_keep h.g.1 (fun g hg2 _ hl => hg.block g hl (fun e => h.ne g hg2 e.symm)), h.g.2⟩, ⟨?_, own_here hh h.t.2 h.s.dk.m.low⟩, fun b hb hu => ?_, h.b0.1, Nat.le_trans h.b0.2 hg.size⟩
  · exact absurd (TyB.ne (row_ty h.t.1 e.symm).1 ⟨_, _, h.p.1⟩) (by decide)
  · rw [List.length_append, List.length_singleton]
    have e : sv (H ++ [x]) = sv H ++ [.string ⟨x.toArray⟩] := by unfold sv; rw [List.map_append]; rfl
    rw [e]
    exact ho
  · rcases hh b hu with e | e
    · exact h.ne b hb e
    · have := (row_ty h.g.1 hb).2.2; omega
/-- Step, in FollowAll -/
theorem AllS.step (h : AllS w b0 A Bd Pd F B K C d f V U G H u) (hC : C < 1000000) : Calls Try.prog 11 #[.pointer (some ⟨F, 0, none⟩), .pointer (some ⟨Bd, 0, none⟩)] u fun e v => e = .returned (.tuple #[lineV ((f.line d).map fun t => (f.m, t)), .bool (f.line d).isSome]) ∧ AllS w b0 A Bd Pd F B K (C + 1) d (f.step d) V U G H v := by
  obtain ⟨V0, h1, h2⟩ := h.s.fo
  refine (fstep_fn h1 h.s.ok (by have := h.s.c; omega) h.s.dk).mono fun e v x => ⟨x.1, ?_⟩
  obtain ⟨y1, y2⟩ := h.s.to h1 x.2 (step_ok h.s.ok h.s.dk.wf h.s.dk.k) hC
  have hz : u.heap.size ≤ v.heap.size := by obtain ⟨_, _, _, q⟩ := x.2; exact q.size
  exact h.bxs y1 y2 hz
theorem AllS.upC {C' : Nat} (h : AllS w b0 A Bd Pd F B K C d f V U G H u) (hc : C ≤ C') (h2 : C' ≤ 1000000) : AllS w b0 A Bd Pd F B K C' d f V U G H u := ⟨h.s.upC hc h2, h.p, h.g, h.t, h.ne, h.b0⟩
theorem AllS.upK {K' : Nat} (h : AllS w b0 A Bd Pd F B K C d f V U G H u) (hc : K ≤ K') (h2 : K' ≤ 1000000) : AllS w b0 A Bd Pd F B K' C d f V U G H u := ⟨h.s.upK hc h2, h.p, h.g, h.t, h.ne, h.b0⟩
end
/-- what each round of FollowAll begins with: i files are read whole -/
structure AllR (i N ln ck : Nat) (d : Dk) (f : Fo) (lgN tlN : Nat) : Prop where
  zero : i = 0 → d = Sf.new ∧ f = newF sa ln ck zeroM
  more : ∀ j, i = j + 1 → ∃ all L lg, AllF f j ln ck all all.length L lg ∧ AllD d j all
  lg : f.m.lg = lgN
  tl : (tlN : Int) = f.m.tl + (if 0 < f.k.u.length ∧ i < N ∧ i < 4 then 1 else 0)
  le : lgN ≤ 400 * i ∧ tlN ≤ i ∧ f.m.tl ≤ i
end Go.Proofs.Ytpikepifhnkmkaa

/- FollowAll: between two files. -/
namespace Go.Proofs.Ytpikepifhnkmkaa
open Go.RowKit Go.Maps Sf Ln Fo

/-- where the new file has been made: the next step goes over to it -/
structure Pr (i ln ck lgN tlN : Nat) (f : Fo) (d : Dk) : Prop where
  no : f.line d = none
  fo : AllF (f.step d) i ln ck [] 0 [] 0
  tl : (f.step d).m.tl = tlN
  lg : (f.step d).m.lg = lgN
  dk : AllD d i []
def PreC (i ln ck lgN tlN : Nat) (d : Dk) (f : Fo) : Prop := err d sa = 141 ∧ Pr i ln ck lgN tlN f (Sf.create d sa)
theorem pre_zero {N ln ck lgN tlN : Nat} {d : Dk} {f : Fo} (h : AllR 0 N ln ck d f lgN tlN) : PreC 0 ln ck lgN tlN d f := by
  obtain ⟨rfl, rfl⟩ := h.zero rfl
  have e : err Sf.new sa = 141 := by kernel_rfl
  have htl := h.tl
  have hlg := h.lg
  have hz : ¬ (0 < (newF sa ln ck zeroM).k.u.length ∧ 0 < N ∧ 0 < 4) := fun x => absurd x.1 (Nat.lt_irrefl 0)
  rw [if_neg hz] at htl
  have t0 : (newF sa ln ck zeroM).m.tl = 0 := rfl
  have g0 : (newF sa ln ck zeroM).m.lg = 0 := rfl
  obtain ⟨a, b, c, g⟩ := all_first (ln := ln) (ck := ck) all_start
  exact ⟨e, b, a, by rw [c]; omega, by rw [g]; omega, all_start⟩
theorem pre_more {j N ln ck lgN tlN K : Nat} {d : Dk} {f : Fo} (h : AllR (j + 1) N ln ck d f lgN tlN) (hw : Wf d K) (hlt : j + 1 < N ∧ j + 1 < 4) : renE d sa sr = 0 ∧ PreC (j + 1) ln ck lgN tlN (Sf.rename d sa sr) f := by
  obtain ⟨all, L, lg, hf, hd⟩ := h.more j rfl
  have hr := all_rot hd hw
  obtain ⟨a, b, c, g⟩ := all_over hf hr.x hr.n
  have htl := h.tl
  have hle := h.le.2.2
  refine ⟨hr.e, hr.e1, b, a, ?_, by rw [g]; exact h.lg, hr.n⟩
  rw [c]
  by_cases hu : 0 < f.k.u.length
  · rw [if_pos hu]
    rw [if_pos ⟨hu, hlt.1, hlt.2⟩] at htl
    unfold raise top
    omega
  · rw [if_neg hu]
    rw [if_neg (fun x => hu x.1)] at htl
    omega
theorem Pr.again {i ln ck lgN tlN : Nat} {f : Fo} {d : Dk} (h : Pr i ln ck lgN tlN f d) (hck : 1 ≤ ck) (hl : lgN ≤ 1000000) : Pr i ln ck lgN tlN (f.step d) d := by
  have h2 := h.lg
  obtain ⟨a, b⟩ := (all_step h.fo h.dk hck ⟨by omega, by unfold top; omega⟩).stop rfl
  exact ⟨b, by rw [a]; exact h.fo, by rw [a]; exact h.tl, by rw [a]; exact h.lg, h.dk⟩
end Go.Proofs.Ytpikepifhnkmkaa
