/- simfs: Crash, whole. -/
import Derived.Test.YtpikepifhnkmkaaG26
import Derived.Test.YtpikepifhnkmkaaG22
namespace Go.Proofs.Ytpikepifhnkmkaa
open Go.RowKit Go.Maps Sf
attribute [local go_sem ↓] Go.wp_at_zero Go.wp_at_succ

/-- a slice whose row lies in a block of a kind -/
def LAtX (X : Nat → Prop) (w : World) (V : Value) (xs : List Value) : Prop := LAt w V xs ∧ ∀ b off n c, V = .slice (some ⟨b, off, none⟩) n c → xs ≠ [] → X b
theorem LAtX.keep {X : Nat → Prop} {w u : World} {V : Value} {xs : List Value} (h : LAtX X w V xs) (hk : ∀ b, X b → b < w.heap.size → u.heap[b]? = w.heap[b]?) : LAtX X u V xs := by
  refine ⟨?_, h.2⟩
  obtain ⟨⟨a, c, e, h1, h2, h3⟩, hX⟩ := h
  refine ⟨a, c, e, h1, h2, ?_⟩
  rcases h3 with h3 | ⟨b, off, ea, hc⟩
  · exact .inl h3
  · by_cases hn : xs = []
    · exact .inl hn
    · refine .inr ⟨b, off, ea, fun k v hv => ?_⟩
      have hb := hX b off xs.length c (by rw [e, ea]) hn
      have hcell := hc k v hv
      rw [World.cell?_of_block (a := ⟨b, off + k, none⟩) (hk b hb (lt_of_cell hcell))]
      exact hcell
/-- between two inodes of a crash -/
structure CrI (P : Nat → Prop) (w : World) (B : Nat) (d : Dk) (L : Lay) (keep : List Int) (Kv : Value) (Bk Bp i : Nat) (u : World) : Prop where
  dk : ∃ L', DkAt (More P w u) u B (crSt keep d i).2 L' ∧ L'.ai = L.ai ∧ L'.mi = L.mi ∧ L'.ci = L.ci ∧ L'.cn = L.cn ∧ ∀ m, m ∉ (keysUp d).take i → L'.vi m = L.vi m
  fr : FrP (fun k => P k ∨ k = Bk) w u
  bk : BoxAt u Bk (.int .i64 ((crSt keep d i).1 : Nat)) 3
  bp : BoxAt u Bp Kv 51
  ls : LAtX (fun k => ¬ P k ∧ k ≠ Bk ∧ k < w.heap.size) u Kv (ints keep)
  il : i ≤ (keysUp d).length
theorem cri_step {P : Nat → Prop} {w : World} {B K : Nat} {d : Dk} {L : Lay} {keep : List Int} {Kv : Value} {Bk Bp : Nat} (hW : Wf d K) (hK : K ≤ 1000000) (hL : DkAt P w B d L) (hB : ¬ P Bk ∧ Bk < w.heap.size ∧ ¬ P Bp ∧ Bp < w.heap.size ∧ Bp ≠ Bk) (hG : ∀ z ∈ keep, goodI z) {i n : Nat} {u : World} (hn : (keysUp d)[i]? = some n) (h : CrI P w B d L keep Kv Bk Bp i u) :
    Calls Try.prog 49 #[.pointer (some ⟨L.ai n, 0, none⟩), .pointer (some ⟨Bk, 0, none⟩), .pointer (some ⟨Bp, 0, none⟩)] u fun e u' => e = .returned (.tuple #[]) ∧ CrI P w B d L keep Kv Bk Bp (i + 1) u' ∧ u.heap.size ≤ u'.heap.size ∧ ∀ k, w.heap.size ≤ k → k < u.heap.size → u'.heap[k]? = u.heap[k]? := by
  obtain ⟨L', hL', e1, e2, e3, e4, e5⟩ := h.dk
  obtain ⟨hlab, hhi, hle, hino⟩ := crSt_is (keep := keep) (d := d) i h.il
  have hnt := not_take hn
  obtain ⟨f, hf⟩ := Option.isSome_iff_exists.1 (keysUp_mem.1 (List.mem_of_getElem? hn)).2
  have hf' : (crSt keep d i).2.ino n = some f := by rw [hino n hnt]; exact hf
  have hfd := hW.ino n f hf
  have hil : i < (keysUp d).length := (List.getElem?_eq_some_iff.1 hn).1
  have hkl := keysUp_len d
  have hhk := hW.hi
  have hib := hL'.ib n f hf'
  rw [e1, e5 n hnt] at hib
  have hvP : ∀ b, (L.vi n).ownBlock = some b → P b := (hL.pI n f hf).2
  refine (crash1_any hib hfd.2.2.2.2.1 hfd.2.2.2.2.2.1 (by omega) h.bk (by omega) h.bp h.ls.1 hG).mono ?_
  rintro e u' ⟨rfl, hcase⟩
  refine ⟨rfl, ?_⟩
  rcases hcase with ⟨hs, hb⟩ | ⟨hs, u1, hb1, hf1, hip⟩
  · have est : crSt keep d (i + 1) = crSt keep d i := by rw [crSt_succ hn]; unfold crStep; rw [hf']; simp only; rw [if_pos hs]
    refine ⟨⟨?_, h.fr.below hb, by rw [est]; exact h.bk.later hb, h.bp.later hb, h.ls.keep (fun b _ hl => hb.block b hl), hil⟩, hb.size, fun k _ hk => hb.block k hk⟩
    rw [est]
    refine ⟨L', (hL'.later hb).mono (fun k hk => ?_) (fun k hk => ?_), e1, e2, e3, e4, fun m hm => e5 m (take_more hn hm).1⟩
    · rcases hk with hk | hk
      · exact .inl hk
      · exact .inr ⟨hk.1, by have := hb.size; omega⟩
    · rcases hk with hk | hk
      · have := hL.low k hk; have := h.fr.size; have := hb.size; omega
      · exact hk.2
  · have est : crSt keep d (i + 1) = ((crSt keep d i).1 + 1, Sf.putI (crSt keep d i).2 n (some (f.crash (keep.getD (crSt keep d i).1 0)))) := by rw [crSt_succ hn]; unfold crStep; rw [hf']; simp only; rw [if_neg hs]
    obtain ⟨V', g1, g2, g3⟩ := hip
    have hnB : ∀ k, More P w u k → k ≠ Bk := fun k hk e => by
      subst e
      rcases hk with hk | hk
      · exact hB.1 hk
      · omega
    have hL1 : DkAt (More P w u) u1 B (crSt keep d i).2 L' := hL'.keep (fun k hk => hf1.block k (hL'.low k hk) (hnB k hk)) hf1.size
    have g1' : InoAt u' (L'.ai n) n (f.crash (keep.getD (crSt keep d i).1 0)) V' := by rw [e1]; exact g1
    have g3' : FrP (fun k => k = L'.ai n ∨ (L'.vi n).ownBlock = some k) u1 u' := by rw [e1, e5 n hnt]; exact g3
    have hL2 := hL1.putI hf' g1' (fun b hb => by rw [e5 n hnt]; exact g2 b hb) g3'
    have hPk : ∀ k, (k = L.ai n ∨ (L.vi n).ownBlock = some k) → P k := fun k hk => by
      rcases hk with hk | hk
      · subst hk; exact (hL.pI n f hf).1
      · exact hvP k hk
    have hsz1 := hf1.size
    have hsz2 := g3.size
    have hszw := h.fr.size
    have hkeep : ∀ k, k < u.heap.size → k ≠ Bk → ¬ P k → u'.heap[k]? = u.heap[k]? := fun k hk h1 h2 => (g3.block k (by omega) (fun x => h2 (hPk k x))).trans (hf1.block k hk h1)
    have hbk' : u'.heap[Bk]? = u1.heap[Bk]? := g3.block Bk hb1.lt (fun x => hB.1 (hPk Bk x))
    have est1 : (crSt keep d (i + 1)).1 = (crSt keep d i).1 + 1 := by rw [est]
    have est2 : (crSt keep d (i + 1)).2 = Sf.putI (crSt keep d i).2 n (some (f.crash (keep.getD (crSt keep d i).1 0))) := by rw [est]
    refine ⟨⟨?_, ?_, by rw [est1]; exact hbk'.trans hb1, (hkeep Bp h.bp.lt hB.2.2.2.2 hB.2.2.1).trans h.bp, h.ls.keep (fun b hb hl => hkeep b hl hb.2.1 hb.1), hil⟩, by omega, fun k h1 h2 => hkeep k h2 (by omega) (fun x => by have := hL.low k x; omega)⟩
    · rw [est2]
      refine ⟨_, hL2.mono (fun k hk => ?_) (fun k hk => ?_), e1, e2, e3, e4, fun m hm => ?_⟩
      · rcases hk with (hk | hk) | hk
        · exact .inl hk
        · exact .inr ⟨hk.1, by omega⟩
        · exact .inr ⟨by omega, hk.2⟩
      · rcases hk with hk | hk
        · have := hL.low k hk; omega
        · exact hk.2
      · obtain ⟨m1, m2⟩ := take_more hn hm
        simp only [if_neg m2]
        exact e5 m m1
    · refine (h.fr.trans hf1 (fun k _ e => .inr e)).trans g3 (fun k _ e => .inl (hPk k e))
set_option maxRecDepth 8000 in
set_option maxHeartbeats 1000000 in
theorem dcrash_any {P : Nat → Prop} {w : World} {B K : Nat} {d : Dk} (h : Dsk P w B d K) {Kv : Value} {keep : List Int} (hKv : LAtX (fun k => ¬ P k) w Kv (ints keep)) (hG : ∀ z ∈ keep, goodI z) :
    Calls Try.prog 33 #[.pointer (some ⟨B, 0, none⟩), Kv] w fun e w' => e = .returned (.tuple #[]) ∧ DkTo P w B (Sf.crash d keep) K w' := by
  obtain ⟨L, hL, hc⟩ := h.m
  obtain ⟨A, hA⟩ : ∃ A, w.heap.size = A := ⟨_, rfl⟩
  obtain ⟨w1, hw1⟩ : ∃ w1, w.alloc (.cells #[Kv] 51) = w1 := ⟨_, rfl⟩
  obtain ⟨w2, hw2⟩ : ∃ w2, w1.alloc (.cells #[.int .i64 0] 3) = w2 := ⟨_, rfl⟩
  have z1 : w1.heap.size = A + 1 := by rw [← hw1, ← hA]; simp
  have z2 : w2.heap.size = A + 2 := by rw [← hw2]; simp [z1]
  have k1 : Below w.heap.size w w1 := by rw [← hw1]; exact (Below.refl _ _).alloc (Nat.le_refl _) _
  have k2 : Below w1.heap.size w1 w2 := by rw [← hw2]; exact (Below.refl _ _).alloc (Nat.le_refl _) _
  have bp1 : BoxAt w1 A Kv 51 := by rw [← hw1, ← hA]; exact heap_alloc_new w _
  have bk2 : BoxAt w2 (A + 1) (.int .i64 0) 3 := by have := heap_alloc_new w1 (.cells #[.int .i64 0] 3); rw [hw2, z1] at this; exact this
  have bp2 := bp1.later k2
  have k12 := below_step k1 k2
  obtain ⟨w3, hw3⟩ : ∃ w3, w2 = w3 := ⟨_, rfl⟩
  have bk3 : BoxAt w3 (A + 1) (.int .i64 0) 3 := by rw [← hw3]; exact bk2
  have k3 : Below w.heap.size w w3 := by rw [← hw3]; exact k12
  have bp3 : BoxAt w3 A Kv 51 := by rw [← hw3]; exact bp2
  have z3 : w3.heap.size = A + 2 := by rw [← hw3]; exact z2
  have hL3 := hL.later k3
  have hnP : ∀ k, A ≤ k → ¬ P k := fun k hk hp => by have := hL.low k hp; omega
  have hB : ¬ P (A + 1) ∧ A + 1 < w3.heap.size ∧ ¬ P A ∧ A < w3.heap.size ∧ A ≠ A + 1 := ⟨hnP _ (by omega), by omega, hnP _ (by omega), by omega, by omega⟩
  have HRI := rising_crash h.wf h.k hL3 (A + 1) A (fun i u => CrI P w3 B d L keep Kv (A + 1) A i u) (fun u hu => ⟨⟨L, (hL3.later hu).mono (fun k hk => .inl hk) (fun k hk => by rcases hk with hk | hk; have := hL3.low k hk; have := hu.size; omega; exact hk.2), rfl, rfl, rfl, rfl, fun _ _ => rfl⟩, FrP.of_below _ hu, bk3.later hu, bp3.later hu, ⟨(hKv.1.later k3).later hu, fun b off n c e hx => ⟨hKv.2 b off n c e hx, ?_⟩⟩, Nat.zero_le _⟩)
    (fun i n u hn hi => ?_) (fun i n u hn hi _ => cri_step h.wf h.k hL3 hB hG hn hi)
  rotate_left
  · obtain ⟨⟨a', c', e', h1, h2, h3⟩, _⟩ := hKv
    rcases h3 with h3 | ⟨b', off', ea, hcc⟩
    · exact absurd h3 hx
    · rw [e] at e'
      have ea2 : (some ⟨b, off, none⟩ : Option Addr) = some ⟨b', off', none⟩ := (Value.slice.inj e').1.trans ea
      cases ea2
      obtain ⟨x, xs, hxs⟩ := List.exists_cons_of_ne_nil hx
      have hbl := lt_of_cell (hcc 0 x (by rw [hxs]; rfl))
      exact ⟨by omega, by have := k3.size; omega⟩
  · obtain ⟨L', hL', e1, e2, _⟩ := hi.dk
    obtain ⟨_, _, _, hino⟩ := crSt_is (keep := keep) (d := d) i hi.il
    obtain ⟨f, hf⟩ := Option.isSome_iff_exists.1 (keysUp_mem.1 (List.mem_of_getElem? hn)).2
    have hnl := (h.wf.ino n f hf).2.1
    have hhi := h.wf.hi
    have hkk := h.k
    have hlk := hL'.looki (z := (n : Nat)) (by unfold goodI; omega)
    rw [e2, Lay.inoZ, e1] at hlk
    have e3 : (inoZ (crSt keep d i).2 ((n : Nat) : Int)).isSome = true := by unfold inoZ; rw [if_pos (by omega), Int.toNat_natCast, hino n (not_take hn), hf]; rfl
    rw [e3, if_pos rfl, Int.toNat_natCast] at hlk
    exact ⟨by rw [← e2]; exact hL'.cells.2.1, hlk⟩
  have HRI : Hid (Calls Try.prog 48 #[.pointer (some ⟨B, 0, none⟩), .func (.func 49) #[] #[.pointer (some ⟨A + 1, 0, none⟩), .pointer (some ⟨A, 0, none⟩)]] w3 _) := HRI
  have HEND : Hid (∀ u, CrI P w3 B d L keep Kv (A + 1) A (keysUp d).length u → DkTo P w B (Sf.crash d keep) K u) := fun u hu => by
    obtain ⟨L', hL', e1, e2, e3, e4, _⟩ := hu.dk
    rw [← crSt_all] at hL'
    have s1 := hu.fr.size
    have s3 := k3.size
    refine ⟨⟨L', hL'.mono (fun k hk => ?_) (fun k hk => ?_), by omega, by omega⟩, ?_⟩
    · rcases hk with hk | hk
      · exact .inl hk
      · exact .inr ⟨by omega, hk.2⟩
    · rcases hk with hk | hk
      · have := hL.low k hk; omega
      · exact hk.2
    · refine (FrP.of_below P k3).trans hu.fr (fun k hk hq => ?_)
      rcases hq with hq | hq
      · exact hq
      · omega
  obtain ⟨ka, kc, hkv, _⟩ := hKv.1
  obtain ⟨nk, hnk⟩ : ∃ nk, (ints keep).length = nk := ⟨_, rfl⟩
  rw [hnk] at hkv
  have HW : Hid (w.alloc (.cells #[Kv] 51) = w1 ∧ w1.alloc (.cells #[.int .i64 0] 3) = w3 ∧ w.heap.size = A ∧ w1.heap.size = A + 1) := ⟨hw1, hw2.trans hw3, hA, z1⟩
  have hmf : ∀ (fn : Fn) (first cap : Array Value) (w : World), (Instr.makeFunc fn first cap).run Try.prog w = .ok (.func fn first cap) w := fun _ _ _ _ => rfl
  subst hkv
  clear h hL hc hA hw1 hw2 z1 z2 k1 k2 bp1 bk2 bp2 k12 hw3 bk3 k3 bp3 z3 hL3 hnP hB hKv hnk hG
  go_enter Try.func33, Try.ntmps33
  go_upto_region 1 with fail
  rw [HW.out.1, HW.out.2.2.1]
  go_upto_region 2 with fail
  rw [HW.out.2.1, HW.out.2.2.2]
  clear HW
  go_wp2_with fail
  refine HRI.out.mono ?_
  rintro e u ⟨rfl, hu⟩
  have HE : Hid (DkTo P w B (Sf.crash d keep) K u) := HEND.out u hu
  clear hu HEND HRI
  go_wp2
  first | go_end0 | (simp only [Exit.inBlock, Exit.then]; refine bodyPost_ret (results_none rfl _ _ _) rfl ?_) | refine bodyPost_ret (results_none rfl _ _ _) rfl ?_
  exact ⟨rfl, HE.out⟩
end Go.Proofs.Ytpikepifhnkmkaa
