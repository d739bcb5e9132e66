/- simfs: Append, Cut, Sync, Remove. -/
import Derived.Test.YtpikepifhnkmkaaG13
import Derived.Test.YtpikepifhnkmkaaG14
namespace Go.Proofs.Ytpikepifhnkmkaa
open Go.RowKit Go.Maps Sf
attribute [local go_sem ↓] Go.wp_at_zero Go.wp_at_succ

/-- A DISK behind at most K calls. -/
structure Dsk (P : Nat → Prop) (w : World) (B : Nat) (d : Dk) (K : Nat) : Prop where
  wf : Wf d K
  m : DkS P w B d K
  k : K ≤ 1000000
def DTo (P : Nat → Prop) (w : World) (B : Nat) (d : Dk) (K : Nat) (u : World) : Prop := Dsk (More P w u) u B d K ∧ FrP P w u
section
variable {P : Nat → Prop} {w u v : World} {B K : Nat} {d : Dk} {L : Lay}
theorem DkS.low (h : DkS P w B d K) : ∀ k, P k → k < w.heap.size := by obtain ⟨L, h, _⟩ := h; exact h.low
theorem DkS.up {K' : Nat} (h : DkS P w B d K) (hk : K ≤ K') : DkS P w B d K' := by obtain ⟨L, h, h1, h2⟩ := h; exact ⟨L, h, by omega, by omega⟩
theorem Dsk.later (h : Dsk P w B d K) (hb : Below w.heap.size w u) : Dsk P u B d K := by
  obtain ⟨L, h1, h2⟩ := h.m
  exact ⟨h.wf, ⟨L, h1.later hb, h2⟩, h.k⟩
theorem Dsk.keep (h : Dsk P w B d K) (hk : ∀ k, P k → u.heap[k]? = w.heap[k]?) (hs : w.heap.size ≤ u.heap.size) : Dsk P u B d K := by
  obtain ⟨L, h1, h2⟩ := h.m
  exact ⟨h.wf, ⟨L, h1.keep hk hs, h2⟩, h.k⟩
/-- a first part of a call only reads -/
theorem DkTo.of_below {c : Nat} {d' : Dk} (hp : ∀ k, P k → k < w.heap.size) (h1 : Below w.heap.size w u) (h2 : DkTo P u B d' c v) : DkTo P w B d' c v := by
  obtain ⟨⟨L, h3, h4⟩, h5⟩ := h2
  refine ⟨⟨L, h3.mono (fun k hk => ?_) (fun k hk => ?_), h4⟩, (FrP.of_below P h1).trans h5 (fun _ _ h => h)⟩
  · rcases hk with hk | hk
    · exact .inl hk
    · exact .inr ⟨by have := h1.size; omega, hk.2⟩
  · rcases hk with hk | hk
    · have := hp k hk; have := h1.size; have := h5.size; omega
    · exact hk.2
/-- an inode was changed -/
theorem DkAt.ipost {n : Nat} {f f' : Ino} {c : Nat} (h : DkAt P w B d L) (hc : L.ci ≤ c ∧ L.cn ≤ c) (hf : d.ino n = some f) (hi : IPost (L.ai n) n (L.vi n) f' w u) : DkTo P w B (Sf.putI d n (some f')) c u := by
  obtain ⟨V', h1, h2, h3⟩ := hi
  refine ⟨⟨_, h.putI hf h1 h2 h3, hc⟩, h3.mono (fun k _ e => ?_)⟩
  rcases e with e | e
  · subst e; exact (h.pI n f hf).1
  · exact (h.pI n f hf).2 k e
theorem dsk_file (h : Dsk P w B d K) (hL : DkAt P w B d L) (s : ByteArray) (hs : s.size ≤ maxLen) : Calls Try.prog 24 #[.pointer (some ⟨B, 0, none⟩), .string s] w fun e w' => e = .returned (.tuple #[fileV d L s, .int .i64 (err d s : Nat)]) ∧ Below w.heap.size w w' :=
  file_any hL s hs (fun hn => by obtain ⟨f, hf, _⟩ := h.wf.numF hn; exact ⟨f, hf⟩) (by have := h.wf.numLe s; have := h.wf.hi; have := h.k; omega)
theorem err_zero {s : ByteArray} (h : err d s = 0) : may s = true ∧ num d s ≠ 0 := by
  unfold err at h
  cases hm : may s with
  | false => rw [hm] at h; simp at h
  | true =>
    rw [hm] at h
    refine ⟨rfl, fun e => ?_⟩
    rw [e] at h
    simp at h
theorem err_cases (d : Dk) (s : ByteArray) : err d s = 0 ∨ err d s = 141 ∨ err d s = 140 := by
  unfold err
  cases may s
  · simp
  · by_cases h : num d s = 0 <;> simp [h]
end
/-- what a refused call leaves -/
def No (w : World) (e : Ending) (x : Nat) (w' : World) : Prop := e = .returned (.int .i64 (x : Nat)) ∧ Below w.heap.size w w'
set_option maxRecDepth 8000 in
set_option maxHeartbeats 800000 in
theorem append_any {P : Nat → Prop} {w : World} {B K : Nat} {d : Dk} (h : Dsk P w B d K) (s : ByteArray) (hs : s.size ≤ maxLen) {Y : Value} {b : List UInt8} (hY : LAt w Y (uv b)) :
    Calls Try.prog 12 #[.pointer (some ⟨B, 0, none⟩), .string s, Y] w fun e w' => (err d s ≠ 0 ∧ No w e (err d s) w') ∨ (err d s = 0 ∧ ∃ f, d.ino (num d s) = some f ∧ ((1048576 < f.bs.length + b.length ∧ No w e 145 w') ∨ (f.bs.length + b.length ≤ 1048576 ∧ e = .returned (.int .i64 0) ∧ DkTo P w B (Sf.putI d (num d s) (some (f.lay b))) K w'))) := by
  obtain ⟨L, hL, hc⟩ := h.m
  have HF : Hid (Calls Try.prog 24 #[.pointer (some ⟨B, 0, none⟩), .string s] w _) := dsk_file h hL s hs
  have HY : Hid (LAt w Y (uv b)) := hY
  obtain ⟨ya, yc, rfl, _⟩ := hY
  rcases Nat.eq_zero_or_pos (err d s) with he | he
  · have hfv : fileV d L s = .pointer (some ⟨L.ai (num d s), 0, none⟩) := by unfold fileV; rw [if_pos he]
    obtain ⟨f, hf, hfn⟩ := h.wf.numF (err_zero he).2
    have HW := h.wf.ino _ f hf
    have hkk := h.k
    have HW : Hid (f.ls ≤ f.bs.length ∧ f.bs.length ≤ 1048576 ∧ f.gen ≤ 1000000) := ⟨HW.2.2.2.2.1, HW.2.2.2.2.2.1, by omega⟩
    have HL : Hid (DkAt P w B d L ∧ (L.ci ≤ K ∧ L.cn ≤ K) ∧ d.ino (num d s) = some f ∧ f.nm = s ∧ s.size ≤ maxLen ∧ num d s ≤ 1000000) := ⟨hL, hc, hf, hfn, hs, by have := h.wf.numLe s; have := h.wf.hi; omega⟩
    rw [hfv, he] at HF
    have HE : Hid (err d s = 0) := he
    obtain ⟨n, hn⟩ : ∃ n, num d s = n := ⟨_, rfl⟩
    rw [hn] at HF HL ⊢
    have HN : Hid (num d s = n) := hn
    clear h hL hc hs hfv hf hfn he hn hkk
    go_enter Try.func12, Try.ntmps12
    go_wp2_with fail
    refine HF.out.mono ?_
    rintro e w1 ⟨rfl, k1⟩
    have HK : Hid (Below w.heap.size w w1) := k1
    have HL1 : Hid (DkAt P w1 B d L) := HL.out.1.later k1
    have HI1 : Hid (InoAt w1 (L.ai n) n f (L.vi n)) := HL1.out.ib n f HL.out.2.2.1
    have HC : Hid (Calls Try.prog 29 #[.pointer (some ⟨L.ai n, 0, none⟩), .slice ya (uv b).length yc] w1 _) := lay_any HI1.out HW.out.2.1 (HY.out.later k1)
    clear k1 HF
    go_wp2_with fail
    refine HC.out.mono ?_
    rintro e w2 hcase
    rcases hcase with ⟨h1, rfl, rfl⟩ | ⟨h1, rfl, h2⟩
    · have HH : Hid (1048576 < f.bs.length + b.length) := h1
      clear h1 HC
      go_wp2
      go_ret
      exact .inr ⟨HE.out, f, HL.out.2.2.1, .inl ⟨HH.out, rfl, HK.out⟩⟩
    · have HH : Hid (f.bs.length + b.length ≤ 1048576) := h1
      have HP : Hid (DkTo P w B (Sf.putI d n (some (f.lay b))) K w2) := DkTo.of_below HL.out.1.low HK.out (HL1.out.ipost HL.out.2.1 HL.out.2.2.1 h2)
      clear h1 h2 HC
      go_wp2
      go_ret
      exact .inr ⟨HE.out, f, HL.out.2.2.1, .inr ⟨HH.out, rfl, HP.out⟩⟩
  · obtain ⟨x, hx⟩ : ∃ x, err d s = x := ⟨_, rfl⟩
    have hfv : fileV d L s = .pointer none := by unfold fileV; rw [if_neg (by omega)]
    rw [hfv, hx] at HF
    have hne : ((x : Int) != 0) = true := by simp; omega
    rw [hx] at he ⊢
    clear h hL hc hs hfv hx
    go_enter Try.func12, Try.ntmps12
    go_wp2_with fail
    refine HF.out.mono ?_
    rintro e w1 ⟨rfl, k1⟩
    clear HF
    go_wp2
    go_ret
    exact .inl ⟨by omega, rfl, k1⟩
set_option maxRecDepth 8000 in
set_option maxHeartbeats 800000 in
theorem cut_any {P : Nat → Prop} {w : World} {B K : Nat} {d : Dk} (h : Dsk P w B d K) (s : ByteArray) (hs : s.size ≤ maxLen) :
    Calls Try.prog 30 #[.pointer (some ⟨B, 0, none⟩), .string s] w fun e w' => (err d s ≠ 0 ∧ No w e (err d s) w') ∨ (err d s = 0 ∧ ∃ f, d.ino (num d s) = some f ∧ e = .returned (.int .i64 0) ∧ DkTo P w B (Sf.putI d (num d s) (some (f.shorten 0))) K w') := by
  obtain ⟨L, hL, hc⟩ := h.m
  have HF : Hid (Calls Try.prog 24 #[.pointer (some ⟨B, 0, none⟩), .string s] w _) := dsk_file h hL s hs
  rcases Nat.eq_zero_or_pos (err d s) with he | he
  · have hfv : fileV d L s = .pointer (some ⟨L.ai (num d s), 0, none⟩) := by unfold fileV; rw [if_pos he]
    obtain ⟨f, hf, hfn⟩ := h.wf.numF (err_zero he).2
    have HW := h.wf.ino _ f hf
    have hkk := h.k
    have HW : Hid (f.ls ≤ f.bs.length ∧ f.bs.length ≤ 1048576 ∧ f.gen ≤ 1000000) := ⟨HW.2.2.2.2.1, HW.2.2.2.2.2.1, by omega⟩
    have HL : Hid (DkAt P w B d L ∧ (L.ci ≤ K ∧ L.cn ≤ K) ∧ d.ino (num d s) = some f ∧ f.nm = s ∧ s.size ≤ maxLen ∧ num d s ≤ 1000000) := ⟨hL, hc, hf, hfn, hs, by have := h.wf.numLe s; have := h.wf.hi; omega⟩
    rw [hfv, he] at HF
    have HE : Hid (err d s = 0) := he
    obtain ⟨n, hn⟩ : ∃ n, num d s = n := ⟨_, rfl⟩
    rw [hn] at HF HL ⊢
    have HN : Hid (num d s = n) := hn
    clear h hL hc hs hfv hf hfn he hn hkk
    go_enter Try.func30, Try.ntmps30
    go_wp2_with fail
    refine HF.out.mono ?_
    rintro e w1 ⟨rfl, k1⟩
    have HK : Hid (Below w.heap.size w w1) := k1
    have HL1 : Hid (DkAt P w1 B d L) := HL.out.1.later k1
    have HI1 : Hid (InoAt w1 (L.ai n) n f (L.vi n)) := HL1.out.ib n f HL.out.2.2.1
    have HC : Hid (Calls Try.prog 46 #[.pointer (some ⟨L.ai n, 0, none⟩), .int .i64 0] w1 _) := shorten_at (k := 0) HI1.out HW.out.2.1 (by have := HW.out; omega) (by have := HW.out; omega) (Nat.zero_le _) rfl
    clear k1 HF
    go_wp2_with fail
    refine HC.out.mono ?_
    rintro e w2 ⟨rfl, h2⟩
    have HP : Hid (DkTo P w B (Sf.putI d n (some (f.shorten 0))) K w2) := DkTo.of_below HL.out.1.low HK.out (HL1.out.ipost HL.out.2.1 HL.out.2.2.1 h2)
    clear h2 HC
    go_wp2
    go_ret
    exact .inr ⟨HE.out, f, HL.out.2.2.1, rfl, HP.out⟩
  · obtain ⟨x, hx⟩ : ∃ x, err d s = x := ⟨_, rfl⟩
    have hfv : fileV d L s = .pointer none := by unfold fileV; rw [if_neg (by omega)]
    rw [hfv, hx] at HF
    have hne : ((x : Int) != 0) = true := by simp; omega
    rw [hx] at he ⊢
    clear h hL hc hs hfv hx
    go_enter Try.func30, Try.ntmps30
    go_wp2_with fail
    refine HF.out.mono ?_
    rintro e w1 ⟨rfl, k1⟩
    clear HF
    go_wp2
    go_ret
    exact .inl ⟨by omega, rfl, k1⟩
set_option maxRecDepth 8000 in
set_option maxHeartbeats 800000 in
theorem dsync_any {P : Nat → Prop} {w : World} {B K : Nat} {d : Dk} (h : Dsk P w B d K) (s : ByteArray) (hs : s.size ≤ maxLen) :
    Calls Try.prog 32 #[.pointer (some ⟨B, 0, none⟩), .string s] w fun e w' => (err d s ≠ 0 ∧ No w e (err d s) w') ∨ (err d s = 0 ∧ ∃ f, d.ino (num d s) = some f ∧ e = .returned (.int .i64 0) ∧ DkTo P w B (Sf.putI d (num d s) (some (f.sync))) K w') := by
  obtain ⟨L, hL, hc⟩ := h.m
  have HF : Hid (Calls Try.prog 24 #[.pointer (some ⟨B, 0, none⟩), .string s] w _) := dsk_file h hL s hs
  rcases Nat.eq_zero_or_pos (err d s) with he | he
  · have hfv : fileV d L s = .pointer (some ⟨L.ai (num d s), 0, none⟩) := by unfold fileV; rw [if_pos he]
    obtain ⟨f, hf, hfn⟩ := h.wf.numF (err_zero he).2
    have HW := h.wf.ino _ f hf
    have hkk := h.k
    have HW : Hid (f.ls ≤ f.bs.length ∧ f.bs.length ≤ 1048576 ∧ f.gen ≤ 1000000) := ⟨HW.2.2.2.2.1, HW.2.2.2.2.2.1, by omega⟩
    have HL : Hid (DkAt P w B d L ∧ (L.ci ≤ K ∧ L.cn ≤ K) ∧ d.ino (num d s) = some f ∧ f.nm = s ∧ s.size ≤ maxLen ∧ num d s ≤ 1000000) := ⟨hL, hc, hf, hfn, hs, by have := h.wf.numLe s; have := h.wf.hi; omega⟩
    rw [hfv, he] at HF
    have HE : Hid (err d s = 0) := he
    obtain ⟨n, hn⟩ : ∃ n, num d s = n := ⟨_, rfl⟩
    rw [hn] at HF HL ⊢
    have HN : Hid (num d s = n) := hn
    clear h hL hc hs hfv hf hfn he hn hkk
    go_enter Try.func32, Try.ntmps32
    go_wp2_with fail
    refine HF.out.mono ?_
    rintro e w1 ⟨rfl, k1⟩
    have HK : Hid (Below w.heap.size w w1) := k1
    have HL1 : Hid (DkAt P w1 B d L) := HL.out.1.later k1
    have HI1 : Hid (InoAt w1 (L.ai n) n f (L.vi n)) := HL1.out.ib n f HL.out.2.2.1
    have HC : Hid (Calls Try.prog 47 #[.pointer (some ⟨L.ai n, 0, none⟩)] w1 _) := sync_any HI1.out
    clear k1 HF
    go_wp2_with fail
    refine HC.out.mono ?_
    rintro e w2 ⟨rfl, h2⟩
    have HP : Hid (DkTo P w B (Sf.putI d n (some (f.sync))) K w2) := DkTo.of_below HL.out.1.low HK.out (HL1.out.ipost HL.out.2.1 HL.out.2.2.1 h2)
    clear h2 HC
    go_wp2
    go_ret
    exact .inr ⟨HE.out, f, HL.out.2.2.1, rfl, HP.out⟩
  · obtain ⟨x, hx⟩ : ∃ x, err d s = x := ⟨_, rfl⟩
    have hfv : fileV d L s = .pointer none := by unfold fileV; rw [if_neg (by omega)]
    rw [hfv, hx] at HF
    have hne : ((x : Int) != 0) = true := by simp; omega
    rw [hx] at he ⊢
    clear h hL hc hs hfv hx
    go_enter Try.func32, Try.ntmps32
    go_wp2_with fail
    refine HF.out.mono ?_
    rintro e w1 ⟨rfl, k1⟩
    clear HF
    go_wp2
    go_ret
    exact .inl ⟨by omega, rfl, k1⟩
set_option maxRecDepth 8000 in
set_option maxHeartbeats 800000 in
theorem remove_any {P : Nat → Prop} {w : World} {B K : Nat} {d : Dk} (h : Dsk P w B d K) (s : ByteArray) (hs : s.size ≤ maxLen) :
    Calls Try.prog 31 #[.pointer (some ⟨B, 0, none⟩), .string s] w fun e w' => (err d s ≠ 0 ∧ No w e (err d s) w') ∨ (err d s = 0 ∧ ∃ f, d.ino (num d s) = some f ∧ e = .returned (.int .i64 0) ∧ DkTo P w B (Sf.drop d (num d s) f) K w') := by
  obtain ⟨L, hL, hc⟩ := h.m
  have HF : Hid (Calls Try.prog 24 #[.pointer (some ⟨B, 0, none⟩), .string s] w _) := dsk_file h hL s hs
  rcases Nat.eq_zero_or_pos (err d s) with he | he
  · have hfv : fileV d L s = .pointer (some ⟨L.ai (num d s), 0, none⟩) := by unfold fileV; rw [if_pos he]
    obtain ⟨f, hf, hfn⟩ := h.wf.numF (err_zero he).2
    have HW := h.wf.ino _ f hf
    have hkk := h.k
    have HW : Hid (f.ls ≤ f.bs.length ∧ f.bs.length ≤ 1048576 ∧ f.gen ≤ 1000000) := ⟨HW.2.2.2.2.1, HW.2.2.2.2.2.1, by omega⟩
    have HL : Hid (DkAt P w B d L ∧ (L.ci ≤ K ∧ L.cn ≤ K) ∧ d.ino (num d s) = some f ∧ f.nm = s ∧ s.size ≤ maxLen ∧ num d s ≤ 1000000) := ⟨hL, hc, hf, hfn, hs, by have := h.wf.numLe s; have := h.wf.hi; omega⟩
    rw [hfv, he] at HF
    have HE : Hid (err d s = 0) := he
    have HP0 : Hid (num d s ≠ 0) := (err_zero he).2
    obtain ⟨n, hn⟩ : ∃ n, num d s = n := ⟨_, rfl⟩
    rw [hn] at HF HL ⊢
    have HN : Hid (num d s = n) := hn
    rw [hn] at HP0
    clear h hL hc hs hfv hf hfn he hn hkk
    go_enter Try.func31, Try.ntmps31
    go_wp2_with fail
    refine HF.out.mono ?_
    rintro e w1 ⟨rfl, k1⟩
    have HK : Hid (Below w.heap.size w w1) := k1
    have HL1 : Hid (DkAt P w1 B d L) := HL.out.1.later k1
    have HI1 : Hid (InoAt w1 (L.ai n) n f (L.vi n)) := HL1.out.ib n f HL.out.2.2.1
    obtain ⟨q, hq⟩ := num_some (d := d) (s := s) (by rw [HN.out]; exact HP0.out)
    have HC : Hid (Calls Try.prog 26 #[.pointer (some ⟨B, 0, none⟩), .pointer (some ⟨L.ai n, 0, none⟩)] w1 _) := drop_any HL1.out HL.out.2.2.1 (q := (q, num d s)) (by rw [HL.out.2.2.2.1]; exact hq) (by rw [HL.out.2.2.2.1]; exact HL.out.2.2.2.2.1) (by have := HL.out.2.2.2.2.2; omega)
    clear hq
    clear k1 HF
    go_wp2_with fail
    refine HC.out.mono ?_
    rintro e w2 ⟨rfl, h2, h5⟩
    have HP : Hid (DkTo P w B (Sf.drop d n f) K w2) := DkTo.of_below HL.out.1.low HK.out ⟨⟨L, h2, HL.out.2.1⟩, h5⟩
    clear h2 h5 HC
    go_wp2
    go_ret
    exact .inr ⟨HE.out, f, HL.out.2.2.1, rfl, HP.out⟩
  · obtain ⟨x, hx⟩ : ∃ x, err d s = x := ⟨_, rfl⟩
    have hfv : fileV d L s = .pointer none := by unfold fileV; rw [if_neg (by omega)]
    rw [hfv, hx] at HF
    have hne : ((x : Int) != 0) = true := by simp; omega
    rw [hx] at he ⊢
    clear h hL hc hs hfv hx
    go_enter Try.func31, Try.ntmps31
    go_wp2_with fail
    refine HF.out.mono ?_
    rintro e w1 ⟨rfl, k1⟩
    clear HF
    go_wp2
    go_ret
    exact .inl ⟨by omega, rfl, k1⟩
end Go.Proofs.Ytpikepifhnkmkaa
