/- ring's functions, of numbers: place, Full, Len, Front, Push, Pop. -/
import Derived.Test.YtclcpblpmfijiaaG06
namespace Go.Proofs.Ytclcpblpmfijiaa
open Go.RowKit Go.Maps Rg
attribute [local go_sem ↓] Go.wp_at_zero Go.wp_at_succ

theorem place_any {w : World} {B R n f c : Nat} (h : RBox w B R n f c) (hf : f < n) (hn : n ≤ 64) (k : Nat) (hk : k ≤ 64) :
    Calls Try.prog 25 #[.pointer (some ⟨B, 0, none⟩), .int .i64 (k : Nat)] w fun e w' => e = .returned (.int .i64 (((f + k) % n : Nat) : Nat)) ∧ w' = w.drew := by
  obtain ⟨c0, c1, c2⟩ := h.cells
  have HN : Hid (((f : Int) + k).tmod n = (((f + k) % n : Nat) : Nat)) := by
    show _ = _
    rw [show (f : Int) + k = ((f + k : Nat) : Int) by omega, Int.ofNat_tmod]
  have hb : f < 64 ∧ k ≤ 64 ∧ n ≤ 64 ∧ 0 < n := by omega
  have hnz : (n : Int) ≠ 0 := by omega
  clear h
  go_enter Try.func25, Try.ntmps25
  go_upto_region 1 with fail
  go_region
  go_wp2
  go_ret
  exact ⟨ret_int HN.out, rfl⟩
theorem full_any {w : World} {B R n f c : Nat} (h : RBox w B R n f c) :
    Calls Try.prog 14 #[.pointer (some ⟨B, 0, none⟩)] w fun e w' => e = .returned (.bool (decide (c = n))) ∧ w' = w.drew := by
  obtain ⟨c0, c1, c2⟩ := h.cells
  clear h
  go_enter Try.func14, Try.ntmps14
  go_upto_region 1 with fail
  go_region
  go_wp2
  go_ret
  exact ⟨ret_bool (by by_cases e : c = n <;> simp [e]; omega), rfl⟩
theorem len_any {w : World} {B R n f c : Nat} (h : RBox w B R n f c) :
    Calls Try.prog 16 #[.pointer (some ⟨B, 0, none⟩)] w fun e w' => e = .returned (.int .i64 (c : Nat)) ∧ w' = w := by
  obtain ⟨c0, c1, c2⟩ := h.cells
  clear h
  go_enter Try.func16, Try.ntmps16
  go_wp2
  go_ret
  exact ⟨rfl, rfl⟩
theorem front_any {w : World} {B R n f : Nat} {l : List Int} (h : RgAt w B R n f l) :
    Calls Try.prog 26 #[.pointer (some ⟨B, 0, none⟩)] w fun e w' => e = .returned (.tuple #[.int .i64 (l.head?.getD 0), .bool (decide (0 < l.length))]) ∧ w' = w.drew := by
  obtain ⟨c0, c1, c2⟩ := h.b.cells
  have c3 := h.r.cell h.f
  rw [rd_first h.f] at c3
  have hf := h.f
  have hn := h.n
  clear h
  go_enter Try.func26, Try.ntmps26
  go_upto_region 1 with fail
  go_region
  go_wp2
  go_ret2
  refine ⟨?_, rfl⟩
  by_cases e : 0 < l.length <;> simp [e]
theorem drew_below (w : World) (q : Nat) : Below w.heap.size w (w.drewN q) := ⟨rfl, rfl, rfl, Nat.le_refl _, fun _ _ => rfl⟩
theorem drew2 (w : World) : Below w.heap.size w w.drew.drew := ⟨rfl, rfl, rfl, Nat.le_refl _, fun _ _ => rfl⟩
theorem drew3 (w : World) : Below w.heap.size w w.drew.drew.drew := ⟨rfl, rfl, rfl, Nat.le_refl _, fun _ _ => rfl⟩
theorem set_drew (w : World) (a : Addr) (v : Value) : w.drew.setCell a v = (w.setCell a v).drew := rfl
set_option maxRecDepth 4000 in
theorem push_any {w : World} {B R n f : Nat} {l : List Int} (h : RgAt w B R n f l) (x : Int) :
    Calls Try.prog 15 #[.pointer (some ⟨B, 0, none⟩), .int .i64 x] w fun e w' => e = .returned (.int .i64 (if l.length = n then 180 else 0)) ∧ RTo B R n f (if l.length = n then l else l ++ [x]) w w' := by
  have HFU : Hid (Calls Try.prog 14 #[.pointer (some ⟨B, 0, none⟩)] w _) := full_any h.b
  by_cases e0 : l.length = n
  · rw [if_pos e0, if_pos e0]
    have hd : decide (l.length = n) = true := by simp [e0]
    rw [hd] at HFU
    have HH : Hid (RgAt w B R n f l) := h
    clear h hd e0
    go_enter Try.func15, Try.ntmps15
    go_wp2_with fail
    refine HFU.out.mono ?_
    rintro e w1 ⟨rfl, rfl⟩
    go_wp2
    go_ret
    exact ⟨rfl, HH.out.later (drew_below w 1), FrP.of_below _ (drew_below w 1)⟩
  · rw [if_neg e0, if_neg e0]
    have hd : decide (l.length = n) = false := by simp [e0]
    rw [hd] at HFU
    have hll := h.l
    have hnn := h.n
    have hlt : l.length < n := by omega
    obtain ⟨m, hm⟩ : ∃ m, l.length = m := ⟨_, rfl⟩
    obtain ⟨p, hp⟩ : ∃ p, (f + m) % n = p := ⟨_, rfl⟩
    have hpn : p < n := by rw [← hp]; exact place_lt h.f
    have HPL : Hid (∀ u, RBox u B R n f m → Calls Try.prog 25 #[.pointer (some ⟨B, 0, none⟩), .int .i64 (m : Nat)] u fun e w' => e = .returned (.int .i64 (p : Nat)) ∧ w' = u.drew) := fun u hu => by rw [← hp]; exact place_any hu h.f h.n m (by omega)
    have h3 : RgAt w.drew.drew.drew B R n f l := h.later (drew3 w)
    have h4 := h3.push x hlt
    rw [hm, hp] at h4
    have HH : Hid (RgAt ((w.drew.drew.drew.setCell ⟨R, p, none⟩ (.int .i64 x)).setCell ⟨B, 2, none⟩ (.int .i64 ((m : Int) + 1))) B R n f (l ++ [x])) := h4
    have HB : Hid (RBox w.drew.drew B R n f m) := by rw [← hm]; exact h.b
    have HF : Hid (FrP (fun k => k = B ∨ k = R) w ((w.drew.drew.drew.setCell ⟨R, p, none⟩ (.int .i64 x)).setCell ⟨B, 2, none⟩ (.int .i64 ((m : Int) + 1)))) := FrP.set (FrP.set (FrP.of_below _ (drew3 w)) (fun _ => .inr rfl) p _) (fun _ => .inl rfl) 2 _
    obtain ⟨c0, c1, c2⟩ := h.b.cells
    rw [hm] at c2
    have c3 := h.r.cell hpn
    have q3 := h.r.frozen p
    have q2 := h.b.frozen 2
    have hne := h.ne
    have hne2 : B ≠ R := fun e => hne e.symm
    have hm64 : m < 64 := by omega
    clear h h3 h4 hd e0 hp hll hlt hm
    go_enter Try.func15, Try.ntmps15
    go_wp2_with fail
    refine HFU.out.mono ?_
    rintro e w1 ⟨rfl, rfl⟩
    clear HFU
    go_upto_region 3 with fail
    go_region_with (go_at_call 25; refine (HPL.out _ HB.out).mono ?_; rintro e u ⟨rfl, rfl⟩)
    all_goals
      go_wp2_with fail
      go_ret
      exact ⟨rfl, HH.out, HF.out⟩
theorem pop_none {w : World} {B R n f : Nat} (h : RgAt w B R n f []) :
    Calls Try.prog 17 #[.pointer (some ⟨B, 0, none⟩)] w fun e w' => e = .returned (.tuple #[.int .i64 0, .bool false]) ∧ RTo B R n f [] w w' := by
  have HFR : Hid (Calls Try.prog 26 #[.pointer (some ⟨B, 0, none⟩)] w fun e w' => e = .returned (.tuple #[.int .i64 0, .bool false]) ∧ w' = w.drew) := front_any h
  have HH : Hid (RgAt w B R n f []) := h
  clear h
  go_enter Try.func17, Try.ntmps17
  go_wp2_with fail
  refine HFR.out.mono ?_
  rintro e w1 ⟨rfl, rfl⟩
  go_wp2
  go_ret2
  exact ⟨rfl, HH.out.later (drew_below w 1), FrP.of_below _ (drew_below w 1)⟩
set_option maxRecDepth 4000 in
theorem pop_some {w : World} {B R n f : Nat} {x : Int} {t : List Int} (h : RgAt w B R n f (x :: t)) :
    Calls Try.prog 17 #[.pointer (some ⟨B, 0, none⟩)] w fun e w' => e = .returned (.tuple #[.int .i64 x, .bool true]) ∧ RTo B R n ((f + 1) % n) t w w' := by
  have HFR : Hid (Calls Try.prog 26 #[.pointer (some ⟨B, 0, none⟩)] w fun e w' => e = .returned (.tuple #[.int .i64 x, .bool true]) ∧ w' = w.drew) := by
    refine (front_any h).mono fun e w' ⟨a, b⟩ => ⟨a.trans ?_, b⟩
    simp
  have h2 : RgAt w.drew.drew B R n f (x :: t) := h.later (drew2 w)
  obtain ⟨p, hp⟩ : ∃ p, (f + 1) % n = p := ⟨_, rfl⟩
  obtain ⟨m, hm⟩ : ∃ m, t.length = m := ⟨_, rfl⟩
  have hb3 : RBox (w.drew.drew.setCell ⟨R, f, none⟩ (.int .i64 0)) B R n f (x :: t).length := h2.b.same (Below.heap_setCell _ ⟨R, _, none⟩ _ B (fun e => h2.ne e.symm))
  have HPL : Hid (Calls Try.prog 25 #[.pointer (some ⟨B, 0, none⟩), .int .i64 1] (w.drew.drew.setCell ⟨R, f, none⟩ (.int .i64 0)) fun e w' => e = .returned (.int .i64 (p : Nat)) ∧ w' = (w.drew.drew.setCell ⟨R, f, none⟩ (.int .i64 0)).drew) := by rw [← hp]; exact place_any hb3 h.f h.n 1 (by omega)
  have h4 := h2.pop
  rw [hm, hp] at h4
  have h5 := h4.later (drew_below _ 1)
  have HH : Hid (RgAt (((w.drew.drew.setCell ⟨R, f, none⟩ (.int .i64 0)).drew.setCell ⟨B, 1, none⟩ (.int .i64 (p : Nat))).setCell ⟨B, 2, none⟩ (.int .i64 (m : Nat))) B R n p t) := h5
  have HF : Hid (FrP (fun k => k = B ∨ k = R) w (((w.drew.drew.setCell ⟨R, f, none⟩ (.int .i64 0)).drew.setCell ⟨B, 1, none⟩ (.int .i64 (p : Nat))).setCell ⟨B, 2, none⟩ (.int .i64 (m : Nat)))) := (((FrP.of_below _ (drew2 w)).set (fun _ => .inr rfl) f (.int .i64 0)).below (drew_below _ 1)).set (fun _ => .inl rfl) 1 (.int .i64 (p : Nat)) |>.set (fun _ => .inl rfl) 2 (.int .i64 (m : Nat))
  obtain ⟨c0, c1, c2⟩ := h.b.cells
  simp only [List.length_cons, hm] at c2
  have c3 := h.r.cell h.f
  have q3 := h.r.frozen f
  have q1 := h.b.frozen 1
  have q2 := h.b.frozen 2
  have hne := h.ne
  have hne2 : B ≠ R := fun e => hne e.symm
  have hfn := h.f
  have hm64 : m < 64 := by have y1 := h.l; have y2 := h.n; simp only [List.length_cons, hm] at y1; omega
  have HS : Hid ((((m + 1 : Nat) : Nat) : Int) - 1 = (m : Nat)) := by show _ = _; omega
  rw [hp]
  clear h h2 h4 h5 hp hm hb3
  go_enter Try.func17, Try.ntmps17
  go_wp2_with fail
  refine HFR.out.mono ?_
  rintro e w1 ⟨rfl, rfl⟩
  clear HFR
  go_upto_region 4 with fail
  go_region
  go_wp2_with fail
  refine HPL.out.mono ?_
  rintro e w1 ⟨rfl, rfl⟩
  clear HPL
  go_wp2
  go_ret2
  exact ⟨rfl, HH.out, HF.out⟩
end Go.Proofs.Ytclcpblpmfijiaa
