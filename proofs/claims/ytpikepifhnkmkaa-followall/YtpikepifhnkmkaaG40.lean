/- follow: seeGone, beginAgain. -/
import Derived.Test.YtpikepifhnkmkaaG39
namespace Go.Proofs.Ytpikepifhnkmkaa
open Go.RowKit Go.Maps Sf Ln Fo
attribute [local go_sem ↓] Go.wp_at_zero Go.wp_at_succ

theorem ofI_good {z : Int} (h : 0 ≤ z ∧ z ≤ top) : goodI z := by unfold goodI; unfold top at h; omega
/-- what Inode tells -/
theorem inode_told {P : Nat → Prop} {w : World} {Bd K : Nat} {d : Dk} (h : Dsk P w Bd d K) {y : Int} (hy : goodI y) :
    ∃ n q g z x : Nat, (∀ u, Below w.heap.size w u → Calls Try.prog 57 #[.pointer (some ⟨Bd, 0, none⟩), .int .i64 y] u fun e w' => e = .returned (.tuple #[statV n q g z, .int .i64 (x : Nat)]) ∧ Below u.heap.size u w') ∧ ((x = 0 ∧ ∃ f, inoZ d y = some f ∧ g = f.gen) ∨ (x ≠ 0 ∧ inoZ d y = none)) := by
  cases hi : inoZ d y with
  | none => exact ⟨0, 0, 0, 0, 143, fun u hu => (inode_any (h.later hu) y hy).mono (fun e w' x => by
      rcases x with ⟨_, x⟩ | ⟨f, x, _⟩
      · exact x
      · rw [hi] at x; cases x), .inr ⟨by decide, rfl⟩⟩
  | some f => exact ⟨y.toNat, ser d f.nm, f.gen, f.bs.length, 0, fun u hu => (inode_any (h.later hu) y hy).mono (fun e w' x => by
      rcases x with ⟨x, _⟩ | ⟨f', x, y⟩
      · rw [hi] at x; cases x
      · rw [hi] at x; cases x; exact y), .inl ⟨rfl, f, rfl, rfl⟩⟩
theorem len15 {l : List Value} (h : l.length = 15) : ∃ a b c d e f g i j k m n o p q, l = [a, b, c, d, e, f, g, i, j, k, m, n, o, p, q] := by
  match l, h with
  | [a, b, c, d, e, f, g, i, j, k, m, n, o, p, q], _ => exact ⟨a, b, c, d, e, f, g, i, j, k, m, n, o, p, q, rfl⟩
def GonPost (F B : Nat) (V : Value) (f : Fo) (d : Dk) (w : World) (e : Ending) (w' : World) : Prop := (inoZ d f.m.n = none → e = .returned (.bool true) ∧ FTo F B V f.lose w w') ∧ (inoZ d f.m.n ≠ none → e = .returned (.bool false) ∧ Below w.heap.size w w')
set_option maxRecDepth 8000 in
set_option maxHeartbeats 4000000 in
theorem seeGone_fn {w : World} {F B Bd T K C : Nat} {V : Value} {f : Fo} {P : Nat → Prop} {d : Dk} (h : FoAt w F B V f) (hk : f.Ok C) (hd : Dsk P w Bd d K) (hT : w.cell? ⟨T, 0, none⟩ = some (.pointer (some ⟨Bd, 0, none⟩))) :
    Calls Try.prog 42 #[.pointer (some ⟨F, 0, none⟩), .pointer (some ⟨T, 0, none⟩)] w (GonPost F B V f d w) := by
  have c2 := h.b.cells.2.2.1
  obtain ⟨n, q, g, z, x, hi, hx⟩ := inode_told hd (ofI_good hk.m.n)
  have HI : Hid (∀ u, Below w.heap.size w u → Calls Try.prog 57 #[.pointer (some ⟨Bd, 0, none⟩), .int .i64 f.m.n] u fun e w' => e = .returned (.tuple #[statV n q g z, .int .i64 (x : Nat)]) ∧ Below u.heap.size u w') := hi
  have HH : Hid (FoAt w F B V f ∧ f.Ok C) := ⟨h, hk⟩
  have HX : Hid ((x = 0 ∧ ∃ f', inoZ d f.m.n = some f' ∧ g = f'.gen) ∨ (x ≠ 0 ∧ inoZ d f.m.n = none)) := hx
  clear h hk hd hi hx
  unfold statV at HI
  go_enter Try.func42, Try.ntmps42
  go_upto_region 1 with fail
  refine regGn F T Bd n q g z x f.m.n (by kernel_rfl) rfl rfl rfl hT c2 HI.out ?_
  intro A wc p hB _ _ hp p5 p6
  obtain ⟨x0, x1, y2, y3, y4, y5, y6, y7, y8, y9, y10, y11, y12, y13, y14, rfl⟩ := len15 hp
  have p5 : x0 = .pointer (some ⟨A, 0, none⟩) := p5
  have p6 : x1 = .int .i64 (x : Nat) := p6
  subst p5 p6
  have HB : Hid (Below w.heap.size w wc) := hB
  clear hB hp
  simp only [List.take_succ_cons, List.drop_succ_cons, List.take_zero, List.drop_zero, List.cons_append, List.nil_append]
  rcases HX.out with ⟨hx, f', hf', _⟩ | ⟨hx, hn⟩
  · have e0 : ((x : Int) == 0) = true := by simp; omega
    have HN : Hid (inoZ d f.m.n ≠ none) := fun y => by rw [y] at hf'; cases hf'
    clear hx hf' HI c2 hT
    go_wp2
    go_ret
    exact ⟨fun y => absurd y HN.out, fun _ => ⟨rfl, HB.out⟩⟩
  · have e0 : ((x : Int) == 0) = false := by simp; omega
    have HN : Hid (inoZ d f.m.n = none) := hn
    have HL : Hid (Calls Try.prog 23 #[.pointer (some ⟨F, 0, none⟩)] wc _) := lose_fn (HH.out.1.later HB.out) HH.out.2
    clear hx hn HI c2 hT
    go_wp2_with fail
    refine HL.out.mono ?_
    rintro e w3 ⟨rfl, h3⟩
    have HE : Hid (FTo F B V f.lose w w3) := (FTo.below HH.out.1 HB.out).then fun V1 a1 => by rw [a1.same (HH.out.1.later HB.out)]; exact h3
    clear h3 HL
    go_wp2
    go_ret
    exact ⟨fun _ => ⟨rfl, HE.out⟩, fun y => absurd HN.out y⟩
end Go.Proofs.Ytpikepifhnkmkaa

/- follow: beginAgain. -/
namespace Go.Proofs.Ytpikepifhnkmkaa
open Go.RowKit Go.Maps Sf Ln Fo
attribute [local go_sem ↓] Go.wp_at_zero Go.wp_at_succ

def AgPost (F B : Nat) (V : Value) (f : Fo) (g : Nat) (w : World) (e : Ending) (w' : World) : Prop := ((g : Int) ≠ f.m.g → e = .returned (.bool true) ∧ FTo F B V (f.cut g) w w') ∧ ((g : Int) = f.m.g → e = .returned (.bool false) ∧ Below w.heap.size w w')
set_option maxRecDepth 8000 in
set_option maxHeartbeats 4000000 in
theorem beginAgain_fn {w : World} {F B Bd T K C : Nat} {V : Value} {f : Fo} {P : Nat → Prop} {d : Dk} (h : FoAt w F B V f) (hk : f.Ok C) (hd : Dsk P w Bd d K) (hT : w.cell? ⟨T, 0, none⟩ = some (.pointer (some ⟨Bd, 0, none⟩))) {x' : Ino} (hin : inoZ d f.m.n = some x') :
    Calls Try.prog 43 #[.pointer (some ⟨F, 0, none⟩), .pointer (some ⟨T, 0, none⟩)] w (AgPost F B V f x'.gen w) := by
  have c2 := h.b.cells.2.2.1
  obtain ⟨n, q, g, z, x, hi, hx⟩ := inode_told hd (ofI_good hk.m.n)
  have HI : Hid (∀ u, Below w.heap.size w u → Calls Try.prog 57 #[.pointer (some ⟨Bd, 0, none⟩), .int .i64 f.m.n] u fun e w' => e = .returned (.tuple #[statV n q g z, .int .i64 (x : Nat)]) ∧ Below u.heap.size u w') := hi
  have HH : Hid (FoAt w F B V f ∧ f.Ok C) := ⟨h, hk⟩
  have hg : g = x'.gen := by
    rcases hx with ⟨_, f', e, e2⟩ | ⟨_, e⟩
    · rw [hin] at e; cases e; exact e2
    · rw [hin] at e; cases e
  rw [← hg]
  have hgk : (g : Int) ≤ 1000000 := by
    have h1 := (inoZ_wf hd.wf hin).2.2.2.2
    have := hd.k
    omega
  have hmg := hk.m.g
  unfold top at hmg
  obtain ⟨mn, hmn⟩ : ∃ mn, f.m.n = mn := ⟨_, rfl⟩
  obtain ⟨mg, hmg2⟩ : ∃ mg, f.m.g = mg := ⟨_, rfl⟩
  have HM : Hid (f.m.n = mn ∧ f.m.g = mg) := ⟨hmn, hmg2⟩
  rw [hmn] at c2 HI
  rw [hmg2] at hmg
  obtain ⟨hmg0, hmg1⟩ := hmg
  clear h hk hd hi hx hin hg hmn hmg2
  unfold statV at HI
  go_enter Try.func43, Try.ntmps43
  go_upto_region 1 with fail
  refine regBa F T Bd n q g z x mn (by kernel_rfl) rfl rfl rfl hT c2 HI.out ?_
  intro A wc p hB hA hst hp p5 p6
  obtain ⟨x0, x1, y2, y3, y4, y5, y6, y7, y8, y9, y10, y11, y12, y13, y14, rfl⟩ := len15 hp
  have p5 : x0 = .pointer (some ⟨A, 0, none⟩) := p5
  have p6 : x1 = .int .i64 (x : Nat) := p6
  subst p5 p6
  have HB : Hid (Below w.heap.size w wc) := hB
  have st : StatB wc A (.int .i64 (n : Nat)) (.int .i64 (q : Nat)) (.int .i64 (g : Nat)) (.int .i64 (z : Nat)) := hst
  have HST : Hid (StatB wc A (.int .i64 (n : Nat)) (.int .i64 (q : Nat)) (.int .i64 (g : Nat)) (.int .i64 (z : Nat)) ∧ A ≠ F) := ⟨st, fun e => by have := HH.out.1.b.lt; omega⟩
  obtain ⟨s0, s1, s2, s3, _⟩ := st.cells
  have hfc := HH.out.1.later hB
  have c3 := hfc.b.cells.2.2.2.1
  rw [HM.out.2] at c3
  clear hB hp hst st HI c2 hT hA
  simp only [List.take_succ_cons, List.drop_succ_cons, List.take_zero, List.drop_zero, List.cons_append, List.nil_append]
  obtain ⟨w2, hw2⟩ : ∃ w2, wc.drew = w2 := ⟨_, rfl⟩
  have HW2 : Hid (wc.drew = w2) := hw2
  have k2 : Below w.heap.size w w2 := by rw [← hw2]; exact HB.out.drew
  have HF2 : Hid (FoAt w2 F B V f ∧ Below w.heap.size w w2) := ⟨HH.out.1.later k2, k2⟩
  have st2 : StatB w2 A (.int .i64 (n : Nat)) (.int .i64 (q : Nat)) (.int .i64 (g : Nat)) (.int .i64 (z : Nat)) := by rw [← hw2]; exact HST.out.1
  have HST2 : Hid (StatB w2 A (.int .i64 (n : Nat)) (.int .i64 (q : Nat)) (.int .i64 (g : Nat)) (.int .i64 (z : Nat)) ∧ A ≠ F) := ⟨st2, HST.out.2⟩
  by_cases hgm : (g : Int) = mg
  · have e0 : ((g : Int) == mg) = true := by simp; omega
    have HE : Hid ((g : Int) = f.m.g) := by show _ = _; rw [HM.out.2]; exact hgm
    clear hgm hfc k2 hw2 st2
    go_upto_region 2 with fail
    go_region
    rw [HW2.out]
    go_wp2
    go_ret
    exact ⟨fun y => absurd HE.out y, fun _ => ⟨rfl, HF2.out.2⟩⟩
  · have e0 : ((g : Int) == mg) = false := by simp; omega
    have HE : Hid (¬ (g : Int) = f.m.g) := by show ¬ _; rw [HM.out.2]; exact hgm
    have tw1 : IntKind.i64.wrap ((g : Int) - mg) = (g : Int) - mg := by rw [IntKind.wrap_i64]; omega
    have hct := HH.out.2.m.ct
    have HR : Hid (∀ x, x = max ((g : Int) - mg) 0 → Calls Try.prog 38 #[.pointer (some ⟨F, 7, none⟩), .int .i64 x] w2.drew fun e w' => e = .returned (.tuple #[]) ∧ w' = (w2.drew.setCell ⟨F, 7, none⟩ (.int .i64 (raise f.m.ct (max ((g : Int) - mg) 0)))).drew) := fun x hx => by
      subst hx
      exact raise_fn (w := w2.drew) HF2.out.1.b.losses.2.2.1 (HF2.out.1.b.frozen 7) hct ⟨by omega, by omega⟩
    have ht : FTo F B V ⟨{ f.m with ct := raise f.m.ct (max ((g : Int) - mg) 0) }, f.nm, f.ck, f.k⟩ w (w2.drew.setCell ⟨F, 7, none⟩ (.int .i64 (raise f.m.ct (max ((g : Int) - mg) 0)))).drew := by
      have t1 := (FTo.below HH.out.1 (HF2.out.2.drew)).set (f' := ⟨{ f.m with ct := raise f.m.ct (max ((g : Int) - mg) 0) }, f.nm, f.ck, f.k⟩) 7 (.int .i64 (raise f.m.ct (max ((g : Int) - mg) 0))) rfl rfl
      exact t1.after (drew_below _ 1)
    obtain ⟨w3, hw3⟩ : ∃ w3, (w2.drew.setCell ⟨F, 7, none⟩ (.int .i64 (raise f.m.ct (max ((g : Int) - mg) 0)))).drew = w3 := ⟨_, rfl⟩
    have st3 : StatB w3 A (.int .i64 (n : Nat)) (.int .i64 (q : Nat)) (.int .i64 (g : Nat)) (.int .i64 (z : Nat)) := by rw [← hw3]; exact (Below.heap_setCell w2.drew ⟨F, 7, none⟩ _ A (fun e => HST.out.2 e)).trans st2
    rw [hw3] at ht HR
    have HT3 : Hid (FTo F B V ⟨{ f.m with ct := raise f.m.ct (max ((g : Int) - mg) 0) }, f.nm, f.ck, f.k⟩ w w3) := ht
    have HHO : Hid (Calls Try.prog 39 #[.pointer (some ⟨F, 0, none⟩), .int .i64 mn, .int .i64 (g : Nat)] w3.drew fun e w' => e = .returned (.tuple #[]) ∧ FTo F B V (f.cut g) w w') := by
      have ht3 := ht.after (drew_below w3 1)
      obtain ⟨V4, a4, _⟩ := id ht3
      refine (hold_fn a4 mn (g : Nat)).mono fun e w' x => ⟨x.1, ht3.then fun V5 a5 => ?_⟩
      rw [a5.same a4]
      have := x.2
      unfold Fo.cut
      rw [HM.out.1, HM.out.2]
      exact this
    have s2' : w2.cell? ⟨A, 2, none⟩ = some (.int .i64 (g : Nat)) := st2.cells.2.2.1
    have c3' : w2.cell? ⟨F, 3, none⟩ = some (.int .i64 mg) := by rw [← HM.out.2]; exact HF2.out.1.b.cells.2.2.2.1
    have z2 := st3.cells.2.2.1
    have y2 : w3.cell? ⟨F, 2, none⟩ = some (.int .i64 mn) := by
      obtain ⟨V4, a4, _⟩ := ht
      rw [← HM.out.1]
      exact a4.b.cells.2.2.1
    clear hgm hfc k2 hw2 st2 st3 hw3 ht hct
    go_upto_region 2 with fail
    go_region
    rw [HW2.out]
    clear s0 s1 s2 s3 c3
    go_upto_region 4 with fail
    go_cut [42] from 28 to 42 (fun _ wx => wx = w3)
    case first =>
      go_region_with (go_at_call 38; refine (HR.out _ (by omega)).mono ?_; rintro e u ⟨rfl, hu⟩; have HU : Hid (u = w3) := hu; clear hu)
      all_goals
        go_wp2_with fail
        go_meet
        case rel => exact HU.out
    case rest =>
    rw [hcut]
    clear hcut HR s2' c3'
    go_upto_region 5 with fail
    go_cut [51] from 43 to 51 (fun _ wx => Hid (FTo F B V (f.cut g) w wx))
    case first =>
      go_region_with (go_at_call 39; refine HHO.out.mono ?_; rintro e u ⟨rfl, hu⟩; have HU : Hid (FTo F B V (f.cut g) w u) := hu; clear hu)
      all_goals
        go_wp2_with fail
        go_meet
        case rel => exact HU
    case rest =>
    clear HHO
    go_wp2
    go_ret
    exact ⟨fun _ => ⟨rfl, hcut.out⟩, fun y => absurd y HE.out⟩
end Go.Proofs.Ytpikepifhnkmkaa
