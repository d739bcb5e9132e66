/- heronlaw14: does. -/
import Derived.Test.YtjlfhaehdllmcaaG33
import Derived.Test.YtjlfhaehdllmcaaG32
namespace Go.Proofs.Ytjlfhaehdllmcaa
open Go.RowKit Go.Maps Sf
attribute [local go_sem ↓] Go.wp_at_zero Go.wp_at_succ

def DoesPost (P : Nat → Prop) (w : World) (B : Nat) (d : Dk) (K : Nat) (o : Opr) (e : Ending) (w' : World) : Prop := ∃ l, e = .returned (.tuple #[.int .i64 ((doR d o l).2.1 : Nat), .bool (doR d o l).2.2]) ∧ DkTo P w B (doR d o l).1 (K + 1) w'
section
variable {P : Nat → Prop} {w u v : World} {B K : Nat} {d : Dk}
theorem dkto_no (h : Dsk P w B d K) (hb : Below w.heap.size w u) : DkTo P w B d (K + 1) u := by
  obtain ⟨L, h1, h2⟩ := h.m
  exact ⟨⟨L, h1.more hb, by omega, by omega⟩, FrP.of_below P hb⟩
theorem DkTo.up {c c' : Nat} (h : DkTo P w B d c u) (hc : c ≤ c') : DkTo P w B d c' u := by
  obtain ⟨⟨L, h1, h2, h3⟩, h4⟩ := h
  exact ⟨⟨L, h1, by omega, by omega⟩, h4⟩
theorem DkTo.dsk {d' : Dk} (h : DkTo P w B d' (K + 1) u) (hw : Wf d' (K + 1)) (hK : K < 1000000) : Dsk (More P w u) u B d' (K + 1) := ⟨hw, h.1, by omega⟩
theorem does_end {o : Opr} {e : Ending} (h : Dsk P w B d K) (h1 : Below w.heap.size w u) (l : List UInt8) (r : Dk × Nat × Bool) (hr : doR d o l = r) (he : e = .returned (.tuple #[.int .i64 (r.2.1 : Nat), .bool r.2.2])) (ht : DkTo P u B r.1 (K + 1) v) : DoesPost P w B d K o e v := by
  refine ⟨l, by rw [hr]; exact he, ?_⟩
  rw [hr]
  exact DkTo.of_below h.m.low h1 ht
theorem infI : (Try.prog.info? 3).map (fun i => (i.zero, i.size, i.bytes)) = some (some (.int .i64 0), 1, 8) := by kernel_rfl
theorem lx_own {P : Nat → Prop} {w1 w3 : World} {V : Value} {n : Nat} {xs : List Value} (h : w3.ownsRow w1.heap.size 3 1 V n xs) (hp : ∀ k, P k → k < w1.heap.size) : LAtX (fun k => ¬ P k) w3 V xs := by
  refine ⟨owns_lat h, fun b off n' c e _ hb => ?_⟩
  have := hp b hb
  rcases h.2 with ⟨e2, _⟩ | ⟨g, cap, cur, e2, hg, _⟩
  · rw [e] at e2; cases e2
  · rw [e] at e2
    cases e2
    omega
theorem OpAt.cellsMore {w : World} {b : Nat} {o : Opr} (h : OpAt w b o) : w.cell? ⟨b, 1, none⟩ = some (.int .i64 o.dd) ∧ w.cell? ⟨b, 6, none⟩ = some (.int .i64 o.nn) ∧ w.cell? ⟨b, 7, none⟩ = some (.int .i64 o.mm) ∧ w.cell? ⟨b, 8, none⟩ = some (.int .i64 o.oo) ∧ w.cell? ⟨b, 9, none⟩ = some (.int .i64 o.zz) := by
  simp [World.cell?, show w.heap[b]? = _ from h, Opr.cells]
theorem append_does {w1 : World} (h : Dsk P w B d K) (h1 : Below w.heap.size w w1) (hv : Below w1.heap.size w1 v) (o : Opr) (ho : o.Ok) (e0 : ¬ o.kind = 0) (e1 : o.kind = 1) {V : Value} {l : List UInt8} (hl : LAt v V (uv l)) :
    Calls Try.prog 17 #[.pointer (some ⟨B, 0, none⟩), .string o.a, V] v fun e w' => ∃ x : Nat, e = .returned (.int .i64 (x : Nat)) ∧ DoesPost P w B d K o (.returned (.tuple #[.int .i64 (x : Nat), .bool false])) w' := by
  have hwv := below_step h1 hv
  have hdv := h.later hwv
  refine (append_any hdv o.a ho.a hl).mono ?_
  rintro e w' hcase
  have hdo : doR d o l = if err d o.a = 0 then layN d o.a l else (d, err d o.a, false) := by unfold doR; rw [if_neg e0, if_pos e1]
  rcases hcase with ⟨h1, rfl, hb⟩ | ⟨h1, f, hf, hc⟩
  · exact ⟨_, rfl, does_end h hwv l (d, err d o.a, false) (by rw [hdo, if_neg h1]) rfl (dkto_no hdv hb)⟩
  · have hla : layN d o.a l = if f.bs.length + l.length ≤ 1048576 then (Sf.putI d (num d o.a) (some (f.lay l)), 0, false) else (d, 145, false) := by unfold layN; rw [hf]
    rcases hc with ⟨h2, rfl, hb⟩ | ⟨h2, rfl, hd⟩
    · exact ⟨145, rfl, does_end h hwv l (d, 145, false) (by rw [hdo, if_pos h1, hla, if_neg (by omega)]) rfl (dkto_no hdv hb)⟩
    · exact ⟨0, rfl, does_end h hwv l (Sf.putI d (num d o.a) (some (f.lay l)), 0, false) (by rw [hdo, if_pos h1, hla, if_pos h2]) rfl (DkTo.up hd (Nat.le_succ K))⟩
theorem does_drew {o : Opr} {e : Ending} {q : Nat} (h : DoesPost P w B d K o e u) : DoesPost P w B d K o e (u.drewN q) := by
  obtain ⟨l, h1, ⟨L, h2, h3⟩, h4⟩ := h
  exact ⟨l, h1, ⟨L, h2.later (drew_below u q), h3⟩, ⟨h4.os, h4.tape, h4.output, h4.size, h4.block⟩⟩
end
set_option maxRecDepth 8000 in
set_option maxHeartbeats 1000000 in
theorem does_any {P : Nat → Prop} {w : World} {B K : Nat} {d : Dk} (h : Dsk P w B d K) (o : Opr) (ho : o.Ok) (hkv : LAtX (fun k => ¬ P k) w o.kv (ints o.keep)) (hkl : o.keep.length ≤ 17592186043904) :
    Calls Try.prog 9 #[.pointer (some ⟨B, 0, none⟩), .agg o.cells] w (DoesPost P w B d K o) := by
  obtain ⟨w1, hw1⟩ : ∃ w1, w.alloc (.cells o.cells 28) = w1 := ⟨_, rfl⟩
  have k1 : Below w.heap.size w w1 := by rw [← hw1]; exact (Below.refl _ _).alloc (Nat.le_refl _) _
  obtain ⟨A, hA⟩ : ∃ A, w.heap.size = A := ⟨_, rfl⟩
  have op1 : OpAt w1 A o := by rw [← hw1, ← hA]; exact heap_alloc_new w _
  have HD : Hid (Dsk P w B d K ∧ Below w.heap.size w w1) := ⟨h, k1⟩
  have HD1 : Hid (Dsk P w1 B d K) := h.later k1
  have HOP : Hid (OpAt w1 A o) := op1
  have HOK : Hid (o.Ok) := ho
  obtain ⟨c0, c2, c3, c4, c5, c10⟩ := op1.cellsAt
  obtain ⟨ka, kc, hk0, _⟩ := hkv.1
  have HKV : Hid (LAtX (fun k => ¬ P k) w1 o.kv (ints o.keep)) := hkv.keep (fun b _ hl => k1.block b hl)
  have HW : Hid (w.alloc (.cells o.cells 28) = w1 ∧ w.heap.size = A) := ⟨hw1, hA⟩
  obtain ⟨kind, dd, oa, ob, os, tm, nn, mm, oo, zz, kv, keep⟩ := o
  simp only at *
  unfold Opr.cells at HW ⊢
  simp only at HW ⊢
  subst hk0
  have HCK : Hid (∀ u j v, j ≤ 10 → w1.cell? ⟨A, j, none⟩ = some v → FrP P w1 u → u.cell? ⟨A, j, none⟩ = some v) := fun u j v _ hc hf => by rw [World.cell?_of_block (a := ⟨A, j, none⟩) (hf.block A op1.lt (fun x => by have := h.m.low A x; omega))]; exact hc
  have HC2 : Hid (∀ u, FrP P w1 u → u.cell? ⟨A, 2, none⟩ = some (.string oa)) := fun u hf => HCK.out u 2 _ (by omega) c2 hf
  have HC3 : Hid (∀ u, FrP P w1 u → u.cell? ⟨A, 3, none⟩ = some (.string ob)) := fun u hf => HCK.out u 3 _ (by omega) c3 hf
  clear h hw1 k1 hA op1 ho hkv HCK
  by_cases e0 : kind = 0
  · have t0 : (kind == (0 : Int)) = true := by simp; omega
    have HC := create_any HD1.out oa HOK.out.a
    have HC : Hid (Calls Try.prog 16 #[.pointer (some ⟨B, 0, none⟩), .string oa] w1 _) := HC
    have HE : Hid (kind = 0 ∧ True) := ⟨e0, trivial⟩
    clear e0 
    go_enter Try.func9, Try.ntmps9
    go_upto_region 1 with fail
    rw [HW.out.1, HW.out.2]
    go_wp2_with fail
    refine HC.out.mono ?_
    rintro e w2 hcase
    clear HC
    rcases hcase with ⟨h1, rfl, hb⟩ | ⟨h1, rfl, hd⟩
    · obtain ⟨x, hx⟩ : ∃ x, (if err d oa = 0 then 142 else 140) = x := ⟨_, rfl⟩
      have hx0 : ((x : Int) == 0) = false := by have : x = 142 ∨ x = 140 := by rw [← hx]; split <;> simp
                                                simp; omega
      rw [hx]
      have HP : Hid (DoesPost P w B d K ⟨kind, dd, oa, ob, os, tm, nn, mm, oo, zz, .slice ka (ints keep).length kc, keep⟩ (.returned (.tuple #[.int .i64 (((d, x, false)).2.1 : Nat), .bool ((d, x, false)).2.2])) w2) := by
        obtain ⟨e0, _⟩ := HE.out
        exact does_end HD.out.1 HD.out.2 [] ((d, x, false)) (by unfold doR; simp only; rw [if_pos e0]; rw [if_neg h1, hx]) rfl (dkto_no HD1.out hb)
      clear h1 hb hx
      go_wp2
      go_ret2
      exact HP.out
    · have HP : Hid (DoesPost P w B d K ⟨kind, dd, oa, ob, os, tm, nn, mm, oo, zz, .slice ka (ints keep).length kc, keep⟩ (.returned (.tuple #[.int .i64 (((Sf.create d oa, 0, true)).2.1 : Nat), .bool ((Sf.create d oa, 0, true)).2.2])) w2) := by
        obtain ⟨e0, _⟩ := HE.out
        exact does_end HD.out.1 HD.out.2 [] ((Sf.create d oa, 0, true)) (by unfold doR; simp only; rw [if_pos e0]; rw [if_pos h1]) rfl (hd)
      clear h1 hd
      go_wp2
      go_ret2
      exact HP.out
  by_cases e1 : kind = 1
  · have t0 : (kind == (0 : Int)) = false := by simp; omega
    have t1 : (kind == (1 : Int)) = true := by simp; omega
    have HTX : Hid (∀ v, Calls Try.prog 26 #[.agg #[.int .i64 kind, .int .i64 dd, .string oa, .string ob, .string os, .int .i64 tm, .int .i64 nn, .int .i64 mm, .int .i64 oo, .int .i64 zz, .slice ka (ints keep).length kc], .int .i64 70000] v (TextPost v)) := fun v => text_any ⟨kind, dd, oa, ob, os, tm, nn, mm, oo, zz, .slice ka (ints keep).length kc, keep⟩ HOK.out v
    have HAP : Hid (∀ v V l, Below w1.heap.size w1 v → LAt v V (uv l) → Calls Try.prog 17 #[.pointer (some ⟨B, 0, none⟩), .string oa, V] v fun e w' => ∃ x : Nat, e = .returned (.int .i64 (x : Nat)) ∧ DoesPost P w B d K ⟨kind, dd, oa, ob, os, tm, nn, mm, oo, zz, .slice ka (ints keep).length kc, keep⟩ (.returned (.tuple #[.int .i64 (x : Nat), .bool false])) w') := fun v V l hb hl => append_does HD.out.1 HD.out.2 hb ⟨kind, dd, oa, ob, os, tm, nn, mm, oo, zz, .slice ka (ints keep).length kc, keep⟩ HOK.out e0 e1 hl
    obtain ⟨c1, c6, c7, c8, c9⟩ := HOP.out.cellsMore
    simp only at c1 c6 c7 c8 c9
    clear e0 e1
    go_enter Try.func9, Try.ntmps9
    go_upto_region 1 with fail
    rw [HW.out.1, HW.out.2]
    go_wp2_with fail
    go_region_with (first
      | (go_at_call 26; refine (HTX.out _).mono ?_; rintro e v ⟨V, l, rfl, hl, hV, hb⟩; have HVL : Hid (LAt v V (uv l)) := owns_lat hV; have HVB : Hid (Below w1.heap.size w1 v) := ⟨hb.os, hb.tape, hb.output, hb.size, hb.block⟩; have c2v : v.cell? ⟨A, 2, none⟩ = some (.string oa) := cell_later HVB.out _ _ _ c2; obtain ⟨v1, v2, hvf⟩ := own_form hV; have HVF : Hid (V = .slice v1 l.length v2) := hvf; clear hl hV hb hvf)
      | (go_at_call 17; refine (HAP.out _ _ l HVB.out HVL.out).mono ?_; rintro e w2 ⟨x, rfl, hp⟩; have HP : Hid (DoesPost P w B d K ⟨kind, dd, oa, ob, os, tm, nn, mm, oo, zz, .slice ka (ints keep).length kc, keep⟩ (.returned (.tuple #[.int .i64 (x : Nat), .bool false])) w2) := hp; clear hp))
    all_goals go_wp2
    all_goals go_ret2
    all_goals exact HP.out
  by_cases e2 : kind = 2
  · have t0 : (kind == (0 : Int)) = false := by simp; omega
    have t1 : (kind == (1 : Int)) = false := by simp; omega
    have t2 : (kind == (2 : Int)) = true := by simp; omega
    have HC := cut_any HD1.out oa HOK.out.a
    have HC : Hid (Calls Try.prog 22 #[.pointer (some ⟨B, 0, none⟩), .string oa] w1 _) := HC
    have HE : Hid (kind = 2 ∧ ¬ kind = 0 ∧ ¬ kind = 1 ∧ True) := ⟨e2, e0, e1, trivial⟩
    clear e2 e0 e1
    go_enter Try.func9, Try.ntmps9
    go_upto_region 1 with fail
    rw [HW.out.1, HW.out.2]
    go_wp2_with fail
    refine HC.out.mono ?_
    rintro e w2 hcase
    clear HC
    rcases hcase with ⟨h1, rfl, hb⟩ | ⟨h1, f, hf, rfl, hd⟩
    · have HP : Hid (DoesPost P w B d K ⟨kind, dd, oa, ob, os, tm, nn, mm, oo, zz, .slice ka (ints keep).length kc, keep⟩ (.returned (.tuple #[.int .i64 (((d, err d oa, false)).2.1 : Nat), .bool ((d, err d oa, false)).2.2])) w2) := by
        obtain ⟨e2, e0, e1, _⟩ := HE.out
        exact does_end HD.out.1 HD.out.2 [] ((d, err d oa, false)) (by unfold doR; simp only; rw [if_neg e0, if_neg e1, if_pos e2]; rw [if_neg h1]) rfl (dkto_no HD1.out hb)
      clear h1 hb
      go_wp2
      go_ret2
      exact HP.out
    · have HP : Hid (DoesPost P w B d K ⟨kind, dd, oa, ob, os, tm, nn, mm, oo, zz, .slice ka (ints keep).length kc, keep⟩ (.returned (.tuple #[.int .i64 (((Sf.putI d (num d oa) (some (f.shorten 0)), 0, false)).2.1 : Nat), .bool ((Sf.putI d (num d oa) (some (f.shorten 0)), 0, false)).2.2])) w2) := by
        obtain ⟨e2, e0, e1, _⟩ := HE.out
        exact does_end HD.out.1 HD.out.2 [] ((Sf.putI d (num d oa) (some (f.shorten 0)), 0, false)) (by unfold doR; simp only; rw [if_neg e0, if_neg e1, if_pos e2]; rw [if_pos h1]; unfold onI; rw [hf]) rfl (DkTo.up hd (Nat.le_succ K))
      clear h1 hd hf
      go_wp2
      go_ret2
      exact HP.out
  by_cases e3 : kind = 3
  · have t0 : (kind == (0 : Int)) = false := by simp; omega
    have t1 : (kind == (1 : Int)) = false := by simp; omega
    have t2 : (kind == (2 : Int)) = false := by simp; omega
    have t3 : (kind == (3 : Int)) = true := by simp; omega
    have HC := rename_any HD1.out oa ob HOK.out.a HOK.out.b
    have HC : Hid (Calls Try.prog 20 #[.pointer (some ⟨B, 0, none⟩), .string oa, .string ob] w1 _) := HC
    have HE : Hid (kind = 3 ∧ ¬ kind = 0 ∧ ¬ kind = 1 ∧ ¬ kind = 2 ∧ True) := ⟨e3, e0, e1, e2, trivial⟩
    clear e3 e0 e1 e2
    go_enter Try.func9, Try.ntmps9
    go_upto_region 1 with fail
    rw [HW.out.1, HW.out.2]
    go_wp2_with fail
    refine HC.out.mono ?_
    rintro e w2 hcase
    clear HC
    obtain ⟨rfl, hc2⟩ := hcase
    obtain ⟨x, hx⟩ : ∃ x, renE d oa ob = x := ⟨_, rfl⟩
    rw [hx] at hc2 ⊢
    rcases hc2 with ⟨h1, hab, hd⟩ | ⟨h1, hb⟩
    · subst h1
      have hne : (oa.toList == ob.toList) = false := by rw [beq_bytes]; exact decide_eq_false hab
      have HP : Hid (DoesPost P w B d K ⟨kind, dd, oa, ob, os, tm, nn, mm, oo, zz, .slice ka (ints keep).length kc, keep⟩ (.returned (.tuple #[.int .i64 (((Sf.rename d oa ob, 0, true)).2.1 : Nat), .bool ((Sf.rename d oa ob, 0, true)).2.2])) w2) := by
        obtain ⟨e3, e0, e1, e2, _⟩ := HE.out
        exact does_end HD.out.1 HD.out.2 [] ((Sf.rename d oa ob, 0, true)) (by unfold doR; simp only; rw [if_neg e0, if_neg e1, if_neg e2, if_pos e3]; rw [if_pos ⟨hx, hab⟩]) rfl (hd)
      have c2' : w2.cell? ⟨A, 2, none⟩ = some (.string oa) := HC2.out w2 hd.2
      have c3' : w2.cell? ⟨A, 3, none⟩ = some (.string ob) := HC3.out w2 hd.2
      clear hd hx hab
      go_wp2_with fail
      go_quiet (fail)
      have HP2 : Hid (DoesPost P w B d K ⟨kind, dd, oa, ob, os, tm, nn, mm, oo, zz, .slice ka (ints keep).length kc, keep⟩ (.returned (.tuple #[.int .i64 0, .bool true])) (w2.drewN nq)) := does_drew HP.out
      go_wp2
      go_ret2
      exact HP2.out
    · have hc2' := cell_later hb _ _ _ c2
      have hc3' := cell_later hb _ _ _ c3
      by_cases hx0 : x = 0
      · subst hx0
        have hab : oa = ob := by
          rcases h1 with h1 | h1
          · exact absurd rfl h1
          · exact h1
        have hne : (oa.toList == ob.toList) = true := by rw [beq_bytes]; exact decide_eq_true hab
        have HP : Hid (DoesPost P w B d K ⟨kind, dd, oa, ob, os, tm, nn, mm, oo, zz, .slice ka (ints keep).length kc, keep⟩ (.returned (.tuple #[.int .i64 (((d, 0, false)).2.1 : Nat), .bool ((d, 0, false)).2.2])) w2) := by
          obtain ⟨e3, e0, e1, e2, _⟩ := HE.out
          exact does_end HD.out.1 HD.out.2 [] ((d, 0, false)) (by unfold doR; simp only; rw [if_neg e0, if_neg e1, if_neg e2, if_pos e3]; rw [if_neg (fun x => x.2 hab), hx]) rfl (dkto_no HD1.out hb)
        clear h1 hx hab hb
        go_wp2_with fail
        go_quiet (fail)
        have HP2 : Hid (DoesPost P w B d K ⟨kind, dd, oa, ob, os, tm, nn, mm, oo, zz, .slice ka (ints keep).length kc, keep⟩ (.returned (.tuple #[.int .i64 0, .bool false])) (w2.drewN nq)) := does_drew HP.out
        go_wp2
        go_ret2
        exact HP2.out
      · have hx1 : ((x : Int) == 0) = false := by simp; omega
        have HP : Hid (DoesPost P w B d K ⟨kind, dd, oa, ob, os, tm, nn, mm, oo, zz, .slice ka (ints keep).length kc, keep⟩ (.returned (.tuple #[.int .i64 (((d, x, false)).2.1 : Nat), .bool ((d, x, false)).2.2])) w2) := by
          obtain ⟨e3, e0, e1, e2, _⟩ := HE.out
          exact does_end HD.out.1 HD.out.2 [] ((d, x, false)) (by unfold doR; simp only; rw [if_neg e0, if_neg e1, if_neg e2, if_pos e3]; rw [if_neg (fun y => hx0 (hx.symm.trans y.1)), hx]) rfl (dkto_no HD1.out hb)
        clear h1 hx hb
        go_wp2_with fail
        go_quiet (fail)
        have HP2 : Hid (DoesPost P w B d K ⟨kind, dd, oa, ob, os, tm, nn, mm, oo, zz, .slice ka (ints keep).length kc, keep⟩ (.returned (.tuple #[.int .i64 (x : Nat), .bool false])) (w2.drewN nq)) := does_drew HP.out
        go_wp2
        go_ret2
        exact HP2.out
  by_cases e4 : kind = 4
  · have t0 : (kind == (0 : Int)) = false := by simp; omega
    have t1 : (kind == (1 : Int)) = false := by simp; omega
    have t2 : (kind == (2 : Int)) = false := by simp; omega
    have t3 : (kind == (3 : Int)) = false := by simp; omega
    have t4 : (kind == (4 : Int)) = true := by simp; omega
    have HC := remove_any HD1.out oa HOK.out.a
    have HC : Hid (Calls Try.prog 23 #[.pointer (some ⟨B, 0, none⟩), .string oa] w1 _) := HC
    have HE : Hid (kind = 4 ∧ ¬ kind = 0 ∧ ¬ kind = 1 ∧ ¬ kind = 2 ∧ ¬ kind = 3 ∧ True) := ⟨e4, e0, e1, e2, e3, trivial⟩
    clear e4 e0 e1 e2 e3
    go_enter Try.func9, Try.ntmps9
    go_upto_region 1 with fail
    rw [HW.out.1, HW.out.2]
    go_wp2_with fail
    refine HC.out.mono ?_
    rintro e w2 hcase
    clear HC
    rcases hcase with ⟨h1, rfl, hb⟩ | ⟨h1, f, hf, rfl, hd⟩
    · have HP : Hid (DoesPost P w B d K ⟨kind, dd, oa, ob, os, tm, nn, mm, oo, zz, .slice ka (ints keep).length kc, keep⟩ (.returned (.tuple #[.int .i64 (((d, err d oa, false)).2.1 : Nat), .bool ((d, err d oa, false)).2.2])) w2) := by
        obtain ⟨e4, e0, e1, e2, e3, _⟩ := HE.out
        exact does_end HD.out.1 HD.out.2 [] ((d, err d oa, false)) (by unfold doR; simp only; rw [if_neg e0, if_neg e1, if_neg e2, if_neg e3, if_pos e4]; rw [if_neg h1]) rfl (dkto_no HD1.out hb)
      clear h1 hb
      go_wp2
      go_ret2
      exact HP.out
    · have HP : Hid (DoesPost P w B d K ⟨kind, dd, oa, ob, os, tm, nn, mm, oo, zz, .slice ka (ints keep).length kc, keep⟩ (.returned (.tuple #[.int .i64 (((Sf.drop d (num d oa) f, 0, false)).2.1 : Nat), .bool ((Sf.drop d (num d oa) f, 0, false)).2.2])) w2) := by
        obtain ⟨e4, e0, e1, e2, e3, _⟩ := HE.out
        exact does_end HD.out.1 HD.out.2 [] ((Sf.drop d (num d oa) f, 0, false)) (by unfold doR; simp only; rw [if_neg e0, if_neg e1, if_neg e2, if_neg e3, if_pos e4]; rw [if_pos h1]; unfold dropN; rw [hf]) rfl (DkTo.up hd (Nat.le_succ K))
      clear h1 hd hf
      go_wp2
      go_ret2
      exact HP.out
  by_cases e5 : kind = 5
  · have t0 : (kind == (0 : Int)) = false := by simp; omega
    have t1 : (kind == (1 : Int)) = false := by simp; omega
    have t2 : (kind == (2 : Int)) = false := by simp; omega
    have t3 : (kind == (3 : Int)) = false := by simp; omega
    have t4 : (kind == (4 : Int)) = false := by simp; omega
    have t5 : (kind == (5 : Int)) = true := by simp; omega
    have HC := dsync_any HD1.out oa HOK.out.a
    have HC : Hid (Calls Try.prog 18 #[.pointer (some ⟨B, 0, none⟩), .string oa] w1 _) := HC
    have HE : Hid (kind = 5 ∧ ¬ kind = 0 ∧ ¬ kind = 1 ∧ ¬ kind = 2 ∧ ¬ kind = 3 ∧ ¬ kind = 4 ∧ True) := ⟨e5, e0, e1, e2, e3, e4, trivial⟩
    clear e5 e0 e1 e2 e3 e4
    go_enter Try.func9, Try.ntmps9
    go_upto_region 1 with fail
    rw [HW.out.1, HW.out.2]
    go_wp2_with fail
    refine HC.out.mono ?_
    rintro e w2 hcase
    clear HC
    rcases hcase with ⟨h1, rfl, hb⟩ | ⟨h1, f, hf, rfl, hd⟩
    · have HP : Hid (DoesPost P w B d K ⟨kind, dd, oa, ob, os, tm, nn, mm, oo, zz, .slice ka (ints keep).length kc, keep⟩ (.returned (.tuple #[.int .i64 (((d, err d oa, false)).2.1 : Nat), .bool ((d, err d oa, false)).2.2])) w2) := by
        obtain ⟨e5, e0, e1, e2, e3, e4, _⟩ := HE.out
        exact does_end HD.out.1 HD.out.2 [] ((d, err d oa, false)) (by unfold doR; simp only; rw [if_neg e0, if_neg e1, if_neg e2, if_neg e3, if_neg e4, if_pos e5]; rw [if_neg h1]) rfl (dkto_no HD1.out hb)
      clear h1 hb
      go_wp2
      go_ret2
      exact HP.out
    · have HP : Hid (DoesPost P w B d K ⟨kind, dd, oa, ob, os, tm, nn, mm, oo, zz, .slice ka (ints keep).length kc, keep⟩ (.returned (.tuple #[.int .i64 (((Sf.putI d (num d oa) (some f.sync), 0, false)).2.1 : Nat), .bool ((Sf.putI d (num d oa) (some f.sync), 0, false)).2.2])) w2) := by
        obtain ⟨e5, e0, e1, e2, e3, e4, _⟩ := HE.out
        exact does_end HD.out.1 HD.out.2 [] ((Sf.putI d (num d oa) (some f.sync), 0, false)) (by unfold doR; simp only; rw [if_neg e0, if_neg e1, if_neg e2, if_neg e3, if_neg e4, if_pos e5]; rw [if_pos h1]; unfold onI; rw [hf]) rfl (DkTo.up hd (Nat.le_succ K))
      clear h1 hd hf
      go_wp2
      go_ret2
      exact HP.out
  by_cases e10 : kind = 10
  · have t0 : (kind == (0 : Int)) = false := by simp; omega
    have t1 : (kind == (1 : Int)) = false := by simp; omega
    have t2 : (kind == (2 : Int)) = false := by simp; omega
    have t3 : (kind == (3 : Int)) = false := by simp; omega
    have t4 : (kind == (4 : Int)) = false := by simp; omega
    have t5 : (kind == (5 : Int)) = false := by simp; omega
    have t10 : (kind == (10 : Int)) = true := by simp; omega
    have HE : Hid (kind = 10 ∧ ¬ kind = 0 ∧ ¬ kind = 1 ∧ ¬ kind = 2 ∧ ¬ kind = 3 ∧ ¬ kind = 4 ∧ ¬ kind = 5 ∧ True) := ⟨e10, e0, e1, e2, e3, e4, e5, trivial⟩
    clear e10 e0 e1 e2 e3 e4 e5
    obtain ⟨nk, hnk⟩ : ∃ nk, (ints keep).length = nk := ⟨_, rfl⟩
    have HNK : Hid ((ints keep).length = nk ∧ nk ≤ 17592186043904) := ⟨hnk, by rw [← hnk, ints_len]; exact hkl⟩
    have hnk2 := HNK.out.2
    have HB : Hid (Below w1.heap.size w1 (w1.alloc (.cells #[] 3))) := (Below.refl _ _).alloc (Nat.le_refl _) _
    have HO : Hid ((w1.alloc (.cells #[] 3)).ownsRow w1.heap.size 3 1 (.slice (some ⟨w1.heap.size, 0, none⟩) 0 0) 0 []) := ⟨rfl, .inr ⟨w1.heap.size, 0, #[], rfl, Nat.le_refl _, heap_alloc_new w1 _, Nat.le_refl _, by decide, rfl, rfl⟩⟩
    have HL2 : Hid (LAt (w1.alloc (.cells #[] 3)) (.slice ka (ints keep).length kc) (ints keep)) := HKV.out.1.later HB.out
    rw [hnk] at HW HKV HL2 ⊢
    rw [hnk] at c10
    clear hnk
    have c10' := cell_later HB.out _ _ _ c10
    go_enter Try.func9, Try.ntmps9
    go_upto_region 1 with fail
    rw [HW.out.1, HW.out.2]
    go_wp2_with (first
      | (refine wpList_append_lat rfl (.tmp 66) (.tmp 68) rfl (.int .i64 0) 8 (by kernel_rfl) infI rfl w1.heap.size _ 0 [] rfl HO.out _ (ints keep) rfl HL2.out (fun u hu => by obtain ⟨z, _, rfl⟩ := List.mem_map.1 hu; rfl) (by rw [HNK.out.1]; unfold maxLen; omega) (by rw [HNK.out.1]; omega) HB.out.size ?_; intro V' w3 ho3 hg3 hn3 hh3; rw [HNK.out.1, Nat.zero_add, List.nil_append] at ho3; have HK3 : Hid (Below w1.heap.size w1 w3) := below_app HB.out hg3 (fun k e => by have e2 : some w1.heap.size = some k := e; injection e2 with e2; omega); have HC3' := dcrash_any (HD1.out.later HK3.out) (Kv := V') (keep := keep) (lx_own ho3 HD1.out.m.low) HOK.out.k; have HCC : Hid (Calls Try.prog 13 #[.pointer (some ⟨B, 0, none⟩), V'] w3 _) := HC3'; obtain ⟨v1, v2, rfl⟩ := own_form ho3; clear ho3 hg3 hn3 hh3 HC3' c10 c10')
      | fail)
    refine HCC.out.mono ?_
    rintro e w2 ⟨rfl, hd⟩
    have HP : Hid (DoesPost P w B d K ⟨kind, dd, oa, ob, os, tm, nn, mm, oo, zz, .slice ka nk kc, keep⟩ (.returned (.tuple #[.int .i64 0, .bool false])) w2) := by
      obtain ⟨e10, e0, e1, e2, e3, e4, e5, _⟩ := HE.out
      exact does_end HD.out.1 HD.out.2 [] (Sf.crash d keep, 0, false) (by unfold doR; simp only; rw [if_neg e0, if_neg e1, if_neg e2, if_neg e3, if_neg e4, if_neg e5, if_pos e10]) rfl (DkTo.of_below HD1.out.m.low HK3.out (DkTo.up hd (Nat.le_succ K)))
    clear hd HCC
    go_wp2
    go_ret2
    exact HP.out
  have t0 : (kind == (0 : Int)) = false := by simp; omega
  have t1 : (kind == (1 : Int)) = false := by simp; omega
  have t2 : (kind == (2 : Int)) = false := by simp; omega
  have t3 : (kind == (3 : Int)) = false := by simp; omega
  have t4 : (kind == (4 : Int)) = false := by simp; omega
  have t5 : (kind == (5 : Int)) = false := by simp; omega
  have t10 : (kind == (10 : Int)) = false := by simp; omega
  have HP : Hid (DoesPost P w B d K ⟨kind, dd, oa, ob, os, tm, nn, mm, oo, zz, .slice ka (ints keep).length kc, keep⟩ (.returned (.tuple #[.int .i64 0, .bool false])) w1) := does_end HD.out.1 HD.out.2 [] (d, 0, false) (by unfold doR; simp only; rw [if_neg e0, if_neg e1, if_neg e2, if_neg e3, if_neg e4, if_neg e5, if_neg e10]) rfl (dkto_no HD1.out (Below.refl _ _))
  clear e0 e1 e2 e3 e4 e5 e10
  go_enter Try.func9, Try.ntmps9
  go_upto_region 1 with fail
  rw [HW.out.1, HW.out.2]
  go_wp2
  go_ret2
  exact HP.out
end Go.Proofs.Ytjlfhaehdllmcaa
