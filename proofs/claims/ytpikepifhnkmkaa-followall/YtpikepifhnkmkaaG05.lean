/- simfs's inodes: synced, sync, lay, shorten. -/
import Derived.Test.YtpikepifhnkmkaaG04
namespace Go.Proofs.Ytpikepifhnkmkaa
open Go.RowKit Go.Maps Sf
attribute [local go_sem ↓] Go.wp_at_zero Go.wp_at_succ

theorem infB : (Try.prog.info? 5).map (fun i => (i.zero, i.size, i.bytes)) = some (some (.int .u8 0), 1, 1) := by kernel_rfl
theorem owns_nil (w : World) (B : Nat) (e : TypeId) : w.ownsRow B e 1 nilV 0 [] := ⟨rfl, .inl ⟨rfl, rfl⟩⟩
def IPost (a n : Nat) (V : Value) (f' : Ino) (w w' : World) : Prop := ∃ V', InoAt w' a n f' V' ∧ (∀ b, V'.ownBlock = some b → V.ownBlock = some b ∨ w.heap.size ≤ b) ∧ FrP (fun k => k = a ∨ V.ownBlock = some k) w w'
theorem LAt.take {w : World} {V : Value} {xs : List Value} {a : Option Addr} {n c k : Nat} (h : LAt w V xs) (e : V = .slice a n c) (hk : k ≤ n) : LAt w (.slice a k c) (xs.take k) := by
  obtain ⟨a', c', e', h1, h2, h3⟩ := h
  rw [e] at e'
  cases e'
  refine ⟨a, c, by rw [List.length_take, Nat.min_eq_left hk], by rw [List.length_take]; omega, h2, ?_⟩
  rcases h3 with rfl | ⟨b, off, ea, hc⟩
  · exact .inl (by simp)
  · refine .inr ⟨b, off, ea, fun j v hj => hc j v ?_⟩
    by_cases hjk : j < k
    · rwa [List.getElem?_take_of_lt hjk] at hj
    · rw [List.getElem?_take_eq_none (by omega)] at hj
      cases hj
theorem own_form {u : World} {base : Nat} {t : TypeId} {sz : Nat} {V : Value} {k : Nat} {xs : List Value} (hr : u.ownsRow base t sz V k xs) : ∃ a c, V = .slice a k c := by
  rcases hr.2 with ⟨rfl, h0⟩ | ⟨g, cap, cur, rfl, _⟩
  · exact ⟨none, 0, by rw [h0]⟩
  · exact ⟨_, _, rfl⟩
theorem inoB_cells {w : World} {a n : Nat} {f : Ino} {V : Value} (h : w.heap[a]? = some (.cells (inoC n f V) 86 (0, 0))) : w.cell? ⟨a, 0, none⟩ = some (.int .i64 (n : Nat)) ∧ w.cell? ⟨a, 1, none⟩ = some (.string f.nm) ∧ w.cell? ⟨a, 2, none⟩ = some (.int .i64 (f.gen : Nat)) ∧ w.cell? ⟨a, 3, none⟩ = some V ∧ w.cell? ⟨a, 4, none⟩ = some (.int .i64 (f.ls : Nat)) := by
  simp [World.cell?, h, inoC]
theorem inoB_frozen {w : World} {a n : Nat} {f : Ino} {V : Value} (h : w.heap[a]? = some (.cells (inoC n f V) 86 (0, 0))) (j : Nat) : w.frozen? ⟨a, j, none⟩ = false := by simp [World.frozen?, h]
theorem nil_no {k : Nat} (h : (Value.slice none 0 0).ownBlock = some k) : False := by cases h
/-- an inode's bytes are appended to, and stored -/
theorem ino_app {w w' : World} {a n : Nat} {f f' : Ino} {V V' : Value} (h : InoAt w a n f V) {q : Option Nat} (hg : w.grownBy w' q) (hq : ∀ k, q = some k → V.ownBlock = some k) (ho : OwnB w' V' f'.bs) (hh : Here w V V') (hc : inoC n f' V' = (inoC n f V).setIfInBounds 3 V') :
    Hid (IPost a n V f' w (w'.setCell ⟨a, 3, none⟩ V')) ∧ Hid (w'.heap[a]? = some (.cells (inoC n f V) 86 (0, 0))) ∧ w'.frozen? ⟨a, 3, none⟩ = false ∧ w'.cell? ⟨a, 3, none⟩ = some V := by
  have hba : w'.heap[a]? = w.heap[a]? := hg.block a h.lt (fun e => h.ne (hq a e.symm) rfl)
  have hb' : w'.heap[a]? = some (.cells (inoC n f V) 86 (0, 0)) := hba.trans h.b
  refine ⟨⟨V', ⟨by rw [heap_set hb', hc], ho.keep fun k hk _ => Below.heap_setCell w' ⟨a, 3, none⟩ V' k (fun e => ?_)⟩, hh, FrP.set ⟨hg.os, hg.tape, hg.output, hg.size, fun k hk hn => hg.block k hk (fun e => hn (.inr (hq k e.symm)))⟩ (fun _ => .inl rfl) 3 V'⟩, hb', by simp [World.frozen?, hb'], by simp [World.cell?, hb', inoC]⟩
  subst e
  exact absurd (TyB.ne (ho.ty hk).1 ⟨_, _, hb'⟩) (by decide)
theorem IPost.set {a n : Nat} {V : Value} {f1 f2 : Ino} {w u : World} (h : IPost a n V f1 w u) (j : Nat) (x : Value) (hc : ∀ V', (inoC n f1 V').setIfInBounds j x = inoC n f2 V') (hb : f2.bs = f1.bs) : IPost a n V f2 w (u.setCell ⟨a, j, none⟩ x) := by
  obtain ⟨V', h1, h2, h3⟩ := h
  exact ⟨V', h1.set j x (hc V') (by rw [hb]; exact h1.v), h2, h3.set (fun _ => .inl rfl) j x⟩
set_option maxRecDepth 8000 in
theorem synced_any {w : World} {a n : Nat} {f : Ino} {V : Value} (h : InoAt w a n f V) :
    Calls Try.prog 50 #[.pointer (some ⟨a, 0, none⟩)] w fun e w' => e = .returned (.bool (decide (f.ls = f.bs.length))) ∧ Below w.heap.size w w' := by
  obtain ⟨va, vc, rfl, hv1, hv2⟩ := h.v.form
  obtain ⟨c0, c1, c2, c3, c4⟩ := h.cells
  obtain ⟨lf, hlf⟩ : ∃ lf, f.bs.length = lf := ⟨_, rfl⟩
  obtain ⟨ls, hls⟩ : ∃ ls, f.ls = ls := ⟨_, rfl⟩
  rw [hlf] at c3 hv1 ⊢
  rw [hls] at c4 ⊢
  have hbq : ((ls : Int) == (lf : Int)) = decide (ls = lf) := by rw [Bool.eq_iff_iff]; simp; omega
  have HBQ : Hid (((ls : Int) == (lf : Int)) = decide (ls = lf)) := hbq
  clear h hlf hls hbq
  go_enter Try.func50, Try.ntmps50
  go_wp2_with fail
  go_quiet (fail)
  have HK2 : Hid (Below w.heap.size w (w.drewN nq)) := ⟨rfl, rfl, rfl, Nat.le_refl _, fun _ _ => rfl⟩
  go_wp2
  go_ret
  exact ⟨congrArg (fun b => Ending.returned (.bool b)) HBQ.out, HK2.out⟩
set_option maxRecDepth 8000 in
theorem sync_any {w : World} {a n : Nat} {f : Ino} {V : Value} (h : InoAt w a n f V) :
    Calls Try.prog 47 #[.pointer (some ⟨a, 0, none⟩)] w fun e w' => e = .returned (.tuple #[]) ∧ IPost a n V f.sync w w' := by
  have HE : Hid (IPost a n V f.sync w (w.setCell ⟨a, 4, none⟩ (.int .i64 (f.bs.length : Nat)))) := ⟨V, h.set 4 _ (by simp [inoC, Ino.sync]) h.v, fun b hb => .inl hb, (FrP.refl _ w).set (fun _ => .inl rfl) 4 _⟩
  obtain ⟨va, vc, rfl, hv1, hv2⟩ := h.v.form
  obtain ⟨c0, c1, c2, c3, c4⟩ := h.cells
  have q4 := h.frozen 4
  obtain ⟨lf, hlf⟩ : ∃ lf, f.bs.length = lf := ⟨_, rfl⟩
  rw [hlf] at c3 hv1 HE ⊢
  clear h hlf
  go_enter Try.func47, Try.ntmps47
  go_wp2
  first | go_end0 | (simp only [Exit.inBlock, Exit.then]; refine bodyPost_ret (results_none rfl _ _ _) rfl ?_) | refine bodyPost_ret (results_none rfl _ _ _) rfl ?_
  exact ⟨rfl, HE.out⟩
set_option maxRecDepth 8000 in
theorem lay_any {w : World} {a n : Nat} {f : Ino} {V : Value} (h : InoAt w a n f V) (hl : f.bs.length ≤ 1048576) {Y : Value} {b : List UInt8} (hY : LAt w Y (uv b)) :
    Calls Try.prog 29 #[.pointer (some ⟨a, 0, none⟩), Y] w fun e w' => (1048576 < f.bs.length + b.length ∧ e = .returned (.int .i64 145) ∧ w' = w) ∨ (f.bs.length + b.length ≤ 1048576 ∧ e = .returned (.int .i64 0) ∧ IPost a n V (f.lay b) w w') := by
  have HI : Hid (InoAt w a n f V) := h
  have HY : Hid (LAt w Y (uv b)) := hY
  obtain ⟨va, vc, rfl, hv1, hv2⟩ := h.v.form
  obtain ⟨ya, yc, rfl, hy1, hy2, _⟩ := hY
  rw [uv_len] at hy1 HY ⊢
  obtain ⟨c0, c1, c2, c3, c4⟩ := h.cells
  have q3 := h.frozen 3
  have HLF : Hid (f.bs.length ≤ 1048576) := hl
  obtain ⟨lf, hlf⟩ : ∃ lf, f.bs.length = lf := ⟨_, rfl⟩
  obtain ⟨lb, hlb⟩ : ∃ lb, b.length = lb := ⟨_, rfl⟩
  have HLL : Hid (f.bs.length = lf ∧ b.length = lb) := ⟨hlf, hlb⟩
  rw [hlf] at c3 hv1 hl HI ⊢
  rw [hlb] at hy1 HY ⊢
  clear h hlf hlb
  go_enter Try.func29, Try.ntmps29
  by_cases hg : (1048576 : Int) - (lf : Nat) < (lb : Nat)
  · go_wp2
    go_ret
    exact .inl ⟨by omega, rfl, rfl⟩
  · have HV : Hid (w.ownsRow 0 5 1 (.slice va lf vc) lf (uv f.bs)) := by have := HI.out.v; unfold OwnB at this; rw [HLL.out.1] at this; exact this
    go_wp2_with (refine wpList_append_lat rfl (.tmp 18) (.tmp 19) rfl (.int .u8 0) 1 (by kernel_rfl) infB rfl 0 _ lf (uv f.bs) rfl HV.out _ (uv b) rfl HY.out (uv_one b) (by rw [uv_len, HLL.out.2]; unfold maxLen; omega) (by rw [uv_len, HLL.out.2]; omega) (Nat.zero_le _) ?_; intro V' w' ho hgr hnl hh; rw [uv_len, HLL.out.2] at ho; obtain ⟨v1, v2, rfl⟩ := own_form ho; obtain ⟨HE, HB, q3', c3'⟩ := ino_app (f' := f.lay b) HI.out hgr (fun _ e => e) (by unfold OwnB; rw [show (f.lay b).bs = f.bs ++ b from rfl, uv_app, List.length_append, HLL.out.1, HLL.out.2]; exact ho) hh rfl; clear HB; clear hnl ho hgr hh c3 q3)
    go_ret
    exact .inr ⟨by omega, rfl, HE.out⟩
set_option maxRecDepth 8000 in
theorem shorten_any {w : World} {a n : Nat} {f : Ino} {V : Value} (h : InoAt w a n f V) (hl : f.bs.length ≤ 1048576) (hls : f.ls ≤ 1048576) (hgen : f.gen < 4611686018427387904) {k : Nat} (hk : k ≤ f.bs.length) :
    Calls Try.prog 46 #[.pointer (some ⟨a, 0, none⟩), .int .i64 (k : Nat)] w fun e w' => e = .returned (.tuple #[]) ∧ IPost a n V (f.shorten k) w w' := by
  have HI : Hid (InoAt w a n f V) := h
  obtain ⟨va, vc, rfl, hv1, hv2⟩ := h.v.form
  have HLA : Hid (LAt w (.slice va k vc) ((uv f.bs).take k)) := (owns_lat h.v).take rfl hk
  obtain ⟨c0, c1, c2, c3, c4⟩ := h.cells
  have q3 := h.frozen 3
  have q4 := h.frozen 4
  have q2 := h.frozen 2
  obtain ⟨lf, hlf⟩ : ∃ lf, f.bs.length = lf := ⟨_, rfl⟩
  have HLL : Hid (f.bs.length = lf) := hlf
  rw [hlf] at c3 hv1 hl hk HI ⊢
  by_cases hg : k = lf
  · have e1 : f.shorten k = f := by unfold Ino.shorten; rw [hlf, if_pos hg]
    have HE : Hid (IPost a n (.slice va lf vc) (f.shorten k) w w) := by rw [e1]; exact ⟨_, HI.out, fun b hb => .inl hb, FrP.refl _ w⟩
    have hg' : ((k : Int) == (lf : Int)) = true := by simp; omega
    clear h hlf e1
    go_enter Try.func46, Try.ntmps46
    go_wp2
    first | go_end0 | (simp only [Exit.inBlock, Exit.then]; refine bodyPost_ret (results_none rfl _ _ _) rfl ?_) | refine bodyPost_ret (results_none rfl _ _ _) rfl ?_
    exact ⟨rfl, HE.out⟩
  · have hg' : ((k : Int) == (lf : Int)) = false := by simp; omega
    obtain ⟨g, rfl⟩ : ∃ g, va = some ⟨g, 0, none⟩ := by
      rcases h.v.2 with ⟨e, h0⟩ | ⟨g, cap, cur, e, _⟩
      · omega
      · exact ⟨g, (Value.slice.inj e).1⟩
    obtain ⟨gn, hgn⟩ : ∃ gn, f.gen = gn := ⟨_, rfl⟩
    obtain ⟨ls, hlsn⟩ : ∃ ls, f.ls = ls := ⟨_, rfl⟩
    have HFS : Hid (f.shorten k = ⟨f.nm, gn + 1, f.bs.take k, min ls k⟩) := by show _ = _; unfold Ino.shorten; rw [hlf, if_neg hg, hgn, hlsn]
    have HCC : Hid (f.gen = gn ∧ f.ls = ls) := ⟨hgn, hlsn⟩
    rw [hgn] at c2 hgen
    rw [hlsn] at c4 hls
    have HTL : Hid (((uv f.bs).take k).length = k) := by show _ = _; rw [List.length_take, uv_len, hlf]; omega
    clear h hlf hg hgn hlsn
    by_cases hlk : ls ≤ k
    · have HMK : Hid (min ls k = ls) := Nat.min_eq_left hlk
      have hlk' : (ls : Int) ≤ (k : Int) := by omega
      go_enter Try.func46, Try.ntmps46
      go_wp2_with (refine wpList_append_lat rfl (.const (.slice none 0 0)) (.tmp 17) rfl (.int .u8 0) 1 (by kernel_rfl) infB rfl 0 _ 0 [] rfl (owns_nil w 0 5) _ ((uv f.bs).take k) rfl HLA.out (fun u hu => uv_one f.bs u (List.mem_of_mem_take hu)) (by rw [HTL.out]; unfold maxLen; omega) (by rw [HTL.out]; omega) (Nat.zero_le _) ?_; intro V' w' ho hgr hnl hh; rw [HTL.out, Nat.zero_add, List.nil_append, ← uv_take] at ho; obtain ⟨v1, v2, rfl⟩ := own_form ho; obtain ⟨HE, HB, q3', c3'⟩ := ino_app (f' := ⟨f.nm, f.gen, f.bs.take k, f.ls⟩) HI.out hgr (fun _ e => (nil_no e).elim) (by unfold OwnB; rw [show ((⟨f.nm, f.gen, f.bs.take k, f.ls⟩ : Ino)).bs = f.bs.take k from rfl, List.length_take, HLL.out, Nat.min_eq_left hk]; exact ho) (fun b hb => .inr ((hh b hb).resolve_left nil_no)) rfl; clear hnl ho hgr hh c3 q3; obtain ⟨_, _, c2', _, c4'⟩ := inoB_cells HB.out; rw [HCC.out.1] at c2'; rw [HCC.out.2] at c4'; have q4' := inoB_frozen HB.out 4; have q2' := inoB_frozen HB.out 2; clear HB q4 q2 c4 c2)
      first | go_end0 | (simp only [Exit.inBlock, Exit.then]; refine bodyPost_ret (results_none rfl _ _ _) rfl ?_) | refine bodyPost_ret (results_none rfl _ _ _) rfl ?_
      refine ⟨rfl, ?_⟩
      rw [HFS.out]
      rw [HMK.out]
      have h1 := HE.out.set (f2 := ⟨f.nm, f.gen, f.bs.take k, ls⟩) 4 (.int .i64 (ls : Nat)) (fun V' => by simp [inoC]) rfl
      exact h1.set (f2 := ⟨f.nm, gn + 1, f.bs.take k, ls⟩) 2 (.int .i64 ((gn : Int) + 1)) (fun V' => by simp [inoC]) rfl

    · have HMK : Hid (min ls k = k) := Nat.min_eq_right (by omega)
      have hlk' : (k : Int) < (ls : Int) := by omega
      go_enter Try.func46, Try.ntmps46
      go_wp2_with (refine wpList_append_lat rfl (.const (.slice none 0 0)) (.tmp 17) rfl (.int .u8 0) 1 (by kernel_rfl) infB rfl 0 _ 0 [] rfl (owns_nil w 0 5) _ ((uv f.bs).take k) rfl HLA.out (fun u hu => uv_one f.bs u (List.mem_of_mem_take hu)) (by rw [HTL.out]; unfold maxLen; omega) (by rw [HTL.out]; omega) (Nat.zero_le _) ?_; intro V' w' ho hgr hnl hh; rw [HTL.out, Nat.zero_add, List.nil_append, ← uv_take] at ho; obtain ⟨v1, v2, rfl⟩ := own_form ho; obtain ⟨HE, HB, q3', c3'⟩ := ino_app (f' := ⟨f.nm, f.gen, f.bs.take k, f.ls⟩) HI.out hgr (fun _ e => (nil_no e).elim) (by unfold OwnB; rw [show ((⟨f.nm, f.gen, f.bs.take k, f.ls⟩ : Ino)).bs = f.bs.take k from rfl, List.length_take, HLL.out, Nat.min_eq_left hk]; exact ho) (fun b hb => .inr ((hh b hb).resolve_left nil_no)) rfl; clear hnl ho hgr hh c3 q3; obtain ⟨_, _, c2', _, c4'⟩ := inoB_cells HB.out; rw [HCC.out.1] at c2'; rw [HCC.out.2] at c4'; have q4' := inoB_frozen HB.out 4; have q2' := inoB_frozen HB.out 2; clear HB q4 q2 c4 c2)
      first | go_end0 | (simp only [Exit.inBlock, Exit.then]; refine bodyPost_ret (results_none rfl _ _ _) rfl ?_) | refine bodyPost_ret (results_none rfl _ _ _) rfl ?_
      refine ⟨rfl, ?_⟩
      rw [HFS.out]
      rw [HMK.out]
      have h1 := HE.out.set (f2 := ⟨f.nm, f.gen, f.bs.take k, k⟩) 4 (.int .i64 (k : Nat)) (fun V' => by simp [inoC]) rfl
      exact h1.set (f2 := ⟨f.nm, gn + 1, f.bs.take k, k⟩) 2 (.int .i64 ((gn : Int) + 1)) (fun V' => by simp [inoC]) rfl

end Go.Proofs.Ytpikepifhnkmkaa
