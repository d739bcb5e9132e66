/- heronlaw12.known: the chapter's first example, there and back. -/
import Derived.Test.YtdngileimmgdnaaDoorG12
import Derived.Test.YtdngileimmgdnaaDoorG19
namespace Go.Proofs.YtdngileimmgdnaaDoor
open Go Go.RowKit
attribute [local go_sem ↓] Go.wp_at_zero Go.wp_at_succ

/-- a value that is the example's table -/
def OneV (v : Value) (w : World) : Prop := ∃ V1 V2 V3 Us, v = .agg (dv (fun _ => 0) V1 V2 V3) ∧ DfAt w oneT V1 V2 V3 Us
theorem OneV.later {v : Value} {w w' : World} (h : OneV v w) (hb : Below w.heap.size w w') : OneV v w' := by
  obtain ⟨V1, V2, V3, Us, e, hd⟩ := h
  exact ⟨V1, V2, V3, Us, e, hd.later hb⟩
theorem r64_one : R64 oneT.cl := fun i _ => by simp [oneT]
section
variable {o : Oper} {a : Act} {w : World} {r : Value → World → Prop} {Q : Exit → Act → World → Prop}
theorem ob_load_dfa {p D : Nat} {f : Nat → Int} {V1 V2 V3 : Value} (ho : o.op = .load 26 (.tmp p)) (hp : T a p = .pointer (some ⟨D, 0, none⟩)) (h : DB w D f V1 V2 V3) (hr : r (.agg (dv f V1 V2 V3)) w) : o.wp Tryd.prog a w (Leaves r o a w) Q := by
  obtain ⟨fs, hu⟩ := underD
  refine wp_load_row _ (.tmp p) ho D (by simpa [Act.eval] using hp) _ _ (0, 0) _ h hu rfl (by rw [dv_size]; exact sizeD) ⟨_, rfl, Below.refl _ _, hr⟩
theorem ob_call0 {f : Nat} {ts : Array TypeId} (ho : o.op = .call { callee := .value (.func f), args := #[], argTypes := ts }) (hf : Enters f) (hc : Calls Tryd.prog f #[] w fun e w' => ∃ v, e = .returned v ∧ Below w.heap.size w w' ∧ r v w') : o.wp Tryd.prog a w (Leaves r o a w) Q := by
  obtain ⟨dst, op, type, pos, after, guard⟩ := o
  simp only at ho
  subst ho
  refine ob_enter (args := #[]) ?_ hc
  simp [go_sem]
  exact hf _ _
end
def RK3 (a : Option Addr) (n : Nat) (cap : Nat) (zs : List Int) (f : Nat → Int) (V1 : Value) (V2 : Value) (V3 : Value) : Nat → Value → World → Prop
  | 0, v, _ => v = .int .i64 0
  | 1, v, _ => v = .bool true
  | 2, v, _ => v = .bool true
  | 3, v, _ => v = .slice a n cap
  | 4, v, _ => v = .int .i64 (n : Nat)
  | 5, v, _ => v = .bool true
  | 6, v, _ => v = .bool true
  | 7, v, _ => v = .bool true
  | 8, v, _ => v = .slice a n cap
  | 9, v, _ => v = .slice a 14 cap
  | 10, v, _ => v = .string (strOfNums zs)
  | 11, v, _ => v = .bool true
  | 12, v, _ => v = .bool true
  | 13, v, _ => v = .bool true
  | 14, v, _ => v = .int .i64 0
  | 15, v, _ => v = .bool true
  | 16, v, _ => v = .bool true
  | 17, v, _ => v = .bool true
  | 18, v, _ => v = .agg (dv f V1 V2 V3)
  | 19, v, w => OneV v w
  | 20, v, _ => v = .bool true
  | 21, v, _ => v = .bool true
  | 22, v, _ => v = .bool true
  | _, _, _ => True
def FK3 (a : Option Addr) (n : Nat) (cap : Nat) (P : Nat) (x : Act) : Prop := x.tmps.size = 37 ∧ x.defers = [] ∧ T x 1 = .slice a n cap ∧ T x 2 = .int .i64 0 ∧ T x 3 = .pointer (some ⟨P, 0, none⟩) ∧ T x 4 = .int .i64 0
def DK3 : Nat → Nat | 0 => 15 | 1 => 16 | 2 => 17 | 3 => 18 | 4 => 19 | 5 => 20 | 6 => 21 | 7 => 22 | 8 => 23 | 9 => 24 | 10 => 25 | 11 => 26 | 12 => 27 | 13 => 28 | 14 => 29 | 15 => 30 | 16 => 31 | 17 => 32 | 18 => 33 | 19 => 34 | 20 => 35 | 21 => 36 | 22 => 0 | _ => 37
set_option maxRecDepth 100000 in
set_option maxHeartbeats 4000000 in
theorem dutiesK3 (a : Option Addr) (n : Nat) (cap : Nat) (zs : List Int) (P : Nat) (f : Nat → Int) (V1 : Value) (V2 : Value) (V3 : Value) {w0 : World} {g : Nat} {nx : List (List Int)} {fo en : List Nat} {Us : List Value} (ha : a = some ⟨g, 0, none⟩) (hn : n = 284) (hc : 284 ≤ cap) (hz : 14 = zs.length) (hbz : BytesAt w0 a zs) (hs : strOfNums zs = ByteArray.mk #[72, 69, 82, 79, 78, 68, 70, 49, 1, 0, 0, 0, 1, 0]) (hD : DB w0 P f V1 V2 V3) (hTT : DfAt w0 ⟨f, nx, fo, en⟩ V1 V2 V3 Us) (hR : R64 f) (hS : sameT ⟨f, nx, fo, en⟩ oneT = true) : AllFrom (Duty Tryd.prog (opsOf Tryd.f7 3) w0 DK3 (RK3 a n cap zs f V1 V2 V3) (FK3 a n cap P)) 0 (opsOf Tryd.f7 3).toList := by
  refine ⟨duty_free rfl (by simp) rfl (fun act w hF _ _ _ => by have f2 : T act 2 = .int .i64 0 := hF.2.2.2.1; exact ob_value (v := .int .i64 0) (w' := w) (by simp [execOp, Act.eval, go_sem, f2]) (Below.refl _ _) rfl), ?_⟩
  refine ⟨duty_free rfl (by simp) rfl (fun act w _ _ hE _ => by have h0 : T act 15 = .int .i64 0 := hE ⟨0, .data⟩ (by simp) rfl; exact ob_value (v := .bool true) (w' := w) (by simp [execOp, Act.eval, go_sem, h0]) (Below.refl _ _) rfl), ?_⟩
  refine ⟨duty_free rfl (by simp) rfl (fun act w _ _ hE _ => by have h1 : T act 16 = .bool true := hE ⟨1, .data⟩ (by simp) rfl; exact ob_value (v := .bool true) (w' := w) (by simp [execOp, Act.eval, go_sem, h1]) (Below.refl _ _) rfl), ?_⟩
  refine ⟨duty_met (j := 2) (b := true) rfl (by simp) rfl rfl (by simp) (fun _ _ h => h) (fun act w hF _ _ _ => by have f1 : T act 1 = .slice a n cap := hF.2.2.1; exact ob_value (v := .slice a n cap) (w' := w) (by simp [execOp, Act.eval, go_sem, f1]) (Below.refl _ _) rfl), ?_⟩
  refine ⟨duty_met (j := 2) (b := true) rfl (by simp) rfl rfl (by simp) (fun _ _ h => h) (fun act w _ _ hE _ => by have h3 : T act 18 = .slice a n cap := hE ⟨3, .data⟩ (by simp) rfl; exact ob_value (v := .int .i64 (n : Nat)) (w' := w) (by simp [Act.eval, go_sem, h3]) (Below.refl _ _) rfl), ?_⟩
  refine ⟨duty_met (j := 2) (b := true) rfl (by simp) rfl rfl (by simp) (fun _ _ h => h) (fun act w _ _ hE _ => by have h4 : T act 19 = .int .i64 (n : Nat) := hE ⟨4, .data⟩ (by simp) rfl; exact ob_value (v := .bool true) (w' := w) (by simp [execOp, Act.eval, go_sem, h4, hn]) (Below.refl _ _) rfl), ?_⟩
  refine ⟨duty_free rfl (by simp) rfl (fun act w _ _ hE _ => by have h2 : T act 17 = .bool true := hE ⟨2, .data⟩ (by simp) rfl; have h5 : T act 20 = .bool true := hE ⟨5, .data⟩ (by simp) rfl; exact ob_value (v := .bool true) (w' := w) (by simp [execOp, Act.eval, go_sem, h2, h5]) (Below.refl _ _) rfl), ?_⟩
  refine ⟨duty_free rfl (by simp) rfl (fun act w _ _ hE _ => by have h6 : T act 21 = .bool true := hE ⟨6, .data⟩ (by simp) rfl; exact ob_value (v := .bool true) (w' := w) (by simp [execOp, Act.eval, go_sem, h6]) (Below.refl _ _) rfl), ?_⟩
  refine ⟨duty_met (j := 7) (b := true) rfl (by simp) rfl rfl (by simp) (fun _ _ h => h) (fun act w hF _ _ _ => by have f1 : T act 1 = .slice a n cap := hF.2.2.1; exact ob_value (v := .slice a n cap) (w' := w) (by simp [execOp, Act.eval, go_sem, f1]) (Below.refl _ _) rfl), ?_⟩
  refine ⟨duty_met (j := 7) (b := true) rfl (by simp) rfl rfl (by simp) (fun _ _ h => h) (fun act w _ _ hE _ => by have h8 : T act 23 = .slice a n cap := hE ⟨8, .data⟩ (by simp) rfl; exact ob_value (v := .slice a 14 cap) (w' := w) (by rw [ha] at h8 ⊢; simp [execOp, Act.eval, go_sem, h8]; omega) (Below.refl _ _) rfl), ?_⟩
  refine ⟨duty_met (j := 7) (b := true) rfl (by simp) rfl rfl (by simp) (fun _ _ h => h) (fun act w _ hB hE _ => by have h9 : T act 24 = .slice a 14 cap := hE ⟨9, .data⟩ (by simp) rfl; exact ob_value (v := .string (strOfNums zs)) (w' := w) (by simp [execOp, Act.eval, go_sem, h9, conv_string w a 14 cap zs hz (bytesAt_later hB hbz)]) (Below.refl _ _) rfl), ?_⟩
  refine ⟨duty_met (j := 7) (b := true) rfl (by simp) rfl rfl (by simp) (fun _ _ h => h) (fun act w _ _ hE _ => by have h10 : T act 25 = .string (strOfNums zs) := hE ⟨10, .data⟩ (by simp) rfl; exact ob_value (v := .bool true) (w' := w) (by simp [execOp, Act.eval, go_sem, h10, hs]) (Below.refl _ _) rfl), ?_⟩
  refine ⟨duty_free rfl (by simp) rfl (fun act w _ _ hE _ => by have h7 : T act 22 = .bool true := hE ⟨7, .data⟩ (by simp) rfl; have h11 : T act 26 = .bool true := hE ⟨11, .data⟩ (by simp) rfl; exact ob_value (v := .bool true) (w' := w) (by simp [execOp, Act.eval, go_sem, h7, h11]) (Below.refl _ _) rfl), ?_⟩
  refine ⟨duty_free rfl (by simp) rfl (fun act w _ _ hE _ => by have h12 : T act 27 = .bool true := hE ⟨12, .data⟩ (by simp) rfl; exact ob_value (v := .bool true) (w' := w) (by simp [execOp, Act.eval, go_sem, h12]) (Below.refl _ _) rfl), ?_⟩
  refine ⟨duty_met (j := 13) (b := true) rfl (by simp) rfl rfl (by simp) (fun _ _ h => h) (fun act w hF _ _ _ => by have f4 : T act 4 = .int .i64 0 := hF.2.2.2.2.2; exact ob_value (v := .int .i64 0) (w' := w) (by simp [execOp, Act.eval, go_sem, f4]) (Below.refl _ _) rfl), ?_⟩
  refine ⟨duty_met (j := 13) (b := true) rfl (by simp) rfl rfl (by simp) (fun _ _ h => h) (fun act w _ _ hE _ => by have h14 : T act 29 = .int .i64 0 := hE ⟨14, .data⟩ (by simp) rfl; exact ob_value (v := .bool true) (w' := w) (by simp [execOp, Act.eval, go_sem, h14]) (Below.refl _ _) rfl), ?_⟩
  refine ⟨duty_free rfl (by simp) rfl (fun act w _ _ hE _ => by have h13 : T act 28 = .bool true := hE ⟨13, .data⟩ (by simp) rfl; have h15 : T act 30 = .bool true := hE ⟨15, .data⟩ (by simp) rfl; exact ob_value (v := .bool true) (w' := w) (by simp [execOp, Act.eval, go_sem, h13, h15]) (Below.refl _ _) rfl), ?_⟩
  refine ⟨duty_free rfl (by simp) rfl (fun act w _ _ hE _ => by have h16 : T act 31 = .bool true := hE ⟨16, .data⟩ (by simp) rfl; exact ob_value (v := .bool true) (w' := w) (by simp [execOp, Act.eval, go_sem, h16]) (Below.refl _ _) rfl), ?_⟩
  refine ⟨duty_met (j := 17) (b := true) rfl (by simp) rfl rfl (by simp) (fun _ _ h => h) (fun act w hF hB _ _ => by have f3 : T act 3 = .pointer (some ⟨P, 0, none⟩) := hF.2.2.2.2.1; exact ob_load_dfa rfl f3 (hD.later hB) rfl), ?_⟩
  refine ⟨duty_met (j := 17) (b := true) rfl (by simp) rfl rfl (by simp) (fun _ _ h => h) (fun act w _ _ _ _ => by exact ob_call0 rfl (fun args w => by simp [go_sem]) ((one_any w).mono (fun e w' ⟨v, he, V1, V2, V3, Us, hv, hd, hb2⟩ => ⟨v, he, hb2, V1, V2, V3, Us, hv, hd⟩))), ?_⟩
  refine ⟨duty_met (j := 17) (b := true) rfl (by simp) rfl rfl (by simp) (fun _ _ h => h) (fun act w _ hB hE _ => by have h18 : T act 33 = .agg (dv f V1 V2 V3) := hE ⟨18, .data⟩ (by simp) rfl; have h19 := hE ⟨19, .data⟩ (by simp) rfl; obtain ⟨U1, U2, U3, Ws, hv, hd⟩ := h19; exact ob_call2 rfl (fun args w => by simp [go_sem]) h18 hv ((rsame_any ⟨f, nx, fo, en⟩ oneT V1 V2 V3 U1 U2 U3 Us Ws w (hTT.later hB) hd hR r64_one).mono (fun e w' ⟨he, hb2⟩ => ⟨.bool true, by rw [he, hS], hb2, rfl⟩))), ?_⟩
  refine ⟨duty_free rfl (by simp) rfl (fun act w _ _ hE _ => by have h17 : T act 32 = .bool true := hE ⟨17, .data⟩ (by simp) rfl; have h20 : T act 35 = .bool true := hE ⟨20, .data⟩ (by simp) rfl; exact ob_value (v := .bool true) (w' := w) (by simp [execOp, Act.eval, go_sem, h17, h20]) (Below.refl _ _) rfl), ?_⟩
  refine ⟨duty_free rfl (by simp) rfl (fun act w _ _ hE _ => by have h21 : T act 36 = .bool true := hE ⟨21, .data⟩ (by simp) rfl; exact ob_value (v := .bool true) (w' := w) (by simp [execOp, Act.eval, go_sem, h21]) (Below.refl _ _) rfl), ?_⟩
  exact trivial
theorem upK3 (a : Option Addr) (n : Nat) (cap : Nat) (zs : List Int) (f : Nat → Int) (V1 : Value) (V2 : Value) (V3 : Value) (i : Nat) (v : Value) (w w' : World) (h : RK3 a n cap zs f V1 V2 V3 i v w) (hb : Below w.heap.size w w') : RK3 a n cap zs f V1 V2 V3 i v w' := by
  unfold RK3 at h ⊢
  split at h <;> first | exact h | exact trivial | exact (h.later hb)
theorem dK3_lt {i : Nat} (h : i < 23) : DK3 i < 37 := by
  have : ∀ i, i < 23 → DK3 i < 37 := by decide
  exact this i h
theorem dK3_inj {i j : Nat} (hi : i < 23) (hj : j < 23) (h : DK3 i = DK3 j) : i = j := by
  have : ∀ i, i < 23 → ∀ j, j < 23 → DK3 i = DK3 j → i = j := by decide
  exact this i hi j hj h
theorem fK3_put (a : Option Addr) (n : Nat) (cap : Nat) (P : Nat) {x : Act} {i : Nat} (v : Value) (hi : i < 23) (h : FK3 a n cap P x) : FK3 a n cap P (x.put (some (DK3 i)) v) := by
  have hd : ∀ i, i < 23 → DK3 i ≠ 1 ∧ DK3 i ≠ 2 ∧ DK3 i ≠ 3 ∧ DK3 i ≠ 4 := by decide
  have hd := hd i hi
  obtain ⟨z, df, h0, h1, h2, h3⟩ := h
  refine ⟨by simpa [Act.put] using z, df, ?_, ?_, ?_, ?_⟩
  · unfold T; rw [put_other hd.1]; exact h0
  · unfold T; rw [put_other hd.2.1]; exact h1
  · unfold T; rw [put_other hd.2.2.1]; exact h2
  · unfold T; rw [put_other hd.2.2.2]; exact h3
set_option maxRecDepth 100000 in
theorem regK3 (a : Option Addr) (n : Nat) (cap : Nat) (zs : List Int) (P : Nat) (f : Nat → Int) (V1 : Value) (V2 : Value) (V3 : Value) {act : Act} {w0 : World} {Q : Exit → Act → World → Prop} {g : Nat} {nx : List (List Int)} {fo en : List Nat} {Us : List Value} (ha : a = some ⟨g, 0, none⟩) (hn : n = 284) (hc : 284 ≤ cap) (hz : 14 = zs.length) (hbz : BytesAt w0 a zs) (hs : strOfNums zs = ByteArray.mk #[72, 69, 82, 79, 78, 68, 70, 49, 1, 0, 0, 0, 1, 0]) (hD : DB w0 P f V1 V2 V3) (hTT : DfAt w0 ⟨f, nx, fo, en⟩ V1 V2 V3 Us) (hR : R64 f) (hS : sameT ⟨f, nx, fo, en⟩ oneT = true) (hFr : FK3 a n cap P act)
    (K : ∀ act' w', FK3 a n cap P act' → Below w0.heap.size w0 w' → (∀ i, i < 23 → RK3 a n cap zs f V1 V2 V3 i (T act' (DK3 i)) w') → Q .normal act' w') : (Code.region 3 (opsOf Tryd.f7 3) true).wp Tryd.prog Q act w0 := by
  have hnn : (opsOf Tryd.f7 3).size = 23 := by kernel_rfl
  exact wp_region_slots (by kernel_rfl) DK3 (RK3 a n cap zs f V1 V2 V3) (FK3 a n cap P) (upK3 a n cap zs f V1 V2 V3) (fun _ i v hi h => fK3_put a n cap P v (by omega) h) (fun _ i hi h => by have h1 := h.1; have h2 := dK3_lt (i := i) (by omega); omega) (fun i j hi hj h => dK3_inj (by omega) (by omega) h) (dutiesK3 a n cap zs P f V1 V2 V3 ha hn hc hz hbz hs hD hTT hR hS) (fun y w h1 h2 h3 => K y w h1 h2 (fun i hi => h3 i (by omega))) hFr
set_option maxRecDepth 20000 in
theorem fits_one : Fits oneT := (fits_iff oneT).1 (by decide)
theorem img_one : (imgT oneT).length = 284 ∧ (imgT oneT).take 14 = [72, 69, 82, 79, 78, 68, 70, 49, 1, 0, 0, 0, 1, 0] := by
  refine ⟨fits_one.imgT_len, ?_⟩
  rw [img_take _ (by rw [fits_one.bodyB_len]; omega)]
  unfold bodyB
  rw [List.append_assoc, List.take_append_of_le_length (by rw [headB_len]; omega)]
  decide
theorem r64_rd {zs : List Int} (hb : Rec.Bs zs) : R64 (rdCl zs) := fun i _ => by
  have := vl_lt hb (14 + i) 1
  unfold rdCl
  omega
theorem post_bool {fn : Func} {a' : Act} {W' : World} {b : Bool} {p : Nat} {Post : Ending → World → Prop} (hr : fn.results = #[.tmp p]) (hd : a'.defers = []) (h0 : T a' p = .bool b) (hp : Post (.returned (.bool b)) W') : bodyPost Tryd.prog fn Post .ret a' W' :=
  bodyPost_ret (v := .bool b) (by rw [results_tmp hr]; simp [T_lt h0]) hd hp
set_option maxRecDepth 20000 in
set_option maxHeartbeats 4000000 in
theorem known_any (w : World) (hT : Tab w) (h0 : 0 < w.heap.size) : Calls Tryd.prog 7 #[] w fun e w' => e = .returned (.bool true) ∧ Below w.heap.size w w' := by
  have HT : Hid (Tab w) := hT
  clear hT
  go_enter Tryd.func7, Tryd.ntmps7
  go_wp2_with fail
  refine (one_any w).mono ?_
  rintro e w1 ⟨v, rfl, U1, U2, U3, Us, rfl, hd1, k1⟩
  have HK1 : Hid (Below w.heap.size w w1) := k1
  have HE : Hid (Calls Tryd.prog 8 #[.agg (dv (fun _ => 0) U1 U2 U3)] w1 (EncPost oneT w1)) := encode_any oneT U1 U2 U3 Us w1 hd1 (tab_below k1 h0 HT.out) (by have := k1.size; omega)
  clear hd1 k1
  go_wp2_with fail
  refine HE.out.mono ?_
  rintro e w2 ⟨⟨v, rfl, hO⟩, k2⟩
  rw [(fits_iff oneT).2 fits_one] at hO ⊢
  simp only [if_true] at hO ⊢
  obtain ⟨a, cap, rfl, hbt, hc, hm, hg, -⟩ := hO.form
  obtain ⟨g, rfl⟩ := hg (fun e => by have := img_one.1; rw [e] at this; simp at this)
  have HK2 : Hid (Below w.heap.size w w2) := below_step HK1.out k2
  have HB2 : Hid (BytesAt w2 (some ⟨g, 0, none⟩) (imgT oneT)) := hbt
  rw [img_one.1] at hc ⊢
  have HDC : Hid (Calls Tryd.prog 10 #[.slice (some ⟨g, 0, none⟩) 284 cap] w2 (DecPost (imgT oneT) w2)) := decode_any _ 284 cap (imgT oneT) w2 img_one.1.symm hc (by omega) hbt (bs_imgT oneT) (tab_below HK2.out h0 HT.out) (by have := HK2.out.size; omega)
  clear hO k2 hbt HE HK1 hg
  go_wp2_with fail
  refine HDC.out.mono ?_
  rintro e w3 ⟨hdec, k3⟩
  obtain ⟨hok, hsm⟩ := fits_one.decode (by simp [oneT]) (by simp [oneT])
  have hdec' := hdec.resolve_right (fun h => by have := h.1; rw [hok] at this; cases this)
  obtain ⟨-, V1, V2, V3, Ws, Hb, Tt, rfl, htm⟩ := hdec'
  have hbf := Rec.bs_take (bs_imgT oneT) ((imgT oneT).length - 4)
  obtain ⟨bf, be⟩ := rdT_words hbf
  obtain ⟨zs, hzs⟩ : ∃ zs, frontB (imgT oneT) = zs := ⟨_, rfl⟩
  have hzs' : (imgT oneT).take ((imgT oneT).length - 4) = zs := hzs
  rw [hzs'] at hsm bf be hbf
  rw [hzs] at htm ⊢
  have HDF : Hid (DfAt w3 ⟨rdCl zs, (rdT zs).nx, (rdT zs).fo, (rdT zs).en⟩ V1 V2 V3 Ws) := htm.read bf be
  have HS : Hid (sameT ⟨rdCl zs, (rdT zs).nx, (rdT zs).fo, (rdT zs).en⟩ oneT = true) := (sameT_iff _ _).2 hsm
  have HRR : Hid (R64 (rdCl zs)) := r64_rd hbf
  have HK3 : Hid (Below w.heap.size w w3) := below_step HK2.out k3
  have HB3 : Hid (BytesAt w3 (some ⟨g, 0, none⟩) (imgT oneT)) := bytesAt_later k3 HB2.out
  have HONE : Hid (V1.oneCell' = true ∧ V2.oneCell' = true ∧ V3.oneCell' = true) := HDF.out.ones
  clear hdec hok hsm htm hbf bf be hzs hzs' k3 HB2 HK2 HDC
  obtain ⟨D, hD⟩ : ∃ D, w3.heap.size = D := ⟨_, rfl⟩
  obtain ⟨w4, hw4⟩ : ∃ w4, w3.alloc (.cells (dv (fun _ => 0) nilV nilV nilV) 26) = w4 := ⟨_, rfl⟩
  have k4 : Below w3.heap.size w3 w4 := by rw [← hw4]; exact (Below.refl _ _).alloc (Nat.le_refl _) _
  have d4 : DB w4 D (fun _ => 0) nilV nilV nilV := by rw [← hw4, ← hD]; exact db_new w3 _ _ _ _
  obtain ⟨w5, hw5⟩ : ∃ w5, w4.setRow D (dv (rdCl zs) V1 V2 V3) = w5 := ⟨_, rfl⟩
  have HD5 : Hid (DB w5 D (rdCl zs) V1 V2 V3) := by rw [← hw5]; exact d4.row _ _ _ _
  have k5 : Below w3.heap.size w3 w5 := by rw [← hw5]; exact below_row k4 (by omega) _
  have HK5 : Hid (Below w.heap.size w w5) := below_step HK3.out k5
  have HDF5 : Hid (DfAt w5 ⟨rdCl zs, (rdT zs).nx, (rdT zs).fo, (rdT zs).en⟩ V1 V2 V3 Ws) := HDF.out.later k5
  have HB5 : Hid (BytesAt w5 (some ⟨g, 0, none⟩) ((imgT oneT).take 14)) := bytesAt_take 14 (bytesAt_later k5 HB3.out)
  have HW4 : Hid (w3.alloc (.cells (dv (fun _ => 0) nilV nilV nilV) 26) = w4) := hw4
  have HW5 : Hid (w4.setRow D (dv (rdCl zs) V1 V2 V3) = w5) := hw5
  have HDD : Hid (w3.heap.size = D) := hD
  have hz := zeroDfa
  clear hw4 hw5 hD k4 k5 d4 HB3 HDF HK3
  go_upto_region 3 with (refine wpList_store_dfa rfl (.tmp 3) (.tmp 13) rfl (db_new w3 (fun _ => 0) nilV nilV nilV) HONE.out rfl rfl ?_; rw [HW4.out, HDD.out, HW5.out])
  refine regK3 (some ⟨g, 0, none⟩) 284 cap ((imgT oneT).take 14) D (rdCl zs) V1 V2 V3 rfl rfl hc (by rw [img_one.2]; rfl) HB5.out (by rw [img_one.2]; rfl) HD5.out HDF5.out HRR.out HS.out ⟨rfl, rfl, rfl, rfl, rfl, rfl⟩ ?_
  intro a9 w9 hF k9 hR
  have HE9 : Hid (Below w.heap.size w w9) := below_step HK5.out k9
  have h22 : T a9 0 = .bool true := hR 22 (by omega)
  have hd9 := hF.2.1
  clear hR hF k9
  go_wp2
  exact post_bool rfl hd9 h22 ⟨rfl, HE9.out⟩
end Go.Proofs.YtdngileimmgdnaaDoor
