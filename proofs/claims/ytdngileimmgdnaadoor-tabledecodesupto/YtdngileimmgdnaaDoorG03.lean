/- Package rec's Num, the reader: Read, Left, Num, Take (out of stage 2). -/
import Derived.Test.YtdngileimmgdnaaDoorG02
import Derived.Laws.BitsAllLaws
import Derived.Deep.QuietTactic
import Derived.BigQuiet
namespace Go.Proofs.YtdngileimmgdnaaDoor
open Go.RowKit

theorem isWidth_yes (n : Int) (w : World) (h1 : 1 ≤ n) (h2 : n ≤ 8) : Calls Tryd.prog 46 #[.int .i64 n] w fun e w' => e = .returned (.bool true) ∧ w' = w := by
  go_enter Tryd.func46, Tryd.ntmps46
  go_wp2
  go_ret
  exact ⟨rfl, rfl⟩
theorem isWidth_no (n : Int) (w : World) (h : n < 1 ∨ 8 < n) : Calls Tryd.prog 46 #[.int .i64 n] w fun e w' => e = .returned (.bool false) ∧ w' = w := by
  by_cases h1 : 1 ≤ n
  · have h2 : 8 < n := by omega
    clear h
    go_enter Tryd.func46, Tryd.ntmps46
    go_wp2
    go_ret
    exact ⟨ret_bool (by simpa using h2), rfl⟩
  · have h2 : n < 1 := by omega
    clear h
    go_enter Tryd.func46, Tryd.ntmps46
    go_wp2
    go_ret
    exact ⟨rfl, rfl⟩
theorem byte_eq (x k : Nat) : ((x : Int) / 2 ^ (8 * k) % 256) = ((x / 256 ^ k % 256 : Nat) : Int) := by
  rw [Rec.pow_two]
  simp
set_option maxHeartbeats 400000 in
theorem lay_any (w0 : World) (v : Value) (xs : List Int) (x n : Nat) (w : World) (_hx : x < 18446744073709551616) (hn : n ≤ 8) (hxs : xs.length ≤ 1048576) (hown : Owns w w0.heap.size v xs) (hbel : Below w0.heap.size w0 w) :
    Calls Tryd.prog 47 #[v, .int .u64 x, .int .i64 n] w fun e w' => ∃ v', e = .returned v' ∧ Owns w' w0.heap.size v' (xs ++ Rec.num x n) ∧ Below w0.heap.size w0 w' := by
  have HO : Hid (Owns w w0.heap.size v xs) := hown
  have HB : Hid (Below w0.heap.size w0 w) := hbel
  clear hown hbel
  go_enter Tryd.func47, Tryd.ntmps47
  go_wp2
  go_loopw [0, 9] (fun b i u => ∃ k : Nat, k ≤ n ∧ i = .int .i64 k ∧ Hid (Owns u w0.heap.size b (xs ++ Rec.num x k)) ∧ Hid (Below w0.heap.size w0 u)) (fun _ i _ => n - (intOf i).toNat)
  case atStart => exact ⟨0, Nat.zero_le _, rfl, by have := HO.out; show Owns _ _ _ _; rw [show Rec.num x 0 = [] from rfl, List.append_nil]; exact this, HB⟩
  case round =>
    obtain ⟨k, hk, rfl, ho, hb⟩ := hrel
    by_cases hlt : k < n
    · obtain ⟨g, c, rfl, hg1, _⟩ := ho.out.form
      have HG : Hid (w0.heap.size ≤ g) := hg1
      clear hg1
      have HZ : Hid (w0.heap.size ≤ wr.heap.size) := hb.out.size
      go_wp2_with (at_builtin; go_must (refine wpList_append_bytes rfl (.tmp 12) (.tmp 18) rfl w0.heap.size _ _ rfl (ho.out.later ((Below.refl _ _).alloc (Nat.le_refl _) _)) _ 1 1 [(x : Int) / 2 ^ (8 * k) % 256] rfl rfl (bytesAt_new wr [(x : Int) / 2 ^ (8 * k) % 256] 5 (0, 0)) (by simp [Rec.num_length]; omega) (by have := HZ.out; simp; omega) ?_; intro v5 w5 ho5 hg5; have HO5 : Hid (Owns w5 w0.heap.size v5 (xs ++ Rec.num x k ++ [(x : Int) / 2 ^ (8 * k) % 256])) := ho5; have HB5 : Hid (Below w0.heap.size w0 w5) := (hb.out.alloc HZ.out _).grown hg5 (by have := HZ.out; simp; omega) (fun q hq => by cases hq; exact HG.out); clear ho5 hg5))
      go_roundw
      case rel => exact ⟨k + 1, by omega, by go_num, by have h := HO5.out; rw [byte_eq] at h; show Owns _ _ _ _; rw [Rec.num_snoc, ← List.append_assoc]; exact h, HB5⟩
      case measure => simp [intOf]; omega
    · obtain rfl : k = n := by omega
      go_wp2
      exact bodyPost_ret (v := u0) (by simp [results, Tryd.results47, go_sem]) rfl ⟨_, rfl, ho.out, hb.out⟩
theorem or_step (V k : Nat) (z : Int) (hk : k < 8) (hV : V < 256 ^ k) (h0 : 0 ≤ z) (h1 : z < 256) : bits .or .u64 (V : Int) (IntKind.u64.wrap (z * 2 ^ (8 * k))) = ((V + z.toNat * 256 ^ k : Nat) : Int) := by
  obtain ⟨x, rfl⟩ := Int.eq_ofNat_of_zero_le h0
  have hx : x < 256 := by omega
  have e : (x : Int) * 2 ^ (8 * k) = ((x * 256 ^ k : Nat) : Int) := by rw [Rec.pow_two]; simp
  have h2 : x * 256 ^ k < 18446744073709551616 := by
    have a1 : (x + 1) * 256 ^ k ≤ 256 * 256 ^ k := Nat.mul_le_mul_right _ (by omega)
    have a2 : 256 * 256 ^ k ≤ 256 ^ 8 := by rw [Nat.mul_comm, ← Nat.pow_succ]; exact Rec.pow_le hk
    rw [Rec.pow8] at a2
    have a3 : 0 < 256 ^ k := Nat.pow_pos (by decide)
    rw [Nat.add_mul] at a1
    omega
  have h3 : V < 18446744073709551616 := by
    have := Rec.pow_le (Nat.le_of_lt hk)
    rw [Rec.pow8] at this
    omega
  have hw : IntKind.u64.wrap ((x * 256 ^ k : Nat) : Int) = ((x * 256 ^ k : Nat) : Int) := by
    rw [IntKind.wrap_u64]
    omega
  rw [e, hw, u64_or_nat _ _ h3 h2, Rec.or_sum hV]
  simp
set_option maxHeartbeats 400000 in
theorem number_core (b off cap n : Nat) (zs : List Int) (w : World) (hn : n = zs.length) (h8 : n ≤ 8) (hc : ∀ k, k < zs.length → w.cell? ⟨b, off + k, none⟩ = some (.int .u8 (zs.getD k 0))) (hb : Rec.Bs zs) :
    Calls Tryd.prog 49 #[.slice (some ⟨b, off, none⟩) n cap] w fun e w' => e = .returned (.int .u64 (Rec.val zs : Nat)) ∧ w' = w := by
  have HC : Hid (∀ k, k < zs.length → w.cell? ⟨b, off + k, none⟩ = some (.int .u8 (zs.getD k 0))) := hc
  have HB : Hid (Rec.Bs zs) := hb
  have HN : Hid (n = zs.length) := hn
  clear hc hb hn
  go_enter Tryd.func49, Tryd.ntmps49
  go_wp2
  go_loop [3, 8] (fun v i => ∃ k : Nat, k ≤ n ∧ i = .int .i64 k ∧ v = .int .u64 (Rec.val (zs.take k) : Nat)) (fun _ i => n - (intOf i).toNat)
  case atStart => exact ⟨0, Nat.zero_le _, rfl, rfl⟩
  case round =>
    obtain ⟨k, hk, rfl, rfl⟩ := hrel
    by_cases hlt : k < n
    · have hz : k < zs.length := by rw [← HN.out]; exact hlt
      have hck := HC.out k hz
      obtain ⟨hb0, hb1⟩ := Rec.bs_at HB.out hz
      have HV : Hid (Rec.val (zs.take (k + 1)) = Rec.val (zs.take k) + (zs.getD k 0).toNat * 256 ^ k) := Rec.val_take_succ zs k hz
      have HL : Hid (Rec.val (zs.take k) < 256 ^ k) := Rec.val_take_lt HB.out k (Nat.le_of_lt hz)
      obtain ⟨z, hzd⟩ : ∃ z, z = zs.getD k 0 := ⟨_, rfl⟩
      rw [← hzd] at hck hb0 hb1 HV
      obtain ⟨V, hV⟩ : ∃ V, V = Rec.val (zs.take k) := ⟨_, rfl⟩
      rw [← hV] at HV HL ⊢
      clear hzd hV hz
      go_wp2
      go_round
      case rel => exact ⟨k + 1, by omega, by go_num, by rw [or_step V k z (by omega) HL.out hb0 hb1, HV.out]⟩
      case measure => simp [intOf]; omega
    · go_wp2
      go_ret
      exact ⟨ret_int (by rw [List.take_of_length_le (by rw [← HN.out]; omega)]), rfl⟩
theorem number_any (a : Option Addr) (cap n : Nat) (zs : List Int) (w : World) (hn : n = zs.length) (h8 : n ≤ 8) (hc : BytesAt w a zs) (hb : Rec.Bs zs) :
    Calls Tryd.prog 49 #[.slice a n cap] w fun e w' => e = .returned (.int .u64 (Rec.val zs : Nat)) ∧ w' = w := by
  rcases hc with rfl | ⟨b, off, rfl, hc⟩
  · have hn' : n = 0 := hn
    subst hn'
    clear hn hb
    go_enter Tryd.func49, Tryd.ntmps49
    go_wp2
    go_loop [3, 8] (fun v i => i = .int .i64 0 ∧ v = .int .u64 0) (fun _ _ => 0)
    case atStart => exact ⟨rfl, rfl⟩
    case round =>
      obtain ⟨rfl, rfl⟩ := hrel
      go_wp2
      go_ret
      exact ⟨ret_int (by simp [Rec.val]), rfl⟩
  · exact number_core b off cap n zs w hn h8 hc hb
theorem shr_zero (x n : Nat) (h : x < 256 ^ n) : (x : Int) / 2 ^ (8 * n) = 0 := by
  have e : (x : Int) / 2 ^ (8 * n) = ((x / 256 ^ n : Nat) : Int) := by rw [Rec.pow_two]; simp
  rw [e, Nat.div_eq_of_lt h]; rfl
theorem shr_pos (x n : Nat) (h : 256 ^ n ≤ x) : (x : Int) / 2 ^ (8 * n) ≠ 0 := by
  have e : (x : Int) / 2 ^ (8 * n) = ((x / 256 ^ n : Nat) : Int) := by rw [Rec.pow_two]; simp
  have := Nat.div_pos h (Nat.pow_pos (by decide))
  rw [e]; omega
set_option maxHeartbeats 400000 in
theorem num_yes (x n : Nat) (w : World) (hx : x < 18446744073709551616) (h1 : 1 ≤ n) (h8 : n ≤ 8) (hv : x < 256 ^ n) :
    Calls Tryd.prog 34 #[.int .u64 x, .int .i64 n] w fun e w' => ∃ v, e = .returned (.tuple #[v, .int .i64 0]) ∧ Owns w' w.heap.size v (Rec.num x n) ∧ Below w.heap.size w w' := by
  have hs := shr_zero x n hv
  clear hv
  go_enter Tryd.func34, Tryd.ntmps34
  go_wp2_with fail
  refine (isWidth_yes _ _ (by omega) (by omega)).mono ?_
  rintro e w' ⟨rfl, rfl⟩
  go_wp2_with (at_make; refine wpList_make_room rfl _ _ rfl n _ rfl rfl rfl (by omega) ?_; intro w1 ho1 hb1; have HO1 : Hid (Owns w1 w'.heap.size (.slice (some ⟨w'.heap.size, 0, none⟩) 0 n) []) := ho1; have HB1 : Hid (Below w'.heap.size w' w1) := hb1; clear ho1 hb1)
  refine (lay_any w' _ [] x n _ hx h8 (by simp) HO1.out HB1.out).mono ?_
  rintro e w2 ⟨v, rfl, ho2, hb2⟩
  have HO2 : Hid (Owns w2 w'.heap.size v (Rec.num x n)) := by show Owns _ _ _ _; simpa using ho2
  have HB2 : Hid (Below w'.heap.size w' w2) := hb2
  clear ho2 hb2
  go_wp2
  exact bodyPost_ret (v := .tuple #[v, .int .i64 0]) (by simp [results, Tryd.results34, go_sem]) rfl ⟨v, rfl, HO2.out, HB2.out⟩
/-- A READER at block P; what is left of its copy lies in block H from off on. -/
def Rd (w : World) (P H off : Nat) (zs : List Int) : Prop :=
  ∃ a, w.heap[P]? = some (.cells #[.slice a zs.length zs.length] 79 (0, 0)) ∧ P ≠ H ∧ (zs ≠ [] → a = some ⟨H, off, none⟩) ∧ ∀ k, k < zs.length → w.cell? ⟨H, off + k, none⟩ = some (.int .u8 (zs.getD k 0))
theorem cell_of_block {w : World} {P : Nat} {v : Value} {t : TypeId} (h : w.heap[P]? = some (.cells #[v] t (0, 0))) : w.cell? ⟨P, 0, none⟩ = some v ∧ w.frozen? ⟨P, 0, none⟩ = false := by
  simp [World.cell?, World.frozen?, h]
theorem heap_setCell_one {w : World} {P : Nat} {u v : Value} {t : TypeId} (h : w.heap[P]? = some (.cells #[u] t (0, 0))) : (w.setCell ⟨P, 0, none⟩ v).heap[P]? = some (.cells #[v] t (0, 0)) := by
  simp only [World.setCell, Array.getElem?_modify, h]
  rfl
theorem grown_setCell (w : World) (P o nq : Nat) (v : Value) : w.grownBy ((w.drewN nq).setCell ⟨P, o, none⟩ v) (some P) :=
  ⟨rfl, rfl, rfl, by simp [World.setCell, World.drewN], fun k _ hk => Below.heap_setCell (w.drewN nq) ⟨P, o, none⟩ v k (fun e => hk (by rw [e]))⟩
theorem grown_cell {w w' : World} {P : Nat} (h : w.grownBy w' (some P)) {b o : Nat} {v : Value} (hb : b ≠ P) (hc : w.cell? ⟨b, o, none⟩ = some v) : w'.cell? ⟨b, o, none⟩ = some v :=
  h.cell hc (fun e => hb (by simpa using e))
theorem rd_cut (P H off n nq : Nat) (a a' : Option Addr) (zs : List Int) (w : World) (h1 : w.heap[P]? = some (.cells #[.slice a zs.length zs.length] 79 (0, 0))) (h2 : P ≠ H) (h3 : zs ≠ [] → a = some ⟨H, off, none⟩)
    (h4 : ∀ k, k < zs.length → w.cell? ⟨H, off + k, none⟩ = some (.int .u8 (zs.getD k 0))) (hn : n ≤ zs.length) (ha : n < zs.length → a' = some ⟨H, off + n, none⟩) :
    (n ≠ 0 → a = some ⟨H, off, none⟩) ∧ BytesAt ((w.drewN nq).setCell ⟨P, 0, none⟩ (.slice a' (zs.length - n) (zs.length - n))) a (zs.take n) ∧
    Rd ((w.drewN nq).setCell ⟨P, 0, none⟩ (.slice a' (zs.length - n) (zs.length - n))) P H (off + n) (zs.drop n) ∧ w.grownBy ((w.drewN nq).setCell ⟨P, 0, none⟩ (.slice a' (zs.length - n) (zs.length - n))) (some P) := by
  have hg := grown_setCell w P 0 nq (.slice a' (zs.length - n) (zs.length - n))
  have hne : ∀ m, m ≠ 0 → m ≤ zs.length → zs ≠ [] := fun m hm hl e => by rw [e] at hl; simp at hl; omega
  refine ⟨fun hz => h3 (hne n hz hn), ?_, ⟨a', ?_, h2, ?_, ?_⟩, hg⟩
  · by_cases hz : n = 0
    · subst hz; exact Or.inl (by simp)
    · refine Or.inr ⟨H, off, h3 (hne n hz hn), fun k hk => ?_⟩
      have hk1 : k < n := by simp at hk; omega
      have hk2 : k < zs.length := by omega
      have := grown_cell hg (Ne.symm h2) (h4 k hk2)
      rw [this]
      simp [hk1, hk2]
  · rw [List.length_drop]
    exact heap_setCell_one (w := w.drewN nq) h1
  · intro hd
    refine ha ?_
    have := List.length_pos_iff.2 hd
    rw [List.length_drop] at this
    omega
  · intro k hk
    rw [List.length_drop] at hk
    have := grown_cell hg (Ne.symm h2) (h4 (n + k) (by omega))
    rw [Nat.add_assoc, this]
    simp
set_option maxHeartbeats 400000 in
theorem cut_any (P H off n : Nat) (zs : List Int) (w : World) (hr : Rd w P H off zs) (_hl : zs.length ≤ 140737488355328) (hn : n ≤ zs.length) :
    Calls Tryd.prog 50 #[.pointer (some ⟨P, 0, none⟩), .int .i64 n] w fun e w' => ∃ a, e = .returned (.slice a n n) ∧ (n ≠ 0 → a = some ⟨H, off, none⟩) ∧ BytesAt w' a (zs.take n) ∧ Rd w' P H (off + n) (zs.drop n) ∧ w.grownBy w' (some P) := by
  obtain ⟨a, h1, h2, h3, h4⟩ := hr
  obtain ⟨hc, hf⟩ := cell_of_block h1
  obtain ⟨L, hL⟩ : ∃ L, L = zs.length := ⟨_, rfl⟩
  rw [← hL] at hc hn _hl
  have H1 : Hid (w.heap[P]? = some (.cells #[.slice a zs.length zs.length] 79 (0, 0))) := h1
  have H3 : Hid (zs ≠ [] → a = some ⟨H, off, none⟩) := h3
  have H4 : Hid (∀ k, k < zs.length → w.cell? ⟨H, off + k, none⟩ = some (.int .u8 (zs.getD k 0))) := h4
  have HL : Hid (L = zs.length) := hL
  clear h1 h3 h4 hL
  go_enter Tryd.func50, Tryd.ntmps50
  go_wp2
  go_quiet (fail)
  go_wp2
  · refine bodyPost_ret (v := .slice a n n) (by simp [results, Tryd.results50, go_sem]) rfl ⟨a, rfl, ?_⟩
    have h := rd_cut P H off n nq a a zs w H1.out h2 H3.out H4.out (by rw [← HL.out]; exact hn) (fun hlt => by rw [← HL.out] at hlt; omega)
    rw [← HL.out, (by assumption : L = n), Nat.sub_self] at h
    exact h
  · refine bodyPost_ret (v := .slice a n n) (by simp [results, Tryd.results50, go_sem]) rfl ⟨a, rfl, ?_⟩
    have h := rd_cut P H off n nq a (a.map (fun x => x.add n)) zs w H1.out h2 H3.out H4.out (by rw [← HL.out]; exact hn) (fun hlt => by
      have hz : zs ≠ [] := fun e => by rw [e] at hlt; simp at hlt
      rw [H3.out hz, Option.map_some, Go.WideShapes.add_plain])
    rw [← HL.out] at h
    exact h
theorem Rd.later {w w' : World} {P H off : Nat} {zs : List Int} (h : Rd w P H off zs) (h1 : w'.heap[P]? = w.heap[P]?) (h2 : w'.heap[H]? = w.heap[H]?) : Rd w' P H off zs := by
  obtain ⟨a, e1, e2, e3, e4⟩ := h
  exact ⟨a, by rw [h1]; exact e1, e2, e3, fun k hk => by rw [World.cell?_of_block (w := w) h2]; exact e4 k hk⟩
/-- the facts of a reader that a walk wants -/
theorem Rd.open {w : World} {P H off : Nat} {zs : List Int} (h : Rd w P H off zs) : ∃ a, w.cell? ⟨P, 0, none⟩ = some (.slice a zs.length zs.length) ∧ w.frozen? ⟨P, 0, none⟩ = false ∧ BytesAt w a zs := by
  obtain ⟨a, e1, e2, e3, e4⟩ := h
  obtain ⟨hc, hf⟩ := cell_of_block e1
  refine ⟨a, hc, hf, ?_⟩
  by_cases hz : zs = []
  · exact Or.inl hz
  · exact Or.inr ⟨H, off, e3 hz, e4⟩
theorem left_any (P H off : Nat) (zs : List Int) (w : World) (hr : Rd w P H off zs) : Calls Tryd.prog 40 #[.pointer (some ⟨P, 0, none⟩)] w fun e w' => e = .returned (.int .i64 (zs.length : Nat)) ∧ w' = w := by
  obtain ⟨a, hc, _, _⟩ := hr.open
  clear hr
  go_enter Tryd.func40, Tryd.ntmps40
  go_wp2
  go_ret
  exact ⟨rfl, rfl⟩
theorem rnum_short (P H off n : Nat) (zs : List Int) (w : World) (hr : Rd w P H off zs) (h1 : 1 ≤ n) (h8 : n ≤ 8) (hs : zs.length < n) : Calls Tryd.prog 37 #[.pointer (some ⟨P, 0, none⟩), .int .i64 n] w fun e w' => e = .returned (.tuple #[.int .u64 0, .int .i64 20]) ∧ w' = w := by
  obtain ⟨a, hc, _, _⟩ := hr.open
  obtain ⟨L, hL⟩ : ∃ L, L = zs.length := ⟨_, rfl⟩
  rw [← hL] at hc hs
  clear hr hL
  go_enter Tryd.func37, Tryd.ntmps37
  go_wp2_with fail
  refine (isWidth_yes _ _ (by omega) (by omega)).mono ?_
  rintro e w' ⟨rfl, rfl⟩
  go_wp2
  go_ret2
  exact ⟨rfl, rfl⟩
theorem rnum_ok (P H off n : Nat) (zs : List Int) (w : World) (hr : Rd w P H off zs) (h1 : 1 ≤ n) (h8 : n ≤ 8) (hl : zs.length ≤ 140737488355328) (hs : n ≤ zs.length) (hb : Rec.Bs zs) :
    Calls Tryd.prog 37 #[.pointer (some ⟨P, 0, none⟩), .int .i64 n] w fun e w' => e = .returned (.tuple #[.int .u64 (Rec.val (zs.take n) : Nat), .int .i64 0]) ∧ Rd w' P H (off + n) (zs.drop n) ∧ w.grownBy w' (some P) := by
  obtain ⟨a, hc, _, _⟩ := hr.open
  have HR : Hid (Rd w P H off zs) := hr
  have HB : Hid (Rec.Bs zs) := hb
  obtain ⟨L, hL⟩ : ∃ L, L = zs.length := ⟨_, rfl⟩
  rw [← hL] at hc hs hl
  have HL : Hid (L = zs.length) := hL
  clear hr hL hb
  go_enter Tryd.func37, Tryd.ntmps37
  go_wp2_with fail
  refine (isWidth_yes _ _ (by omega) (by omega)).mono ?_
  rintro e w' ⟨rfl, rfl⟩
  go_wp2_with fail
  refine (cut_any P H off n zs _ HR.out (by rw [← HL.out]; exact hl) (by rw [← HL.out]; exact hs)).mono ?_
  rintro e w1 ⟨a1, rfl, _, hb1, hr1, hg1⟩
  have HB1 : Hid (BytesAt w1 a1 (zs.take n)) := hb1
  have HR1 : Hid (Rd w1 P H (off + n) (zs.drop n)) := hr1
  have HG1 : Hid (w'.grownBy w1 (some P)) := hg1
  clear hb1 hr1 hg1 hc
  go_wp2_with fail
  refine (number_any a1 n n (zs.take n) _ (by rw [List.length_take, ← HL.out]; omega) h8 HB1.out (Rec.bs_take HB.out n)).mono ?_
  rintro e w2 ⟨rfl, rfl⟩
  go_wp2
  go_ret2
  exact ⟨rfl, HR1.out, HG1.out⟩
theorem take_short (P H off : Nat) (n : Int) (zs : List Int) (w : World) (hr : Rd w P H off zs) (hs : (zs.length : Int) < n) : Calls Tryd.prog 51 #[.pointer (some ⟨P, 0, none⟩), .int .i64 n] w fun e w' => e = .returned (.tuple #[.slice none 0 0, .int .i64 20]) ∧ w' = w := by
  obtain ⟨a, hc, _, _⟩ := hr.open
  obtain ⟨L, hL⟩ : ∃ L, L = zs.length := ⟨_, rfl⟩
  rw [← hL] at hc hs
  clear hr hL
  have h0 : 0 ≤ n := by omega
  go_enter Tryd.func51, Tryd.ntmps51
  go_wp2
  go_ret2
  exact ⟨rfl, rfl⟩
theorem take_ok (P H off n : Nat) (zs : List Int) (w : World) (hr : Rd w P H off zs) (hl : zs.length ≤ 140737488355328) (hs : n ≤ zs.length) :
    Calls Tryd.prog 51 #[.pointer (some ⟨P, 0, none⟩), .int .i64 n] w fun e w' => ∃ a, e = .returned (.tuple #[.slice a n n, .int .i64 0]) ∧ (n ≠ 0 → a = some ⟨H, off, none⟩) ∧ BytesAt w' a (zs.take n) ∧ Rd w' P H (off + n) (zs.drop n) ∧ w.grownBy w' (some P) := by
  obtain ⟨a, hc, _, _⟩ := hr.open
  have HR : Hid (Rd w P H off zs) := hr
  obtain ⟨L, hL⟩ : ∃ L, L = zs.length := ⟨_, rfl⟩
  rw [← hL] at hc hs hl
  have HL : Hid (L = zs.length) := hL
  clear hr hL
  go_enter Tryd.func51, Tryd.ntmps51
  go_wp2_with fail
  refine (cut_any P H off n zs _ HR.out (by rw [← HL.out]; exact hl) (by rw [← HL.out]; exact hs)).mono ?_
  rintro e w1 ⟨a1, rfl, ha1, hb1, hr1, hg1⟩
  have HA1 : Hid (n ≠ 0 → a1 = some ⟨H, off, none⟩) := ha1
  have HB1 : Hid (BytesAt w1 a1 (zs.take n)) := hb1
  have HR1 : Hid (Rd w1 P H (off + n) (zs.drop n)) := hr1
  have HG1 : Hid (w.grownBy w1 (some P)) := hg1
  clear ha1 hb1 hr1 hg1 hc
  go_wp2
  go_ret2
  exact ⟨a1, rfl, HA1.out, HB1.out, HR1.out, HG1.out⟩
/-- Read -/
theorem rd_new (w : World) (B H n : Nat) (zs : List Int) (hn : n = zs.length) (ho : Owns w B (.slice (some ⟨H, 0, none⟩) n n) zs) : Rd (w.alloc (.cells #[.slice (some ⟨H, 0, none⟩) n n] 79)) w.heap.size H 0 zs ∧ H < w.heap.size ∧ B ≤ H := by
  subst hn
  obtain ⟨g, c, e, hB, hlt, hb, _⟩ := ho.form
  cases e
  refine ⟨⟨some ⟨H, 0, none⟩, heap_alloc_new w _, by omega, fun _ => rfl, fun k hk => ?_⟩, hlt, hB⟩
  rcases hb with h0 | ⟨b, off, e, hc⟩
  · rw [h0] at hk; simp at hk
  · cases e
    rw [World.cell?_of_block (w := w) (Below.heap_alloc w _ H hlt)]
    exact hc k hk
theorem read_any (a : Option Addr) (n cap : Nat) (zs : List Int) (w : World) (hn : n = zs.length) (hb : BytesAt w a zs) (hl : n ≤ 140737488355328) :
    Calls Tryd.prog 36 #[.slice a n cap] w fun e w' => ∃ P H, e = .returned (.pointer (some ⟨P, 0, none⟩)) ∧ w.heap.size ≤ P ∧ w.heap.size ≤ H ∧ Rd w' P H 0 zs ∧ Below w.heap.size w w' ∧ H < w'.heap.size ∧ P < w'.heap.size := by
  have HN : Hid (n = zs.length) := hn
  have HB : Hid (BytesAt w a zs) := hb
  clear hn hb
  go_enter Tryd.func36, Tryd.ntmps36
  go_wp2_with (first
    | (at_make; refine wpList_make_zeros rfl _ _ rfl n _ _ rfl rfl rfl rfl (by omega) ?_; intro w1 ho1 hb1; have HO1 : Hid (Owns w1 w.heap.size (.slice (some ⟨w.heap.size, 0, none⟩) n n) (List.replicate n 0)) := ho1; have HB1 : Hid (Below w.heap.size w w1) := hb1; clear ho1 hb1)
    | (refine wpList_copy_bytes rfl _ _ rfl w.heap.size _ (List.replicate n 0) rfl HO1.out a cap n zs HN.out rfl (bytesAt_later HB1.out HB.out) (by rw [List.length_replicate, HN.out]; exact Nat.le_refl _) ?_; intro w2 ho2 hb2; have HO2 : Hid (Owns w2 w.heap.size (.slice (some ⟨w.heap.size, 0, none⟩) n n) zs) := (by rw [List.length_replicate, HN.out, List.take_length] at ho2; rw [HN.out]; exact ho2); have HB2 : Hid (Below w.heap.size w w2) := HB1.out.trans hb2; clear ho2 hb2))
  obtain ⟨hrd, hH, hBH⟩ := rd_new w2 w.heap.size w.heap.size n zs HN.out HO2.out
  have hz := HB2.out.size
  exact bodyPost_ret (v := .pointer (some ⟨w2.heap.size, 0, none⟩)) (by simp [results, Tryd.results36, go_sem]) rfl ⟨w2.heap.size, w.heap.size, rfl, hz, hBH, hrd, HB2.out.alloc hz _, by simp; omega, by simp⟩
/-- A row of the call's own, or nil while nothing has been gathered. -/
def OwnsN (w : World) (B : Nat) (v : Value) (zs : List Int) : Prop := w.ownsRow B 5 1 v zs.length (cellsOf zs) ∧ (zs = [] → v = .slice none 0 0) ∧ (zs ≠ [] → v ≠ .slice none 0 0)
theorem ownsN_nil (w : World) (B : Nat) : OwnsN w B (.slice none 0 0) [] := ⟨World.ownsRow_nil w B 5 1, fun _ => rfl, fun h => absurd rfl h⟩
theorem OwnsN.owns {w : World} {B : Nat} {v : Value} {zs : List Int} (h : OwnsN w B v zs) (hn : zs ≠ []) : Owns w B v zs := ⟨h.1, h.2.2 hn⟩
theorem OwnsN.later {w w' : World} {B : Nat} {v : Value} {zs : List Int} (h : OwnsN w B v zs) (hb : Below w.heap.size w w') : OwnsN w' B v zs := by
  by_cases hn : zs = []
  · subst hn
    rw [h.2.1 rfl]
    exact ownsN_nil _ _
  · exact ⟨((h.owns hn).later hb).1, h.2⟩
theorem OwnsN.block {w : World} {B : Nat} {v : Value} {zs : List Int} (h : OwnsN w B v zs) : ∀ k, v.ownBlock = some k → B ≤ k := by
  intro k hk
  by_cases hn : zs = []
  · rw [h.2.1 hn] at hk
    simp [Value.ownBlock] at hk
  · obtain ⟨g, c, rfl, hB, _, _, _, _, hg⟩ := (h.owns hn).form
    rw [hg] at hk
    cases hk
    exact hB
/-- what such a slice is to a reader -/
theorem OwnsN.form {w : World} {B : Nat} {v : Value} {zs : List Int} (h : OwnsN w B v zs) :
    ∃ a cap, v = .slice a zs.length cap ∧ BytesAt w a zs ∧ zs.length ≤ cap ∧ cap ≤ maxLen ∧ (zs ≠ [] → ∃ g, a = some ⟨g, 0, none⟩) ∧ (zs = [] → a = none ∧ cap = 0) := by
  by_cases hn : zs = []
  · subst hn
    exact ⟨none, 0, h.2.1 rfl, Or.inl rfl, Nat.le_refl _, Nat.zero_le _, fun h => absurd rfl h, fun _ => ⟨rfl, rfl⟩⟩
  · obtain ⟨g, c, e, _, _, hb, hc, hm, _⟩ := (h.owns hn).form
    exact ⟨_, c, e, hb, hc, hm, fun _ => ⟨g, rfl⟩, fun h => absurd h hn⟩
theorem run_append_bytesN (w : World) (ty : TypeId) (B : Nat) (v : Value) (xs : List Int) (hown : OwnsN w B v xs) (a : Option Addr) (cap : Nat) (zs : List Int) (hb : BytesAt w a zs)
    (hl : xs.length + zs.length ≤ 140737488355328) (hB : B ≤ w.heap.size) :
    ∃ v' w', (Builtin.append_ #[28, 28] ty #[v, .slice a zs.length cap]).run Tryd.prog w = .ok v' w' ∧ OwnsN w' B v' (xs ++ zs) ∧ w.grownBy w' v.ownBlock := by
  obtain ⟨i0, hi, hz0, hz1, hz2⟩ := info_parts info5
  have rf : w.grownBy w v.ownBlock := ⟨rfl, rfl, rfl, Nat.le_refl _, fun _ _ _ => rfl⟩
  by_cases hx : xs = []
  · subst hx
    have hv := hown.2.1 rfl
    subst hv
    rcases hb with rfl | ⟨b, off, rfl, hc⟩
    · refine ⟨.slice none 0 0, w, ?_, hown, rf⟩
      cases a with
      | none => simp [Builtin.append_, run_underlying Tryd.underlying28, sizeOf, typeInfo, hi, Builtin.lenOf, Builtin.firstCells]
      | some ad => simp [Builtin.append_, run_underlying Tryd.underlying28, sizeOf, typeInfo, hi, Builtin.lenOf, Builtin.firstCells, loadCells, loadCellsFrom]
    · by_cases hz : zs = []
      · subst hz
        refine ⟨.slice none 0 0, w, ?_, hown, rf⟩
        simp [Builtin.append_, run_underlying Tryd.underlying28, sizeOf, typeInfo, hi, Builtin.lenOf, Builtin.firstCells, loadCells, loadCellsFrom]
      · obtain ⟨v', w', hr, ho, hg, hn⟩ := run_append_own_wide (P := Tryd.prog) w B 28 ty 5 i0 (.int .u8 0) 1 1 Tryd.underlying28 hi hz0 hz1 hz2 rfl (by decide) (.slice none 0 0) 0 [] hown.1
          ⟨b, off, none⟩ zs.length cap (cellsOf zs) (by simp [cellsOf]) (fun j u hj => by
            have hj' : j < zs.length := by
              have := (List.getElem?_eq_some_iff.1 hj).1
              simpa [cellsOf] using this
            have h := hc j hj'
            simp [cellsOf, hj'] at hj
            subst hj
            rw [Go.WideShapes.add_plain]
            simpa [hj'] using h) (cellsOf_one zs) (by simp only [maxLen]; simp at hl; omega) (by simp at hl; omega) hB
        refine ⟨v', w', hr, ⟨?_, fun h => absurd h (by simpa using hz), fun _ e => ?_⟩, hg⟩
        · simpa using ho
        · have := (hn.1 e).2
          exact hz (List.eq_nil_of_length_eq_zero this)
  · obtain ⟨v', w', hr, ho, hg⟩ := run_append_bytes w ty B v xs (hown.owns hx) a cap zs hb hl hB
    exact ⟨v', w', hr, ⟨ho.1, fun h => absurd h (by simp [hx]), fun _ => ho.2⟩, hg⟩
theorem wpList_append_bytesN {w : World} {ops : Array Oper} {rest : List Oper} {o : Oper} {a : Act} {Q : Exit → Act → World → Prop} (hgd : o.guard = none) (s x : Operand)
    (ho : o.op = .call { callee := .builtin .append, args := #[s, x], argTypes := #[28, 28] })
    (w0 : World) (v : Value) (xs : List Int) (hs : a.eval s = v) (hown : OwnsN w w0.heap.size v xs) (hbel : Below w0.heap.size w0 w) (p : Option Addr) (cap n : Nat) (zs : List Int) (hn : n = zs.length) (hx : a.eval x = .slice p n cap) (hb : BytesAt w p zs)
    (hl : xs.length + zs.length ≤ 140737488355328)
    (h : ∀ v' w', OwnsN w' w0.heap.size v' (xs ++ zs) → Below w0.heap.size w0 w' → wpList Tryd.prog ops Q rest (a.put o.dst v') w') : wpList Tryd.prog ops Q (o :: rest) a w := by
  subst hn
  refine wpList_plain hgd fun K hK => ?_
  obtain ⟨v', w', hr, h2, h3⟩ := run_append_bytesN w o.type w0.heap.size v xs hown p cap zs hb hl hbel.size
  unfold Oper.wp execOp
  simp only [ho, resolve, invoke, builtin, Sem.run_bind, Sem.run_pure, Result.andThen_ok, List.map_toArray, List.map_cons, List.map_nil, hs, hx, hr]
  exact hK _ _ (h v' w' h2 (hbel.grown h3 hbel.size hown.block))
end Go.Proofs.YtdngileimmgdnaaDoor
