/- heronref01's More and Of; heronref12's low and Summed. -/
import Derived.Test.YtdngileimmgdnaaDoorG12
import Derived.Deep.DeepMust
namespace Go.Proofs.YtdngileimmgdnaaDoor
open Go.RowKit
attribute [local go_sem ↓] Go.wp_at_zero Go.wp_at_succ

theorem it_succ (n w : Nat) : Crc.it (n + 1) w = Crc.st (Crc.it n w) := by rw [Crc.it_add n 1 w]; rfl
theorem st_odd {w : Nat} (h : w % 2 = 1) : Crc.st w = w / 2 ^^^ 3988292384 := by unfold Crc.st; rw [if_pos h]
theorem st_even {w : Nat} (h : ¬ w % 2 = 1) : Crc.st w = w / 2 := by unfold Crc.st; rw [if_neg h, Nat.xor_zero]

theorem st_odd_i {y : Nat} (hy : y < 4294967296) (h : ((y : Int) % 2 == 1) = true) : bits .xor .u32 ((y : Int) / 2) 3988292384 = ((Crc.st y : Nat) : Int) := by
  have h1 : y % 2 = 1 := by simp at h; omega
  have h2 := u32_xor_nat (y / 2) 3988292384 (by omega) (by decide)
  rw [st_odd h1, ← h2, show ((y : Int) / 2) = ((y / 2 : Nat) : Int) from by omega]
  rfl
theorem st_even_i {y : Nat} (h : ((y : Int) % 2 == 1) = false) : ((y : Int) / 2) = ((Crc.st y : Nat) : Int) := by
  have h1 : ¬ y % 2 = 1 := by simp at h; omega
  rw [st_even h1]; omega
theorem val_int {k : IntKind} {a b : Int} (h : a = b) : Value.int k a = Value.int k b := by rw [h]

set_option maxHeartbeats 1000000 in
theorem refMore_core (s : Nat) (b off cap n : Nat) (zs : List Int) (w : World) (hs : s < 4294967296) (hn : zs.length = n) (hl : n ≤ maxLen)
    (hc : ∀ k, k < zs.length → w.cell? ⟨b, off + k, none⟩ = some (.int .u8 (zs.getD k 0))) (hb : Crc.Bs zs) :
    Calls Tryd.prog 53 #[.int .u32 s, .slice (some ⟨b, off, none⟩) n cap] w fun e w' => e = .returned (.int .u32 (Crc.more s zs : Nat)) ∧ w' = w := by
  unfold maxLen at hl
  have hturn := u32_xor_nat s 4294967295 hs (by decide)
  have hs' : s ^^^ 4294967295 < 4294967296 := Crc.xor_lt hs (by decide)
  obtain ⟨s1, hs1⟩ : ∃ s1, s1 = s ^^^ 4294967295 := ⟨_, rfl⟩
  have HM : Hid (Crc.more s zs = Crc.run s1 zs ^^^ 4294967295) := by rw [hs1]; rfl
  rw [← hs1] at hs' hturn
  have hturn' : bits .xor .u32 (s : Int) 4294967295 = (s1 : Int) := hturn
  clear hs1 hturn
  have HN : Hid (zs.length = n) := hn
  have HC : Hid (∀ k, k < zs.length → w.cell? ⟨b, off + k, none⟩ = some (.int .u8 (zs.getD k 0))) := hc
  have HB : Hid (Crc.Bs zs) := hb
  clear hc hb hn
  go_enter Tryd.func53, Tryd.ntmps53
  go_wp2
  go_loop [5, 6] (fun v i => ∃ k : Nat, k ≤ n ∧ i = .int .i64 k ∧ v = .int .u32 (Crc.run s1 (zs.take k) : Nat)) (fun _ i => n - (intOf i).toNat)
  case atStart => exact ⟨0, Nat.zero_le _, rfl, rfl⟩
  case round =>
    obtain ⟨k, hk, rfl, rfl⟩ := hrel
    have hr := Crc.run_lt hs' (bs_take HB.out k)
    by_cases hlt : k < n
    · have hlt' : k < zs.length := by rw [HN.out]; exact hlt
      have hcell := HC.out k hlt'
      have hbd := bs_at HB.out hlt'
      have hR : Crc.run s1 (zs.take (k + 1)) = Crc.it 8 (Crc.run s1 (zs.take k) ^^^ (zs.getD k 0).toNat) := by rw [take_snoc zs k hlt', Crc.run_snoc, Crc.up_eq]
      obtain ⟨c, hcc⟩ : ∃ c : Nat, zs.getD k 0 = (c : Int) := ⟨(zs.getD k 0).toNat, by omega⟩
      obtain ⟨r, hrr⟩ : ∃ r, r = Crc.run s1 (zs.take k) := ⟨_, rfl⟩
      rw [hcc, ← hrr, Int.toNat_natCast] at hR
      rw [hcc] at hcell hbd
      rw [← hrr] at hr ⊢
      have hx := u32_xor_nat r c hr (by omega)
      have hx' := Crc.xor_lt hr (show c < 4294967296 by omega)
      obtain ⟨x, hxx⟩ : ∃ x, x = r ^^^ c := ⟨_, rfl⟩
      rw [← hxx] at hx hx' hR
      have HR : Hid (Crc.run s1 (zs.take (k + 1)) = Crc.it 8 x) := hR
      clear hrr hcc hlt' hR hxx
      go_wp2
      go_loop [5, 7] (fun v i => ∃ j : Nat, j ≤ 8 ∧ i = .int .i64 j ∧ v = .int .u32 (Crc.it j x : Nat)) (fun _ i => 8 - (intOf i).toNat)
      case atStart => exact ⟨0, by omega, rfl, rfl⟩
      case round =>
        obtain ⟨j, hj, rfl, rfl⟩ := hrel
        have hy := Crc.it_lt j hx'
        have HJ : Hid (Crc.it (j + 1) x = Crc.st (Crc.it j x)) := it_succ j x
        obtain ⟨y, hyy⟩ : ∃ y, y = Crc.it j x := ⟨_, rfl⟩
        rw [← hyy] at hy HJ ⊢
        have HY : Hid (y = Crc.it j x) := hyy
        clear hyy
        by_cases hj8 : j < 8
        · go_wp2
          · go_round
            case rel => exact ⟨j + 1, by omega, by go_num, val_int (by rw [HJ.out]; exact st_odd_i hy (by assumption))⟩
            case measure => simp [intOf]; omega
          · go_round
            case rel => exact ⟨j + 1, by omega, by go_num, val_int (by rw [HJ.out]; exact st_even_i (by assumption))⟩
            case measure => simp [intOf]; omega
        · have hj8' : j = 8 := by omega
          subst hj8'
          go_wp2
          go_round
          case rel => exact ⟨k + 1, by omega, by go_num, by rw [HR.out, ← HY.out]⟩
          case measure => simp [intOf]; omega
    · have ht : zs.take k = zs := List.take_of_length_le (by rw [HN.out]; omega)
      rw [ht] at hr ⊢
      have hturn2 : bits .xor .u32 ((Crc.run s1 zs : Nat) : Int) 4294967295 = ((Crc.run s1 zs ^^^ 4294967295 : Nat) : Int) := u32_xor_nat (Crc.run s1 zs) 4294967295 hr (by decide)
      clear ht
      go_wp2
      go_ret
      exact ⟨ret_int (by rw [HM.out]), rfl⟩

theorem refMore_none (s : Nat) (a : Option Addr) (cap : Nat) (w : World) (hs : s < 4294967296) :
    Calls Tryd.prog 53 #[.int .u32 s, .slice a 0 cap] w fun e w' => e = .returned (.int .u32 s) ∧ w' = w := by
  have hturn : bits .xor .u32 (s : Int) 4294967295 = ((s ^^^ 4294967295 : Nat) : Int) := u32_xor_nat s 4294967295 hs (by decide)
  have hs' : s ^^^ 4294967295 < 4294967296 := Crc.xor_lt hs (by decide)
  have hM : (s ^^^ 4294967295) ^^^ 4294967295 = s := by simp [Nat.xor_assoc]
  obtain ⟨s1, hs1⟩ : ∃ s1, s1 = s ^^^ 4294967295 := ⟨_, rfl⟩
  rw [← hs1] at hs' hturn hM
  have HM : Hid (s1 ^^^ 4294967295 = s) := hM
  clear hs1 hM
  have hturn2 : bits .xor .u32 (s1 : Int) 4294967295 = ((s1 ^^^ 4294967295 : Nat) : Int) := u32_xor_nat s1 4294967295 hs' (by decide)
  go_enter Tryd.func53, Tryd.ntmps53
  go_wp2
  go_loop [5, 6] (fun n i => i = .int .i64 0 ∧ n = .int .u32 s1) (fun _ _ => 0)
  case atStart => exact ⟨rfl, rfl⟩
  case round =>
    obtain ⟨rfl, rfl⟩ := hrel
    go_wp2
    go_ret
    exact ⟨ret_int (by rw [HM.out]), rfl⟩


theorem refOf_any (a : Option Addr) (n cap : Nat) (zs : List Int) (w : World) (hn : n = zs.length) (hl : n ≤ maxLen) (hc : BytesAt w a zs) (hb : Rec.Bs zs) :
    Calls Tryd.prog 45 #[.slice a n cap] w fun e w' => e = .returned (.int .u32 (Crc.more 0 zs : Nat)) ∧ w' = w := by
  have HC : Hid (Calls Tryd.prog 53 #[.int .u32 (0 : Nat), .slice a n cap] w fun e w' => e = .returned (.int .u32 (Crc.more 0 zs : Nat)) ∧ w' = w) := by
    rcases hc with rfl | ⟨b, off, rfl, hc⟩
    · subst hn
      rw [Crc.more_nil]
      exact refMore_none 0 a cap w (by decide)
    · exact refMore_core 0 b off cap n zs w (by decide) hn.symm hl hc hb
  clear hn hl hc hb
  go_enter Tryd.func45, Tryd.ntmps45
  go_wp2_with fail
  refine HC.out.mono ?_
  rintro e w1 ⟨rfl, rfl⟩
  go_wp2
  go_ret
  exact ⟨rfl, rfl⟩
/-- a row that may be appended to: of the call's own, or full -/
def Row (w : World) (B : Nat) (v : Value) (xs : List Int) : Prop := Owns w B v xs ∨ ∃ g, v = .slice (some ⟨g, 0, none⟩) xs.length xs.length ∧ BytesAt w (some ⟨g, 0, none⟩) xs ∧ g < w.heap.size ∧ xs ≠ []
theorem Row.later {w w' : World} {B : Nat} {v : Value} {xs : List Int} (h : Row w B v xs) (hb : Below w.heap.size w w') : Row w' B v xs := by
  rcases h with h | ⟨g, e, hg, hl, hn⟩
  · exact .inl (h.later hb)
  · exact .inr ⟨g, e, bytesAt_later hb hg, by have := hb.size; omega, hn⟩
theorem run_append_row (w : World) (ty : TypeId) (B : Nat) (v : Value) (xs : List Int) (hown : Row w B v xs) (a : Option Addr) (cap : Nat) (zs : List Int) (hb : BytesAt w a zs) (hz : zs ≠ [])
    (hl : xs.length + zs.length ≤ 140737488355328) (hB : B ≤ w.heap.size) :
    ∃ v' w', (Builtin.append_ #[28, 28] ty #[v, .slice a zs.length cap]).run Tryd.prog w = .ok v' w' ∧ Owns w' B v' (xs ++ zs) ∧ (∀ w0 : World, w0.heap.size = B → Below B w0 w → Below B w0 w') := by
  rcases hown with hown | ⟨g, rfl, hg, hgl, hxn⟩
  · obtain ⟨v', w', hr, h1, h2⟩ := run_append_bytes w ty B v xs hown a cap zs hb hl hB
    obtain ⟨g, c, rfl, hBg, _⟩ := hown.form
    exact ⟨v', w', hr, h1, fun w0 _ hbel => hbel.grown h2 hB (fun k hk => by simp [Value.ownBlock] at hk; omega)⟩
  · obtain ⟨i0, hi, hz0, hz1, hz2⟩ := info_parts info5
    obtain ⟨b2, off2, rfl, hc2⟩ : ∃ b off, a = some ⟨b, off, none⟩ ∧ ∀ k, k < zs.length → w.cell? ⟨b, off + k, none⟩ = some (.int .u8 (zs.getD k 0)) := by
      rcases hb with h | h
      · exact absurd h hz
      · exact h
    obtain ⟨b1, off1, e1, hc1⟩ : ∃ b off, (some ⟨g, 0, none⟩ : Option Addr) = some ⟨b, off, none⟩ ∧ ∀ k, k < xs.length → w.cell? ⟨b, off + k, none⟩ = some (.int .u8 (xs.getD k 0)) := by
      rcases hg with h | h
      · exact absurd h hxn
      · exact h
    cases e1
    have cellsAt : ∀ (b off : Nat) (l : List Int), (∀ k, k < l.length → w.cell? ⟨b, off + k, none⟩ = some (.int .u8 (l.getD k 0))) → ∀ j u, (cellsOf l)[j]? = some u → w.cell? ((⟨b, off, none⟩ : Addr).add j) = some u := fun b off l h j u hj => by
      have hj' : j < l.length := by
        have := (List.getElem?_eq_some_iff.1 hj).1
        simpa [cellsOf] using this
      have h := h j hj'
      simp [cellsOf, hj'] at hj
      subst hj
      rw [Go.WideShapes.add_plain]
      simpa [hj'] using h
    have hzl : 1 ≤ zs.length := by cases zs with
      | nil => exact absurd rfl hz
      | cons z l => simp
    have hr := run_append_grow (P := Tryd.prog) w 28 ty 5 i0 (.int .u8 0) Tryd.underlying28 hi hz0 ⟨g, 0, none⟩ xs.length xs.length (cellsOf xs) (by rw [hz1]; simp [cellsOf]) (cellsAt g 0 xs hc1) ⟨b2, off2, none⟩ zs.length cap (cellsOf zs) (by rw [hz1]; simp [cellsOf]) (cellsAt b2 off2 zs hc2) (by omega) (by omega) (growslice_fits_wide (by omega) (by rw [hz2]; omega))
    have hge := grownCap_ge w (xs.length + zs.length) xs.length 5
    have hcm : grownCap w (xs.length + zs.length) xs.length 5 ≤ maxLen := grownCap_le_maxLen w (xs.length + zs.length) xs.length 5 (by simp only [maxLen]; omega)
    refine ⟨_, _, hr, ⟨⟨by simp [cellsOf], .inr ⟨w.heap.size, _, _, by simp, hB, heap_alloc_new w.drew _, by simpa using hge, hcm, ?_, ?_⟩⟩, by simp⟩, fun w0 h0 hbel => hbel.drew.alloc (by simpa using hB) _⟩
    · simp only [Array.size_append, List.size_toArray, size_zeroCells, cellsOf_length, Value.cells]
      simp
      omega
    · rw [cellsOf_append, Array.toList_append, Array.toList_append, List.length_append, Nat.mul_one, List.take_append_of_le_length (by simp [cellsOf])]
      exact List.take_of_length_le (by simp [cellsOf])
theorem wpList_append_row {w : World} {ops : Array Oper} {rest : List Oper} {o : Oper} {a : Act} {Q : Exit → Act → World → Prop} (hgd : o.guard = none) (s x : Operand)
    (ho : o.op = .call { callee := .builtin .append, args := #[s, x], argTypes := #[28, 28] })
    (w0 : World) (v : Value) (xs : List Int) (hs : a.eval s = v) (hown : Row w w0.heap.size v xs) (hbel : Below w0.heap.size w0 w) (p : Option Addr) (cap n : Nat) (zs : List Int) (hn : n = zs.length) (hx : a.eval x = .slice p n cap) (hb : BytesAt w p zs) (hz : zs ≠ [])
    (hl : xs.length + zs.length ≤ 140737488355328)
    (h : ∀ v' w', Owns w' w0.heap.size v' (xs ++ zs) → Below w0.heap.size w0 w' → wpList Tryd.prog ops Q rest (a.put o.dst v') w') : wpList Tryd.prog ops Q (o :: rest) a w := by
  subst hn
  refine wpList_plain hgd fun K hK => ?_
  obtain ⟨v', w', hr, h2, h3⟩ := run_append_row w o.type w0.heap.size v xs hown p cap zs hb hz hl hbel.size
  unfold Oper.wp execOp
  simp only [ho, resolve, invoke, builtin, Sem.run_bind, Sem.run_pure, Result.andThen_ok, List.map_toArray, List.map_cons, List.map_nil, hs, hx, hr]
  exact hK _ _ (h v' w' h2 (h3 w0 rfl hbel))
set_option maxHeartbeats 1000000 in
theorem low_any (w0 : World) (v : Value) (xs : List Int) (x n : Nat) (w : World) (hx : x < 9223372036854775808) (hn : n ≤ 8) (hn1 : 1 ≤ n) (hxs : xs.length ≤ 3000000) (hown : Row w w0.heap.size v xs) (hbel : Below w0.heap.size w0 w) :
    Calls Tryd.prog 30 #[v, .int .i64 (x : Nat), .int .i64 (n : Nat)] w fun e w' => ∃ v', e = .returned v' ∧ Owns w' w0.heap.size v' (xs ++ Rec.num x n) ∧ Below w0.heap.size w0 w' := by
  have HO : Hid (Row w w0.heap.size v xs) := hown
  have HB : Hid (Below w0.heap.size w0 w) := hbel
  clear hown hbel
  go_enter Tryd.func30, Tryd.ntmps30
  go_wp2
  go_loopw [0, 1, 7] (fun b y i u => ∃ k : Nat, k ≤ n ∧ i = .int .i64 (k : Nat) ∧ y = .int .i64 ((x / 256 ^ k : Nat) : Int) ∧ Hid (Row u w0.heap.size b (xs ++ Rec.num x k) ∧ (0 < k → Owns u w0.heap.size b (xs ++ Rec.num x k))) ∧ Hid (Below w0.heap.size w0 u)) (fun _ _ i _ => n - (intOf i).toNat)
  case atStart => exact ⟨0, Nat.zero_le _, rfl, by simp, by have := HO.out; show _ ∧ _; rw [show Rec.num x 0 = [] from rfl, List.append_nil]; exact ⟨this, fun h => absurd h (by decide)⟩, HB⟩
  case round =>
    obtain ⟨k, hk, rfl, rfl, ho, hb⟩ := hrel
    obtain ⟨y, hy⟩ : ∃ y, x / 256 ^ k = y := ⟨_, rfl⟩
    have HY : Hid (x / 256 ^ k = y) := hy
    have hyx : y < 9223372036854775808 := by rw [← hy]; exact Nat.lt_of_le_of_lt (Nat.div_le_self _ _) hx
    rw [hy]
    clear hy
    by_cases hlt : k < n
    · obtain ⟨q, hq⟩ : ∃ q : Nat, y % 256 = q := ⟨_, rfl⟩
      have hq1 : (y : Int).tmod 256 = (q : Int) := by rw [← hq]; simp [Int.tmod_eq_emod_of_nonneg]
      have hq2 : q < 256 := by rw [← hq]; exact Nat.mod_lt _ (by decide)
      have hq3 : (q : Int) % 256 = (q : Int) := by omega
      have hqd : (y : Int).tdiv 256 = ((y / 256 : Nat) : Int) := by rw [Int.tdiv_eq_ediv_of_nonneg (by omega)]; rfl
      have HQ : Hid (y % 256 = q) := hq
      clear hq
      have hrf : ∃ g c, u0 = .slice (some ⟨g, 0, none⟩) (xs ++ Rec.num x k).length c := by
        rcases ho.out.1 with h | ⟨g, e, _⟩
        · obtain ⟨g, c, e, _⟩ := h.form
          exact ⟨g, c, e⟩
        · exact ⟨g, _, e⟩
      obtain ⟨g, c, rfl⟩ := hrf
      have HZ : Hid (w0.heap.size ≤ wr.heap.size) := hb.out.size
      go_wp2_with (at_builtin; go_must (refine wpList_append_row rfl (.tmp 13) (.tmp 17) rfl w0 _ _ rfl (ho.out.1.later ((Below.refl _ _).alloc (Nat.le_refl _) _)) (hb.out.alloc HZ.out _) _ 1 1 [(q : Int)] rfl rfl (bytesAt_new wr [(q : Int)] 5 (0, 0)) (by simp) (by simp [Rec.num_length]; omega) ?_; intro v5 w5 ho5 hb5; have HO5 : Hid (Owns w5 w0.heap.size v5 (xs ++ Rec.num x k ++ [(q : Int)])) := ho5; have HB5 : Hid (Below w0.heap.size w0 w5) := hb5; clear ho5 hb5))
      go_roundw
      case rel =>
        have h : Owns w5 w0.heap.size v5 (xs ++ Rec.num x (k + 1)) := by
          rw [Rec.num_snoc, HY.out, HQ.out, ← List.append_assoc]
          exact HO5.out
        refine ⟨k + 1, by omega, by go_num, ?_, ⟨.inl h, fun _ => h⟩, HB5⟩
        rw [Nat.pow_succ, ← Nat.div_div_eq_div_mul, HY.out]
        rfl
      case measure => simp [intOf]; omega
    · obtain rfl : k = n := by omega
      have hbb := ho.out.2 (by omega)
      go_wp2
      exact bodyPost_ret (v := u0) (by simp [results, Tryd.results30, go_sem]) rfl ⟨_, rfl, hbb, hb.out⟩
set_option maxHeartbeats 1000000 in
theorem summed_any (w0 : World) (v : Value) (xs : List Int) (w : World) (hxs : xs.length ≤ 3000000) (hbs : Rec.Bs xs) (hown : Owns w w0.heap.size v xs) (hbel : Below w0.heap.size w0 w) :
    Calls Tryd.prog 31 #[v] w fun e w' => ∃ v', e = .returned v' ∧ Owns w' w0.heap.size v' (xs ++ sumB xs) ∧ Below w0.heap.size w0 w' := by
  obtain ⟨g, c, rfl, _, _, hbt, _⟩ := hown.form
  have hcr : Crc.more 0 xs < 4294967296 := Crc.more_lt (by decide) hbs
  have HOF : Hid (Calls Tryd.prog 45 #[.slice (some ⟨g, 0, none⟩) xs.length c] w fun e w' => e = .returned (.int .u32 (Crc.more 0 xs : Nat)) ∧ w' = w) := refOf_any _ xs.length c xs w rfl (by unfold maxLen; omega) hbt hbs
  have HLO : Hid (Calls Tryd.prog 30 #[.slice (some ⟨g, 0, none⟩) xs.length c, .int .i64 (Crc.more 0 xs : Nat), .int .i64 (4 : Nat)] w fun e w' => ∃ v', e = .returned v' ∧ Owns w' w0.heap.size v' (xs ++ Rec.num (Crc.more 0 xs) 4) ∧ Below w0.heap.size w0 w') := low_any w0 _ xs (Crc.more 0 xs) 4 w (by omega) (by decide) (by decide) hxs (.inl hown) hbel
  have HSB : Hid (sumB xs = Rec.num (Crc.more 0 xs) 4) := rfl
  obtain ⟨M, hM⟩ : ∃ M, Crc.more 0 xs = M := ⟨_, rfl⟩
  rw [hM] at HOF HLO hcr HSB
  clear hM hown hbel hbt hbs
  go_enter Tryd.func31, Tryd.ntmps31
  go_wp2_with fail
  refine HOF.out.mono ?_
  rintro e w1 ⟨rfl, rfl⟩
  clear HOF
  go_wp2_with fail
  refine HLO.out.mono ?_
  rintro e w2 ⟨v', rfl, ho, hb⟩
  have HO : Hid (Owns w2 w0.heap.size v' (xs ++ Rec.num M 4)) := ho
  have HB : Hid (Below w0.heap.size w0 w2) := hb
  clear ho hb HLO
  go_wp2
  exact bodyPost_ret (v := v') (by simp [results, Tryd.results31, go_sem]) rfl ⟨_, rfl, by rw [HSB.out]; exact HO.out, HB.out⟩
end Go.Proofs.YtdngileimmgdnaaDoor
