/- EreJoins, walked. -/
import Derived.Test.YtlcnmfgmgiijpaaG38
import Derived.Test.YtlcnmfgmgiijpaaG34
namespace Go.Proofs.Ytlcnmfgmgiijpaa
open Go.RowKit
attribute [local go_sem ↓] Go.wp_at_zero Go.wp_at_succ

theorem parse_two (p : ByteArray) (w : World) (gm : GM w) : Calls Try.prog 9 #[.string p] w fun e w' => Below w.heap.size w w' ∧ ∃ (x : Nd) (a c : Nat), e = .returned (.tuple #[x.val, .int .i64 (a : Nat), .int .i64 (c : Nat)]) ∧ a ≤ 1024 ∧ ((c = 0 ∧ ∃ t j, parseOf p = .ok t j ∧ NodeAt (fun _ => True) w' t x) ∨ 0 < c ∧ c ≤ 48) := by
  refine (Parse_any p w gm).mono (fun e w' h => ?_)
  unfold ParsePost at h
  obtain ⟨h1, h2⟩ := h
  refine ⟨h1, ?_⟩
  cases hc : parseOf p with
  | ok t j =>
    rw [hc] at h2
    obtain ⟨x, he, hx⟩ := h2
    exact ⟨x, 0, 0, he, by omega, .inl ⟨rfl, t, j, rfl, hx.keep (fun _ _ _ => trivial) (fun _ _ _ => rfl)⟩⟩
  | bad a c =>
    rw [hc] at h2
    obtain ⟨b1, b2, b3⟩ := parse_bad hc
    unfold Code at b2
    refine ⟨zeroNd, a, c, h2, ?_, .inr (by omega)⟩
    omega
  | out => rw [hc] at h2; exact h2.elim
/-- what a pattern put together tells: the tree, or too big -/
def Res (S : ByteArray) (T : Tr) : Prop := (placesOf (up T) ≤ 2048 ∧ parseOf S = .ok T S.size) ∨ (2048 < placesOf (up T) ∧ parseOf S = .bad 0 48)
theorem res_of {S : ByteArray} {T : Tr} (hs : S.size ≤ 1024) (hn : ∀ i, byt S i ≠ 10) (h : patOf S = .ok T S.size) : Res S T := by
  unfold Res
  rw [parse_of hs hn, whole_ok h]
  by_cases e : 2048 < placesOf (up T)
  · exact Or.inr ⟨e, by rw [if_pos e]⟩
  · exact Or.inl ⟨by omega, by rw [if_neg e]⟩
def NN (a : ByteArray) : Prop := ∀ i, byt a i ≠ 10
theorem nn_app {a b : ByteArray} (ha : NN a) (hb : NN b) : NN (a ++ b) := fun i => by
  rw [byt_app]
  split
  · exact ha i
  · exact hb _
theorem nn_one {c : UInt8} (h : c ≠ 10) : NN ⟨#[c]⟩ := fun i => by
  rw [byt_one]
  split
  · intro e
    exact h (UInt8.toNat_inj.1 e)
  · decide
theorem nn_two {c d : UInt8} (h : c ≠ 10) (h' : d ≠ 10) : NN ⟨#[c, d]⟩ := by
  have e : (⟨#[c, d]⟩ : ByteArray) = ⟨#[c]⟩ ++ ⟨#[d]⟩ := rfl
  rw [e]
  exact nn_app (nn_one h) (nn_one h')
theorem nn_empty : NN ⟨#[]⟩ := fun i => by rw [byt_list]; simp
theorem one8_ne {n : Nat} (h : 48 ≤ n) (h' : n ≤ 57) : NN (one8 n) := by
  apply nn_one
  intro e
  have := congrArg UInt8.toNat e
  simp at this
  omega
theorem nn_dec {n : Nat} (h : n ≤ 255) : NN (decTo n ⟨#[]⟩) := by
  unfold decTo
  split
  · exact nn_app (one8_ne (by omega) (by omega)) nn_empty
  · split
    · exact nn_app (one8_ne (by omega) (by omega)) (nn_app (one8_ne (by omega) (by omega)) nn_empty)
    · exact nn_app (one8_ne (by omega) (by omega)) (nn_app (one8_ne (by omega) (by omega)) (nn_app (one8_ne (by omega) (by omega)) nn_empty))
theorem dec_size {n : Nat} : (decTo n ⟨#[]⟩).size ≤ 3 := by
  have e : ∀ n, (one8 n).size = 1 := fun _ => rfl
  have e0 : (⟨#[]⟩ : ByteArray).size = 0 := rfl
  unfold decTo
  split
  · rw [ByteArray.size_append, e, e0]; omega
  · split
    · rw [ByteArray.size_append, ByteArray.size_append, e, e, e0]; omega
    · rw [ByteArray.size_append, ByteArray.size_append, ByteArray.size_append, e, e, e, e0]; omega
theorem joins_plain {p q : ByteArray} {t u : Tr} {j k L : Nat} (hp : parseOf p = .ok t j) (hq : parseOf q = .ok u k) (h1 : ¬ 0 < (barsOf p).n) (h2 : ¬ 0 < (barsOf q).n) (h3 : p.size + q.size ≤ 1010) (h4 : ¬ 63 < (barsOf p).m) (h5 : ¬ 63 < (barsOf q).m) (hL : L ≤ 255) :
    Res (p ++ ⟨#[124]⟩ ++ q) (.mk 4 Oct.none [t, u] 0 0) ∧ Res (⟨#[40]⟩ ++ p ++ ⟨#[41, 40]⟩ ++ q ++ ⟨#[41]⟩) (.mk 3 Oct.none [t, u] 0 0) ∧ Res (⟨#[40]⟩ ++ p ++ ⟨#[41, 123]⟩ ++ decTo L ⟨#[]⟩ ++ ⟨#[44, 125]⟩) (.mk 5 Oct.none [t] L (-1)) ∧ Good 1025 (.mk 4 Oct.none [t, u] 0 0) ∧ Good 1025 (.mk 3 Oct.none [t, u] 0 0) ∧ Good 1025 (.mk 5 Oct.none [t] L (-1)) := by
  obtain ⟨p1, p2, p3, p4, p5, p6⟩ := parse_ok hp
  obtain ⟨q1, q2, q3, q4, q5, q6⟩ := parse_ok hq
  obtain ⟨a, b, ka, kb, kc, kd, ke⟩ := read_bars p3
  obtain ⟨a', b', ka', kb', kc', kd', ke'⟩ := read_bars q3
  have e1 : barsOf p = ⟨p.size, 0, a, b⟩ := ka
  have e2 : barsOf q = ⟨q.size, 0, a', b'⟩ := ka'
  rw [e1] at h1 h4
  rw [e2] at h2 h5
  simp only at h1 h2 h4 h5
  have hd := dec_size (n := L)
  refine ⟨res_of ?_ ?_ (join_bar (ke (by omega)) (ke' (by omega)) kc kc'), res_of ?_ ?_ (join_row kd kd' (by omega) (by omega)), res_of ?_ ?_ (join_times kd (by omega) hL), .many 1025 4 (Or.inr rfl) _ (by simp) (by simp) ?_, .many 1025 3 (Or.inl rfl) _ (by simp) (by simp) ?_, .times 1025 t _ _ ?_ p5⟩
  · simp only [ByteArray.size_append, size_one]; omega
  · exact nn_app (nn_app p2 (nn_one (by decide))) q2
  · simp only [ByteArray.size_append, size_one, show (⟨#[41, 40]⟩ : ByteArray).size = 2 from rfl]; omega
  · exact nn_app (nn_app (nn_app (nn_app (nn_one (by decide)) p2) (nn_two (by decide) (by decide))) q2) (nn_one (by decide))
  · simp only [ByteArray.size_append, size_one, show (⟨#[41, 123]⟩ : ByteArray).size = 2 from rfl, show (⟨#[44, 125]⟩ : ByteArray).size = 2 from rfl]; omega
  · exact nn_app (nn_app (nn_app (nn_app (nn_one (by decide)) p2) (nn_two (by decide) (by decide))) (nn_dec hL)) (nn_two (by decide) (by decide))
  · intro x hx; simp at hx; rcases hx with rfl | rfl <;> assumption
  · intro x hx; simp at hx; rcases hx with rfl | rfl <;> assumption
  · unfold counted; simp; omega
/-- such a pattern, parsed -/
theorem parse_res {S : ByteArray} {T : Tr} (h : Res S T) (w : World) (gm : GM w) : Calls Try.prog 9 #[.string S] w fun e w' => Below w.heap.size w w' ∧ ∃ (x : Nd) (c : Int), e = .returned (.tuple #[x.val, .int .i64 0, .int .i64 c]) ∧ ((placesOf (up T) ≤ 2048 ∧ c = 0 ∧ NodeAt (fun _ => True) w' T x) ∨ (2048 < placesOf (up T) ∧ c = 48)) := by
  refine (Parse_any S w gm).mono (fun e w' hh => ?_)
  unfold ParsePost at hh
  obtain ⟨h1, h2⟩ := hh
  refine ⟨h1, ?_⟩
  rcases h with ⟨hl, hc⟩ | ⟨hl, hc⟩
  · rw [hc] at h2
    obtain ⟨x, he, hx⟩ := h2
    exact ⟨x, 0, he, .inl ⟨hl, rfl, hx.keep (fun _ _ _ => trivial) (fun _ _ _ => rfl)⟩⟩
  · rw [hc] at h2
    exact ⟨zeroNd, 48, h2, .inr ⟨hl, rfl⟩⟩
theorem least_of (l : Int) : ∃ L : Nat, L ≤ 255 ∧ wrap64 ((IntKind.u64.wrap l).tmod 256) = (L : Int) := by
  obtain ⟨m, hm⟩ : ∃ m, m = IntKind.u64.wrap l := ⟨_, rfl⟩
  have h0 : 0 ≤ m := by rw [hm]; simp [IntKind.wrap, IntKind.signed, IntKind.bits]; omega
  rw [← hm, Int.tmod_eq_emod_of_nonneg h0]
  refine ⟨(m % 256).toNat, by omega, ?_⟩
  have h1 : 0 ≤ m % 256 := by omega
  have h2 : m % 256 < 256 := by omega
  unfold wrap64
  omega

set_option maxRecDepth 4000 in
set_option maxHeartbeats 16000000 in
theorem joins_any (p q : ByteArray) (l : Int) (w : World) (gm : GM w) (hp : p.size ≤ 1000000000000000) (hq : q.size ≤ 1000000000000000) : Calls Try.prog 6 #[.string p, .string q, .int .i64 l] w fun e w' => e = .returned (.bool true) ∧ Below w.heap.size w w' := by
  have HGM : Hid (GM w) := gm
  clear gm
  go_enter Try.func6, Try.ntmps6
  go_wp2_with fail
  refine (known_any w HGM.out).mono ?_
  rintro e u1 ⟨rfl, k1⟩
  have HB : Hid (Below w.heap.size w u1) := k1
  clear k1
  go_wp2_with fail
  skip
  refine (parse_two p _ (HGM.out.later HB.out)).mono ?_
  rintro e u2 ⟨kk, x, a, c, rfl, ha, hxx⟩
  have HB2 : Hid (Below w.heap.size w u2) := below_step HB.out kk
  clear HB; have HB : Hid (Below w.heap.size w u2) := HB2.out; clear HB2
  have Hx : Hid ((c = 0 ∧ ∃ t j, parseOf p = .ok t j ∧ NodeAt (fun _ => True) u2 t x) ∨ 0 < c ∧ c ≤ 48) := hxx
  clear kk hxx
  have kk : Below u2.heap.size u2 (u2.alloc (.cells #[.int .i64 x.k, .int .u64 (Oct.word x.s 0 : Nat), .int .u64 (Oct.word x.s 1 : Nat), .int .u64 (Oct.word x.s 2 : Nat), .int .u64 (Oct.word x.s 3 : Nat), .slice x.a x.n x.c, .int .i64 x.mn, .int .i64 x.mx] 28)) := (Below.refl _ _).alloc (Nat.le_refl _) _
  have HNx : Hid (NB (u2.alloc (.cells #[.int .i64 x.k, .int .u64 (Oct.word x.s 0 : Nat), .int .u64 (Oct.word x.s 1 : Nat), .int .u64 (Oct.word x.s 2 : Nat), .int .u64 (Oct.word x.s 3 : Nat), .slice x.a x.n x.c, .int .i64 x.mn, .int .i64 x.mx] 28)) u2.heap.size x) := nb_new u2 x
  obtain ⟨u3, hu3⟩ : ∃ u3, (u2.alloc (.cells #[.int .i64 x.k, .int .u64 (Oct.word x.s 0 : Nat), .int .u64 (Oct.word x.s 1 : Nat), .int .u64 (Oct.word x.s 2 : Nat), .int .u64 (Oct.word x.s 3 : Nat), .slice x.a x.n x.c, .int .i64 x.mn, .int .i64 x.mx] 28)) = u3 := ⟨_, rfl⟩
  rw [hu3] at kk HNx
  have HB2 : Hid (Below w.heap.size w u3) := below_step HB.out kk
  clear HB; have HB : Hid (Below w.heap.size w u3) := HB2.out; clear HB2
  have Hx2 : Hid ((c = 0 ∧ ∃ t j, parseOf p = .ok t j ∧ NodeAt (fun _ => True) u3 t x) ∨ 0 < c ∧ c ≤ 48) := Hx.out.imp (fun h => ⟨h.1, h.2.imp fun _ h => h.imp fun _ h => ⟨h.1, h.2.later kk⟩⟩) id
  clear Hx; have Hx : Hid ((c = 0 ∧ ∃ t j, parseOf p = .ok t j ∧ NodeAt (fun _ => True) u3 t x) ∨ 0 < c ∧ c ≤ 48) := Hx2.out; clear Hx2
  have HUu3 : Hid ((u2.alloc (.cells #[.int .i64 x.k, .int .u64 (Oct.word x.s 0 : Nat), .int .u64 (Oct.word x.s 1 : Nat), .int .u64 (Oct.word x.s 2 : Nat), .int .u64 (Oct.word x.s 3 : Nat), .slice x.a x.n x.c, .int .i64 x.mn, .int .i64 x.mx] 28)) = u3) := hu3
  clear kk hu3
  obtain ⟨A3, hA3⟩ : ∃ A3, u2.heap.size = A3 := ⟨_, rfl⟩
  rw [hA3] at HNx
  have HAA3 : Hid (u2.heap.size = A3) := hA3
  clear hA3
  unfold Nd.val
  go_upto_region 4 with fail
  rw [HUu3.out, HAA3.out]
  clear HUu3 HAA3
  go_wp2_with fail
  refine (parse_two q _ (HGM.out.later HB.out)).mono ?_
  rintro e u4 ⟨kk, y, a2, c2, rfl, ha2, hxy⟩
  have HB2 : Hid (Below w.heap.size w u4) := below_step HB.out kk
  clear HB; have HB : Hid (Below w.heap.size w u4) := HB2.out; clear HB2
  have Hx2 : Hid ((c = 0 ∧ ∃ t j, parseOf p = .ok t j ∧ NodeAt (fun _ => True) u4 t x) ∨ 0 < c ∧ c ≤ 48) := Hx.out.imp (fun h => ⟨h.1, h.2.imp fun _ h => h.imp fun _ h => ⟨h.1, h.2.later kk⟩⟩) id
  clear Hx; have Hx : Hid ((c = 0 ∧ ∃ t j, parseOf p = .ok t j ∧ NodeAt (fun _ => True) u4 t x) ∨ 0 < c ∧ c ≤ 48) := Hx2.out; clear Hx2
  have HNx2 : Hid (NB u4 A3 x) := HNx.out.later kk
  clear HNx; have HNx : Hid (NB u4 A3 x) := HNx2.out; clear HNx2
  have Hy : Hid ((c2 = 0 ∧ ∃ t j, parseOf q = .ok t j ∧ NodeAt (fun _ => True) u4 t y) ∨ 0 < c2 ∧ c2 ≤ 48) := hxy
  clear kk hxy
  have kk : Below u4.heap.size u4 (u4.alloc (.cells #[.int .i64 y.k, .int .u64 (Oct.word y.s 0 : Nat), .int .u64 (Oct.word y.s 1 : Nat), .int .u64 (Oct.word y.s 2 : Nat), .int .u64 (Oct.word y.s 3 : Nat), .slice y.a y.n y.c, .int .i64 y.mn, .int .i64 y.mx] 28)) := (Below.refl _ _).alloc (Nat.le_refl _) _
  have HNy : Hid (NB (u4.alloc (.cells #[.int .i64 y.k, .int .u64 (Oct.word y.s 0 : Nat), .int .u64 (Oct.word y.s 1 : Nat), .int .u64 (Oct.word y.s 2 : Nat), .int .u64 (Oct.word y.s 3 : Nat), .slice y.a y.n y.c, .int .i64 y.mn, .int .i64 y.mx] 28)) u4.heap.size y) := nb_new u4 y
  obtain ⟨u5, hu5⟩ : ∃ u5, (u4.alloc (.cells #[.int .i64 y.k, .int .u64 (Oct.word y.s 0 : Nat), .int .u64 (Oct.word y.s 1 : Nat), .int .u64 (Oct.word y.s 2 : Nat), .int .u64 (Oct.word y.s 3 : Nat), .slice y.a y.n y.c, .int .i64 y.mn, .int .i64 y.mx] 28)) = u5 := ⟨_, rfl⟩
  rw [hu5] at kk HNy
  have HB2 : Hid (Below w.heap.size w u5) := below_step HB.out kk
  clear HB; have HB : Hid (Below w.heap.size w u5) := HB2.out; clear HB2
  have Hx2 : Hid ((c = 0 ∧ ∃ t j, parseOf p = .ok t j ∧ NodeAt (fun _ => True) u5 t x) ∨ 0 < c ∧ c ≤ 48) := Hx.out.imp (fun h => ⟨h.1, h.2.imp fun _ h => h.imp fun _ h => ⟨h.1, h.2.later kk⟩⟩) id
  clear Hx; have Hx : Hid ((c = 0 ∧ ∃ t j, parseOf p = .ok t j ∧ NodeAt (fun _ => True) u5 t x) ∨ 0 < c ∧ c ≤ 48) := Hx2.out; clear Hx2
  have HNx2 : Hid (NB u5 A3 x) := HNx.out.later kk
  clear HNx; have HNx : Hid (NB u5 A3 x) := HNx2.out; clear HNx2
  have Hy2 : Hid ((c2 = 0 ∧ ∃ t j, parseOf q = .ok t j ∧ NodeAt (fun _ => True) u5 t y) ∨ 0 < c2 ∧ c2 ≤ 48) := Hy.out.imp (fun h => ⟨h.1, h.2.imp fun _ h => h.imp fun _ h => ⟨h.1, h.2.later kk⟩⟩) id
  clear Hy; have Hy : Hid ((c2 = 0 ∧ ∃ t j, parseOf q = .ok t j ∧ NodeAt (fun _ => True) u5 t y) ∨ 0 < c2 ∧ c2 ≤ 48) := Hy2.out; clear Hy2
  have HUu5 : Hid ((u4.alloc (.cells #[.int .i64 y.k, .int .u64 (Oct.word y.s 0 : Nat), .int .u64 (Oct.word y.s 1 : Nat), .int .u64 (Oct.word y.s 2 : Nat), .int .u64 (Oct.word y.s 3 : Nat), .slice y.a y.n y.c, .int .i64 y.mn, .int .i64 y.mx] 28)) = u5) := hu5
  clear kk hu5
  obtain ⟨A5, hA5⟩ : ∃ A5, u4.heap.size = A5 := ⟨_, rfl⟩
  rw [hA5] at HNy
  have HAA5 : Hid (u4.heap.size = A5) := hA5
  clear hA5
  unfold Nd.val
  go_upto_region 5 with fail
  rw [HUu5.out, HAA5.out]
  clear HUu5 HAA5
  go_wp2_with fail
  refine (bars_any p _ (by omega)).mono ?_
  rintro e w' ⟨rfl, hw'⟩
  have hw' := hw'.symm
  subst hw'
  obtain ⟨X1, hX1⟩ : ∃ X, barsOf p = X := ⟨_, rfl⟩
  rw [hX1]
  have HX1 : Hid (barsOf p = X1) := hX1
  clear hX1
  go_wp2_with fail
  refine (bars_any q _ (by omega)).mono ?_
  rintro e w' ⟨rfl, hw'⟩
  have hw' := hw'.symm
  subst hw'
  obtain ⟨X2, hX2⟩ : ∃ X, barsOf q = X := ⟨_, rfl⟩
  rw [hX2]
  have HX2 : Hid (barsOf q = X2) := hX2
  clear hX2
  by_cases hc1 : c = 0
  rotate_left
  · have q1 : ((c : Int) != 0) = true := by simp; omega
    go_wp2_with fail
    refine (num_any ((c : Nat)) _).mono ?_
    rintro e w' ⟨rfl, hw'⟩
    have hw' := hw'.symm
    subst hw'
    go_wp2
    go_ret
    exact ⟨rfl, HB.out⟩
  go_wp2_with fail
  refine (num_any (0) _).mono ?_
  rintro e w' ⟨rfl, hw'⟩
  have hw' := hw'.symm
  subst hw'
  by_cases hc2 : c2 = 0
  rotate_left
  · have q2 : ((c2 : Int) != 0) = true := by simp; omega
    go_wp2_with fail
    refine (num_any ((c2 : Nat)) _).mono ?_
    rintro e w' ⟨rfl, hw'⟩
    have hw' := hw'.symm
    subst hw'
    go_wp2
    go_ret
    exact ⟨rfl, HB.out⟩
  go_wp2_with fail
  refine (num_any (0) _).mono ?_
  rintro e w' ⟨rfl, hw'⟩
  have hw' := hw'.symm
  subst hw'
  by_cases j1 : 0 < X1.n
  · skip
    go_wp2
    go_ret
    exact ⟨rfl, HB.out⟩
  by_cases j2 : 0 < X2.n
  · skip
    go_wp2
    go_ret
    exact ⟨rfl, HB.out⟩
  by_cases j3 : (1010 : Int) < (p.size : Int) + (q.size : Int)
  · skip
    go_wp2
    go_ret
    exact ⟨rfl, HB.out⟩
  by_cases j4 : 63 < X1.m
  · skip
    go_wp2
    go_ret
    exact ⟨rfl, HB.out⟩
  by_cases j5 : 63 < X2.m
  · skip
    go_wp2
    go_ret
    exact ⟨rfl, HB.out⟩
  obtain ⟨L, hL, hLL⟩ := least_of l
  have HLL : Hid (wrap64 ((IntKind.u64.wrap l).tmod 256) = (L : Int)) := hLL
  clear hLL
  go_upto_region 10 with fail
  rw [HLL.out]
  clear HLL
  rcases Hx.out with ⟨_, t, jj, hpo, hxx⟩ | hbad
  rotate_left
  · omega
  rcases Hy.out with ⟨_, u, kk2, hqo, hyy⟩ | hbad
  rotate_left
  · omega
  have HX : Hid (NodeAt (fun _ => True) u5 t x) := hxx
  have HY : Hid (NodeAt (fun _ => True) u5 u y) := hyy
  have hjp := joins_plain hpo hqo (by rw [HX1.out]; omega) (by rw [HX2.out]; omega) (by omega) (by rw [HX1.out]; omega) (by rw [HX2.out]; omega) hL
  obtain ⟨r1, r2, r3, g1, g2, g3⟩ := hjp
  have HR1 : Hid (Res _ _) := r1
  have HR2 : Hid (Res _ _) := r2
  have HR3 : Hid (Res _ _) := r3
  have HG1 : Hid (Good 1025 _) := g1
  have HG2 : Hid (Good 1025 _) := g2
  have HG3 : Hid (Good 1025 _) := g3
  have HS3 : Hid ((decTo L ⟨#[]⟩).size ≤ 3) := dec_size
  clear Hx Hy hpo hqo hxx hyy r1 r2 r3 g1 g2 g3 HX1 HX2
  obtain ⟨c0, c1, c2, c3, c4, c5, c6, c7⟩ := HNx.out.cells
  obtain ⟨d0, d1, d2, d3, d4, d5, d6, d7⟩ := HNy.out.cells
  skip
  have kk : Below u5.heap.size u5 (u5.alloc (.cells #[.int .i64 x.k, .int .u64 (Oct.word x.s 0 : Nat), .int .u64 (Oct.word x.s 1 : Nat), .int .u64 (Oct.word x.s 2 : Nat), .int .u64 (Oct.word x.s 3 : Nat), .slice x.a x.n x.c, .int .i64 x.mn, .int .i64 x.mx, .int .i64 y.k, .int .u64 (Oct.word y.s 0 : Nat), .int .u64 (Oct.word y.s 1 : Nat), .int .u64 (Oct.word y.s 2 : Nat), .int .u64 (Oct.word y.s 3 : Nat), .slice y.a y.n y.c, .int .i64 y.mn, .int .i64 y.mx] 28)) := (Below.refl _ _).alloc (Nat.le_refl _) _
  have HR : Hid (RowAt (fun _ => True) (u5.alloc (.cells #[.int .i64 x.k, .int .u64 (Oct.word x.s 0 : Nat), .int .u64 (Oct.word x.s 1 : Nat), .int .u64 (Oct.word x.s 2 : Nat), .int .u64 (Oct.word x.s 3 : Nat), .slice x.a x.n x.c, .int .i64 x.mn, .int .i64 x.mx, .int .i64 y.k, .int .u64 (Oct.word y.s 0 : Nat), .int .u64 (Oct.word y.s 1 : Nat), .int .u64 (Oct.word y.s 2 : Nat), .int .u64 (Oct.word y.s 3 : Nat), .slice y.a y.n y.c, .int .i64 y.mn, .int .i64 y.mx] 28)) (some ⟨u5.heap.size, 0, none⟩) [x, y]) := (row_two x y).keep (fun _ _ _ => trivial) (fun _ _ _ => rfl)
  have HZ : Hid (((u5.alloc (.cells #[.int .i64 x.k, .int .u64 (Oct.word x.s 0 : Nat), .int .u64 (Oct.word x.s 1 : Nat), .int .u64 (Oct.word x.s 2 : Nat), .int .u64 (Oct.word x.s 3 : Nat), .slice x.a x.n x.c, .int .i64 x.mn, .int .i64 x.mx, .int .i64 y.k, .int .u64 (Oct.word y.s 0 : Nat), .int .u64 (Oct.word y.s 1 : Nat), .int .u64 (Oct.word y.s 2 : Nat), .int .u64 (Oct.word y.s 3 : Nat), .slice y.a y.n y.c, .int .i64 y.mn, .int .i64 y.mx] 28))).heap.size = u5.heap.size + 1) := (by simp : (u5.alloc (.cells #[.int .i64 x.k, .int .u64 (Oct.word x.s 0 : Nat), .int .u64 (Oct.word x.s 1 : Nat), .int .u64 (Oct.word x.s 2 : Nat), .int .u64 (Oct.word x.s 3 : Nat), .slice x.a x.n x.c, .int .i64 x.mn, .int .i64 x.mx, .int .i64 y.k, .int .u64 (Oct.word y.s 0 : Nat), .int .u64 (Oct.word y.s 1 : Nat), .int .u64 (Oct.word y.s 2 : Nat), .int .u64 (Oct.word y.s 3 : Nat), .slice y.a y.n y.c, .int .i64 y.mn, .int .i64 y.mx] 28)).heap.size = u5.heap.size + 1)
  obtain ⟨u6, hu6⟩ : ∃ u6, (u5.alloc (.cells #[.int .i64 x.k, .int .u64 (Oct.word x.s 0 : Nat), .int .u64 (Oct.word x.s 1 : Nat), .int .u64 (Oct.word x.s 2 : Nat), .int .u64 (Oct.word x.s 3 : Nat), .slice x.a x.n x.c, .int .i64 x.mn, .int .i64 x.mx, .int .i64 y.k, .int .u64 (Oct.word y.s 0 : Nat), .int .u64 (Oct.word y.s 1 : Nat), .int .u64 (Oct.word y.s 2 : Nat), .int .u64 (Oct.word y.s 3 : Nat), .slice y.a y.n y.c, .int .i64 y.mn, .int .i64 y.mx] 28)) = u6 := ⟨_, rfl⟩
  rw [hu6] at kk HR HZ
  have HB2 : Hid (Below w.heap.size w u6) := below_step HB.out kk
  clear HB; have HB : Hid (Below w.heap.size w u6) := HB2.out; clear HB2
  have HNx2 : Hid (NB u6 A3 x) := HNx.out.later kk
  clear HNx; have HNx : Hid (NB u6 A3 x) := HNx2.out; clear HNx2
  have HNy2 : Hid (NB u6 A5 y) := HNy.out.later kk
  clear HNy; have HNy : Hid (NB u6 A5 y) := HNy2.out; clear HNy2
  have HX2 : Hid (NodeAt (fun _ => True) u6 t x) := HX.out.later kk
  clear HX; have HX : Hid (NodeAt (fun _ => True) u6 t x) := HX2.out; clear HX2
  have HY2 : Hid (NodeAt (fun _ => True) u6 u y) := HY.out.later kk
  clear HY; have HY : Hid (NodeAt (fun _ => True) u6 u y) := HY2.out; clear HY2
  have HUu6 : Hid ((u5.alloc (.cells #[.int .i64 x.k, .int .u64 (Oct.word x.s 0 : Nat), .int .u64 (Oct.word x.s 1 : Nat), .int .u64 (Oct.word x.s 2 : Nat), .int .u64 (Oct.word x.s 3 : Nat), .slice x.a x.n x.c, .int .i64 x.mn, .int .i64 x.mx, .int .i64 y.k, .int .u64 (Oct.word y.s 0 : Nat), .int .u64 (Oct.word y.s 1 : Nat), .int .u64 (Oct.word y.s 2 : Nat), .int .u64 (Oct.word y.s 3 : Nat), .slice y.a y.n y.c, .int .i64 y.mn, .int .i64 y.mx] 28)) = u6) := hu6
  clear kk hu6
  obtain ⟨G1, hG1⟩ : ∃ G1, u5.heap.size = G1 := ⟨_, rfl⟩
  rw [hG1] at HR HZ
  have HAG1 : Hid (u5.heap.size = G1) := hG1
  clear hG1
  obtain ⟨A17, hA17⟩ : ∃ A17, G1 + 1 = A17 := ⟨_, rfl⟩
  rw [hA17] at HZ
  have HAA17 : Hid (G1 + 1 = A17) := hA17
  clear hA17
  have kk : Below u6.heap.size u6 (u6.alloc (.cells #[.int .i64 4, .int .u64 0, .int .u64 0, .int .u64 0, .int .u64 0, .slice (some ⟨G1, 0, none⟩) 2 2, .int .i64 0, .int .i64 0] 28)) := (Below.refl _ _).alloc (Nat.le_refl _) _
  have HNA17 : Hid (NB (u6.alloc (.cells #[.int .i64 4, .int .u64 0, .int .u64 0, .int .u64 0, .int .u64 0, .slice (some ⟨G1, 0, none⟩) 2 2, .int .i64 0, .int .i64 0] 28)) u6.heap.size ⟨4, Oct.none, some ⟨G1, 0, none⟩, 2, 2, 0, 0⟩) := nb_lit (heap_alloc_new u6 _)
  have HWA17 : Hid (NodeAt (fun _ => True) (u6.alloc (.cells #[.int .i64 4, .int .u64 0, .int .u64 0, .int .u64 0, .int .u64 0, .slice (some ⟨G1, 0, none⟩) 2 2, .int .i64 0, .int .i64 0] 28)) (.mk 4 Oct.none [t, u] 0 0) ⟨4, Oct.none, some ⟨G1, 0, none⟩, 2, 2, 0, 0⟩) := node_two 4 (HX.out.later kk) (HY.out.later kk) (HR.out.keep (fun _ _ _ => trivial) (fun b _ hlt => kk.block b hlt))
  obtain ⟨u7, hu7⟩ : ∃ u7, (u6.alloc (.cells #[.int .i64 4, .int .u64 0, .int .u64 0, .int .u64 0, .int .u64 0, .slice (some ⟨G1, 0, none⟩) 2 2, .int .i64 0, .int .i64 0] 28)) = u7 := ⟨_, rfl⟩
  rw [hu7] at kk HNA17 HWA17
  have HB2 : Hid (Below w.heap.size w u7) := below_step HB.out kk
  clear HB; have HB : Hid (Below w.heap.size w u7) := HB2.out; clear HB2
  have HNx2 : Hid (NB u7 A3 x) := HNx.out.later kk
  clear HNx; have HNx : Hid (NB u7 A3 x) := HNx2.out; clear HNx2
  have HNy2 : Hid (NB u7 A5 y) := HNy.out.later kk
  clear HNy; have HNy : Hid (NB u7 A5 y) := HNy2.out; clear HNy2
  have HX2 : Hid (NodeAt (fun _ => True) u7 t x) := HX.out.later kk
  clear HX; have HX : Hid (NodeAt (fun _ => True) u7 t x) := HX2.out; clear HX2
  have HY2 : Hid (NodeAt (fun _ => True) u7 u y) := HY.out.later kk
  clear HY; have HY : Hid (NodeAt (fun _ => True) u7 u y) := HY2.out; clear HY2
  have HUu7 : Hid ((u6.alloc (.cells #[.int .i64 4, .int .u64 0, .int .u64 0, .int .u64 0, .int .u64 0, .slice (some ⟨G1, 0, none⟩) 2 2, .int .i64 0, .int .i64 0] 28)) = u7) := hu7
  clear kk hu7
  rw [HZ.out] at HNA17
  go_upto_region 11 with fail
  rw [HUu6.out, HAG1.out, HAA17.out, HUu7.out]
  clear HUu6 HAG1 HAA17 HUu7 HR HZ
  clear c0 c1 c2 c3 c4 c5 c6 c7 d0 d1 d2 d3 d4 d5 d6 d7
  obtain ⟨c0, c1, c2, c3, c4, c5, c6, c7⟩ := HNx.out.cells
  obtain ⟨d0, d1, d2, d3, d4, d5, d6, d7⟩ := HNy.out.cells
  skip
  have kk : Below u7.heap.size u7 (u7.alloc (.cells #[.int .i64 x.k, .int .u64 (Oct.word x.s 0 : Nat), .int .u64 (Oct.word x.s 1 : Nat), .int .u64 (Oct.word x.s 2 : Nat), .int .u64 (Oct.word x.s 3 : Nat), .slice x.a x.n x.c, .int .i64 x.mn, .int .i64 x.mx, .int .i64 y.k, .int .u64 (Oct.word y.s 0 : Nat), .int .u64 (Oct.word y.s 1 : Nat), .int .u64 (Oct.word y.s 2 : Nat), .int .u64 (Oct.word y.s 3 : Nat), .slice y.a y.n y.c, .int .i64 y.mn, .int .i64 y.mx] 28)) := (Below.refl _ _).alloc (Nat.le_refl _) _
  have HR : Hid (RowAt (fun _ => True) (u7.alloc (.cells #[.int .i64 x.k, .int .u64 (Oct.word x.s 0 : Nat), .int .u64 (Oct.word x.s 1 : Nat), .int .u64 (Oct.word x.s 2 : Nat), .int .u64 (Oct.word x.s 3 : Nat), .slice x.a x.n x.c, .int .i64 x.mn, .int .i64 x.mx, .int .i64 y.k, .int .u64 (Oct.word y.s 0 : Nat), .int .u64 (Oct.word y.s 1 : Nat), .int .u64 (Oct.word y.s 2 : Nat), .int .u64 (Oct.word y.s 3 : Nat), .slice y.a y.n y.c, .int .i64 y.mn, .int .i64 y.mx] 28)) (some ⟨u7.heap.size, 0, none⟩) [x, y]) := (row_two x y).keep (fun _ _ _ => trivial) (fun _ _ _ => rfl)
  have HZ : Hid (((u7.alloc (.cells #[.int .i64 x.k, .int .u64 (Oct.word x.s 0 : Nat), .int .u64 (Oct.word x.s 1 : Nat), .int .u64 (Oct.word x.s 2 : Nat), .int .u64 (Oct.word x.s 3 : Nat), .slice x.a x.n x.c, .int .i64 x.mn, .int .i64 x.mx, .int .i64 y.k, .int .u64 (Oct.word y.s 0 : Nat), .int .u64 (Oct.word y.s 1 : Nat), .int .u64 (Oct.word y.s 2 : Nat), .int .u64 (Oct.word y.s 3 : Nat), .slice y.a y.n y.c, .int .i64 y.mn, .int .i64 y.mx] 28))).heap.size = u7.heap.size + 1) := (by simp : (u7.alloc (.cells #[.int .i64 x.k, .int .u64 (Oct.word x.s 0 : Nat), .int .u64 (Oct.word x.s 1 : Nat), .int .u64 (Oct.word x.s 2 : Nat), .int .u64 (Oct.word x.s 3 : Nat), .slice x.a x.n x.c, .int .i64 x.mn, .int .i64 x.mx, .int .i64 y.k, .int .u64 (Oct.word y.s 0 : Nat), .int .u64 (Oct.word y.s 1 : Nat), .int .u64 (Oct.word y.s 2 : Nat), .int .u64 (Oct.word y.s 3 : Nat), .slice y.a y.n y.c, .int .i64 y.mn, .int .i64 y.mx] 28)).heap.size = u7.heap.size + 1)
  obtain ⟨u8, hu8⟩ : ∃ u8, (u7.alloc (.cells #[.int .i64 x.k, .int .u64 (Oct.word x.s 0 : Nat), .int .u64 (Oct.word x.s 1 : Nat), .int .u64 (Oct.word x.s 2 : Nat), .int .u64 (Oct.word x.s 3 : Nat), .slice x.a x.n x.c, .int .i64 x.mn, .int .i64 x.mx, .int .i64 y.k, .int .u64 (Oct.word y.s 0 : Nat), .int .u64 (Oct.word y.s 1 : Nat), .int .u64 (Oct.word y.s 2 : Nat), .int .u64 (Oct.word y.s 3 : Nat), .slice y.a y.n y.c, .int .i64 y.mn, .int .i64 y.mx] 28)) = u8 := ⟨_, rfl⟩
  rw [hu8] at kk HR HZ
  have HB2 : Hid (Below w.heap.size w u8) := below_step HB.out kk
  clear HB; have HB : Hid (Below w.heap.size w u8) := HB2.out; clear HB2
  have HNx2 : Hid (NB u8 A3 x) := HNx.out.later kk
  clear HNx; have HNx : Hid (NB u8 A3 x) := HNx2.out; clear HNx2
  have HNy2 : Hid (NB u8 A5 y) := HNy.out.later kk
  clear HNy; have HNy : Hid (NB u8 A5 y) := HNy2.out; clear HNy2
  have HX2 : Hid (NodeAt (fun _ => True) u8 t x) := HX.out.later kk
  clear HX; have HX : Hid (NodeAt (fun _ => True) u8 t x) := HX2.out; clear HX2
  have HY2 : Hid (NodeAt (fun _ => True) u8 u y) := HY.out.later kk
  clear HY; have HY : Hid (NodeAt (fun _ => True) u8 u y) := HY2.out; clear HY2
  have HNA172 : Hid (NB u8 A17 ⟨4, Oct.none, some ⟨G1, 0, none⟩, 2, 2, 0, 0⟩) := HNA17.out.later kk
  clear HNA17; have HNA17 : Hid (NB u8 A17 ⟨4, Oct.none, some ⟨G1, 0, none⟩, 2, 2, 0, 0⟩) := HNA172.out; clear HNA172
  have HWA172 : Hid (NodeAt (fun _ => True) u8 (.mk 4 Oct.none [t, u] 0 0) ⟨4, Oct.none, some ⟨G1, 0, none⟩, 2, 2, 0, 0⟩) := HWA17.out.later kk
  clear HWA17; have HWA17 : Hid (NodeAt (fun _ => True) u8 (.mk 4 Oct.none [t, u] 0 0) ⟨4, Oct.none, some ⟨G1, 0, none⟩, 2, 2, 0, 0⟩) := HWA172.out; clear HWA172
  have HUu8 : Hid ((u7.alloc (.cells #[.int .i64 x.k, .int .u64 (Oct.word x.s 0 : Nat), .int .u64 (Oct.word x.s 1 : Nat), .int .u64 (Oct.word x.s 2 : Nat), .int .u64 (Oct.word x.s 3 : Nat), .slice x.a x.n x.c, .int .i64 x.mn, .int .i64 x.mx, .int .i64 y.k, .int .u64 (Oct.word y.s 0 : Nat), .int .u64 (Oct.word y.s 1 : Nat), .int .u64 (Oct.word y.s 2 : Nat), .int .u64 (Oct.word y.s 3 : Nat), .slice y.a y.n y.c, .int .i64 y.mn, .int .i64 y.mx] 28)) = u8) := hu8
  clear kk hu8
  obtain ⟨G2, hG2⟩ : ∃ G2, u7.heap.size = G2 := ⟨_, rfl⟩
  rw [hG2] at HR HZ
  have HAG2 : Hid (u7.heap.size = G2) := hG2
  clear hG2
  obtain ⟨A18, hA18⟩ : ∃ A18, G2 + 1 = A18 := ⟨_, rfl⟩
  rw [hA18] at HZ
  have HAA18 : Hid (G2 + 1 = A18) := hA18
  clear hA18
  have kk : Below u8.heap.size u8 (u8.alloc (.cells #[.int .i64 3, .int .u64 0, .int .u64 0, .int .u64 0, .int .u64 0, .slice (some ⟨G2, 0, none⟩) 2 2, .int .i64 0, .int .i64 0] 28)) := (Below.refl _ _).alloc (Nat.le_refl _) _
  have HNA18 : Hid (NB (u8.alloc (.cells #[.int .i64 3, .int .u64 0, .int .u64 0, .int .u64 0, .int .u64 0, .slice (some ⟨G2, 0, none⟩) 2 2, .int .i64 0, .int .i64 0] 28)) u8.heap.size ⟨3, Oct.none, some ⟨G2, 0, none⟩, 2, 2, 0, 0⟩) := nb_lit (heap_alloc_new u8 _)
  have HWA18 : Hid (NodeAt (fun _ => True) (u8.alloc (.cells #[.int .i64 3, .int .u64 0, .int .u64 0, .int .u64 0, .int .u64 0, .slice (some ⟨G2, 0, none⟩) 2 2, .int .i64 0, .int .i64 0] 28)) (.mk 3 Oct.none [t, u] 0 0) ⟨3, Oct.none, some ⟨G2, 0, none⟩, 2, 2, 0, 0⟩) := node_two 3 (HX.out.later kk) (HY.out.later kk) (HR.out.keep (fun _ _ _ => trivial) (fun b _ hlt => kk.block b hlt))
  obtain ⟨u9, hu9⟩ : ∃ u9, (u8.alloc (.cells #[.int .i64 3, .int .u64 0, .int .u64 0, .int .u64 0, .int .u64 0, .slice (some ⟨G2, 0, none⟩) 2 2, .int .i64 0, .int .i64 0] 28)) = u9 := ⟨_, rfl⟩
  rw [hu9] at kk HNA18 HWA18
  have HB2 : Hid (Below w.heap.size w u9) := below_step HB.out kk
  clear HB; have HB : Hid (Below w.heap.size w u9) := HB2.out; clear HB2
  have HNx2 : Hid (NB u9 A3 x) := HNx.out.later kk
  clear HNx; have HNx : Hid (NB u9 A3 x) := HNx2.out; clear HNx2
  have HNy2 : Hid (NB u9 A5 y) := HNy.out.later kk
  clear HNy; have HNy : Hid (NB u9 A5 y) := HNy2.out; clear HNy2
  have HX2 : Hid (NodeAt (fun _ => True) u9 t x) := HX.out.later kk
  clear HX; have HX : Hid (NodeAt (fun _ => True) u9 t x) := HX2.out; clear HX2
  have HY2 : Hid (NodeAt (fun _ => True) u9 u y) := HY.out.later kk
  clear HY; have HY : Hid (NodeAt (fun _ => True) u9 u y) := HY2.out; clear HY2
  have HNA172 : Hid (NB u9 A17 ⟨4, Oct.none, some ⟨G1, 0, none⟩, 2, 2, 0, 0⟩) := HNA17.out.later kk
  clear HNA17; have HNA17 : Hid (NB u9 A17 ⟨4, Oct.none, some ⟨G1, 0, none⟩, 2, 2, 0, 0⟩) := HNA172.out; clear HNA172
  have HWA172 : Hid (NodeAt (fun _ => True) u9 (.mk 4 Oct.none [t, u] 0 0) ⟨4, Oct.none, some ⟨G1, 0, none⟩, 2, 2, 0, 0⟩) := HWA17.out.later kk
  clear HWA17; have HWA17 : Hid (NodeAt (fun _ => True) u9 (.mk 4 Oct.none [t, u] 0 0) ⟨4, Oct.none, some ⟨G1, 0, none⟩, 2, 2, 0, 0⟩) := HWA172.out; clear HWA172
  have HUu9 : Hid ((u8.alloc (.cells #[.int .i64 3, .int .u64 0, .int .u64 0, .int .u64 0, .int .u64 0, .slice (some ⟨G2, 0, none⟩) 2 2, .int .i64 0, .int .i64 0] 28)) = u9) := hu9
  clear kk hu9
  rw [HZ.out] at HNA18
  go_upto_region 12 with fail
  rw [HUu8.out, HAG2.out, HAA18.out, HUu9.out]
  clear HUu8 HAG2 HAA18 HUu9 HR HZ
  clear c0 c1 c2 c3 c4 c5 c6 c7 d0 d1 d2 d3 d4 d5 d6 d7
  obtain ⟨c0, c1, c2, c3, c4, c5, c6, c7⟩ := HNx.out.cells
  skip
  have kk : Below u9.heap.size u9 (u9.alloc (.cells #[.int .i64 x.k, .int .u64 (Oct.word x.s 0 : Nat), .int .u64 (Oct.word x.s 1 : Nat), .int .u64 (Oct.word x.s 2 : Nat), .int .u64 (Oct.word x.s 3 : Nat), .slice x.a x.n x.c, .int .i64 x.mn, .int .i64 x.mx] 28)) := (Below.refl _ _).alloc (Nat.le_refl _) _
  have HR : Hid (RowAt (fun _ => True) (u9.alloc (.cells #[.int .i64 x.k, .int .u64 (Oct.word x.s 0 : Nat), .int .u64 (Oct.word x.s 1 : Nat), .int .u64 (Oct.word x.s 2 : Nat), .int .u64 (Oct.word x.s 3 : Nat), .slice x.a x.n x.c, .int .i64 x.mn, .int .i64 x.mx] 28)) (some ⟨u9.heap.size, 0, none⟩) [x]) := row_new x trivial
  have HZ : Hid (((u9.alloc (.cells #[.int .i64 x.k, .int .u64 (Oct.word x.s 0 : Nat), .int .u64 (Oct.word x.s 1 : Nat), .int .u64 (Oct.word x.s 2 : Nat), .int .u64 (Oct.word x.s 3 : Nat), .slice x.a x.n x.c, .int .i64 x.mn, .int .i64 x.mx] 28))).heap.size = u9.heap.size + 1) := (by simp : (u9.alloc (.cells #[.int .i64 x.k, .int .u64 (Oct.word x.s 0 : Nat), .int .u64 (Oct.word x.s 1 : Nat), .int .u64 (Oct.word x.s 2 : Nat), .int .u64 (Oct.word x.s 3 : Nat), .slice x.a x.n x.c, .int .i64 x.mn, .int .i64 x.mx] 28)).heap.size = u9.heap.size + 1)
  obtain ⟨ua, hua⟩ : ∃ ua, (u9.alloc (.cells #[.int .i64 x.k, .int .u64 (Oct.word x.s 0 : Nat), .int .u64 (Oct.word x.s 1 : Nat), .int .u64 (Oct.word x.s 2 : Nat), .int .u64 (Oct.word x.s 3 : Nat), .slice x.a x.n x.c, .int .i64 x.mn, .int .i64 x.mx] 28)) = ua := ⟨_, rfl⟩
  rw [hua] at kk HR HZ
  have HB2 : Hid (Below w.heap.size w ua) := below_step HB.out kk
  clear HB; have HB : Hid (Below w.heap.size w ua) := HB2.out; clear HB2
  have HNx2 : Hid (NB ua A3 x) := HNx.out.later kk
  clear HNx; have HNx : Hid (NB ua A3 x) := HNx2.out; clear HNx2
  have HNy2 : Hid (NB ua A5 y) := HNy.out.later kk
  clear HNy; have HNy : Hid (NB ua A5 y) := HNy2.out; clear HNy2
  have HX2 : Hid (NodeAt (fun _ => True) ua t x) := HX.out.later kk
  clear HX; have HX : Hid (NodeAt (fun _ => True) ua t x) := HX2.out; clear HX2
  have HY2 : Hid (NodeAt (fun _ => True) ua u y) := HY.out.later kk
  clear HY; have HY : Hid (NodeAt (fun _ => True) ua u y) := HY2.out; clear HY2
  have HNA172 : Hid (NB ua A17 ⟨4, Oct.none, some ⟨G1, 0, none⟩, 2, 2, 0, 0⟩) := HNA17.out.later kk
  clear HNA17; have HNA17 : Hid (NB ua A17 ⟨4, Oct.none, some ⟨G1, 0, none⟩, 2, 2, 0, 0⟩) := HNA172.out; clear HNA172
  have HWA172 : Hid (NodeAt (fun _ => True) ua (.mk 4 Oct.none [t, u] 0 0) ⟨4, Oct.none, some ⟨G1, 0, none⟩, 2, 2, 0, 0⟩) := HWA17.out.later kk
  clear HWA17; have HWA17 : Hid (NodeAt (fun _ => True) ua (.mk 4 Oct.none [t, u] 0 0) ⟨4, Oct.none, some ⟨G1, 0, none⟩, 2, 2, 0, 0⟩) := HWA172.out; clear HWA172
  have HNA182 : Hid (NB ua A18 ⟨3, Oct.none, some ⟨G2, 0, none⟩, 2, 2, 0, 0⟩) := HNA18.out.later kk
  clear HNA18; have HNA18 : Hid (NB ua A18 ⟨3, Oct.none, some ⟨G2, 0, none⟩, 2, 2, 0, 0⟩) := HNA182.out; clear HNA182
  have HWA182 : Hid (NodeAt (fun _ => True) ua (.mk 3 Oct.none [t, u] 0 0) ⟨3, Oct.none, some ⟨G2, 0, none⟩, 2, 2, 0, 0⟩) := HWA18.out.later kk
  clear HWA18; have HWA18 : Hid (NodeAt (fun _ => True) ua (.mk 3 Oct.none [t, u] 0 0) ⟨3, Oct.none, some ⟨G2, 0, none⟩, 2, 2, 0, 0⟩) := HWA182.out; clear HWA182
  have HUua : Hid ((u9.alloc (.cells #[.int .i64 x.k, .int .u64 (Oct.word x.s 0 : Nat), .int .u64 (Oct.word x.s 1 : Nat), .int .u64 (Oct.word x.s 2 : Nat), .int .u64 (Oct.word x.s 3 : Nat), .slice x.a x.n x.c, .int .i64 x.mn, .int .i64 x.mx] 28)) = ua) := hua
  clear kk hua
  obtain ⟨G3, hG3⟩ : ∃ G3, u9.heap.size = G3 := ⟨_, rfl⟩
  rw [hG3] at HR HZ
  have HAG3 : Hid (u9.heap.size = G3) := hG3
  clear hG3
  obtain ⟨A19, hA19⟩ : ∃ A19, G3 + 1 = A19 := ⟨_, rfl⟩
  rw [hA19] at HZ
  have HAA19 : Hid (G3 + 1 = A19) := hA19
  clear hA19
  have kk : Below ua.heap.size ua (ua.alloc (.cells #[.int .i64 5, .int .u64 0, .int .u64 0, .int .u64 0, .int .u64 0, .slice (some ⟨G3, 0, none⟩) 1 1, .int .i64 (L : Int), .int .i64 (-1)] 28)) := (Below.refl _ _).alloc (Nat.le_refl _) _
  have HNA19 : Hid (NB (ua.alloc (.cells #[.int .i64 5, .int .u64 0, .int .u64 0, .int .u64 0, .int .u64 0, .slice (some ⟨G3, 0, none⟩) 1 1, .int .i64 (L : Int), .int .i64 (-1)] 28)) ua.heap.size ⟨5, Oct.none, some ⟨G3, 0, none⟩, 1, 1, (L : Int), -1⟩) := nb_lit (heap_alloc_new ua _)
  have HWA19 : Hid (NodeAt (fun _ => True) (ua.alloc (.cells #[.int .i64 5, .int .u64 0, .int .u64 0, .int .u64 0, .int .u64 0, .slice (some ⟨G3, 0, none⟩) 1 1, .int .i64 (L : Int), .int .i64 (-1)] 28)) (.mk 5 Oct.none [t] (L : Int) (-1)) ⟨5, Oct.none, some ⟨G3, 0, none⟩, 1, 1, (L : Int), -1⟩) := node_one 5 (L : Int) (-1) 1 (HR.out.keep (fun _ _ _ => trivial) (fun b _ hlt => kk.block b hlt)) (HX.out.later kk)
  obtain ⟨ub, hub⟩ : ∃ ub, (ua.alloc (.cells #[.int .i64 5, .int .u64 0, .int .u64 0, .int .u64 0, .int .u64 0, .slice (some ⟨G3, 0, none⟩) 1 1, .int .i64 (L : Int), .int .i64 (-1)] 28)) = ub := ⟨_, rfl⟩
  rw [hub] at kk HNA19 HWA19
  have HB2 : Hid (Below w.heap.size w ub) := below_step HB.out kk
  clear HB; have HB : Hid (Below w.heap.size w ub) := HB2.out; clear HB2
  have HNx2 : Hid (NB ub A3 x) := HNx.out.later kk
  clear HNx; have HNx : Hid (NB ub A3 x) := HNx2.out; clear HNx2
  have HNy2 : Hid (NB ub A5 y) := HNy.out.later kk
  clear HNy; have HNy : Hid (NB ub A5 y) := HNy2.out; clear HNy2
  have HX2 : Hid (NodeAt (fun _ => True) ub t x) := HX.out.later kk
  clear HX; have HX : Hid (NodeAt (fun _ => True) ub t x) := HX2.out; clear HX2
  have HY2 : Hid (NodeAt (fun _ => True) ub u y) := HY.out.later kk
  clear HY; have HY : Hid (NodeAt (fun _ => True) ub u y) := HY2.out; clear HY2
  have HNA172 : Hid (NB ub A17 ⟨4, Oct.none, some ⟨G1, 0, none⟩, 2, 2, 0, 0⟩) := HNA17.out.later kk
  clear HNA17; have HNA17 : Hid (NB ub A17 ⟨4, Oct.none, some ⟨G1, 0, none⟩, 2, 2, 0, 0⟩) := HNA172.out; clear HNA172
  have HWA172 : Hid (NodeAt (fun _ => True) ub (.mk 4 Oct.none [t, u] 0 0) ⟨4, Oct.none, some ⟨G1, 0, none⟩, 2, 2, 0, 0⟩) := HWA17.out.later kk
  clear HWA17; have HWA17 : Hid (NodeAt (fun _ => True) ub (.mk 4 Oct.none [t, u] 0 0) ⟨4, Oct.none, some ⟨G1, 0, none⟩, 2, 2, 0, 0⟩) := HWA172.out; clear HWA172
  have HNA182 : Hid (NB ub A18 ⟨3, Oct.none, some ⟨G2, 0, none⟩, 2, 2, 0, 0⟩) := HNA18.out.later kk
  clear HNA18; have HNA18 : Hid (NB ub A18 ⟨3, Oct.none, some ⟨G2, 0, none⟩, 2, 2, 0, 0⟩) := HNA182.out; clear HNA182
  have HWA182 : Hid (NodeAt (fun _ => True) ub (.mk 3 Oct.none [t, u] 0 0) ⟨3, Oct.none, some ⟨G2, 0, none⟩, 2, 2, 0, 0⟩) := HWA18.out.later kk
  clear HWA18; have HWA18 : Hid (NodeAt (fun _ => True) ub (.mk 3 Oct.none [t, u] 0 0) ⟨3, Oct.none, some ⟨G2, 0, none⟩, 2, 2, 0, 0⟩) := HWA182.out; clear HWA182
  have HUub : Hid ((ua.alloc (.cells #[.int .i64 5, .int .u64 0, .int .u64 0, .int .u64 0, .int .u64 0, .slice (some ⟨G3, 0, none⟩) 1 1, .int .i64 (L : Int), .int .i64 (-1)] 28)) = ub) := hub
  clear kk hub
  rw [HZ.out] at HNA19
  go_upto_region 13 with fail
  rw [HUua.out, HAG3.out, HAA19.out, HUub.out]
  clear HUua HAG3 HAA19 HUub HR HZ
  clear c0 c1 c2 c3 c4 c5 c6 c7
  go_wp2_with fail
  refine (parse_res HR1.out _ (HGM.out.later HB.out)).mono ?_
  rintro e uc ⟨kk, x3, c3, rfl, hz1⟩
  have HB2 : Hid (Below w.heap.size w uc) := below_step HB.out kk
  clear HB; have HB : Hid (Below w.heap.size w uc) := HB2.out; clear HB2
  have HNx2 : Hid (NB uc A3 x) := HNx.out.later kk
  clear HNx; have HNx : Hid (NB uc A3 x) := HNx2.out; clear HNx2
  have HNy2 : Hid (NB uc A5 y) := HNy.out.later kk
  clear HNy; have HNy : Hid (NB uc A5 y) := HNy2.out; clear HNy2
  have HX2 : Hid (NodeAt (fun _ => True) uc t x) := HX.out.later kk
  clear HX; have HX : Hid (NodeAt (fun _ => True) uc t x) := HX2.out; clear HX2
  have HY2 : Hid (NodeAt (fun _ => True) uc u y) := HY.out.later kk
  clear HY; have HY : Hid (NodeAt (fun _ => True) uc u y) := HY2.out; clear HY2
  have HNA172 : Hid (NB uc A17 ⟨4, Oct.none, some ⟨G1, 0, none⟩, 2, 2, 0, 0⟩) := HNA17.out.later kk
  clear HNA17; have HNA17 : Hid (NB uc A17 ⟨4, Oct.none, some ⟨G1, 0, none⟩, 2, 2, 0, 0⟩) := HNA172.out; clear HNA172
  have HWA172 : Hid (NodeAt (fun _ => True) uc (.mk 4 Oct.none [t, u] 0 0) ⟨4, Oct.none, some ⟨G1, 0, none⟩, 2, 2, 0, 0⟩) := HWA17.out.later kk
  clear HWA17; have HWA17 : Hid (NodeAt (fun _ => True) uc (.mk 4 Oct.none [t, u] 0 0) ⟨4, Oct.none, some ⟨G1, 0, none⟩, 2, 2, 0, 0⟩) := HWA172.out; clear HWA172
  have HNA182 : Hid (NB uc A18 ⟨3, Oct.none, some ⟨G2, 0, none⟩, 2, 2, 0, 0⟩) := HNA18.out.later kk
  clear HNA18; have HNA18 : Hid (NB uc A18 ⟨3, Oct.none, some ⟨G2, 0, none⟩, 2, 2, 0, 0⟩) := HNA182.out; clear HNA182
  have HWA182 : Hid (NodeAt (fun _ => True) uc (.mk 3 Oct.none [t, u] 0 0) ⟨3, Oct.none, some ⟨G2, 0, none⟩, 2, 2, 0, 0⟩) := HWA18.out.later kk
  clear HWA18; have HWA18 : Hid (NodeAt (fun _ => True) uc (.mk 3 Oct.none [t, u] 0 0) ⟨3, Oct.none, some ⟨G2, 0, none⟩, 2, 2, 0, 0⟩) := HWA182.out; clear HWA182
  have HNA192 : Hid (NB uc A19 ⟨5, Oct.none, some ⟨G3, 0, none⟩, 1, 1, (L : Int), -1⟩) := HNA19.out.later kk
  clear HNA19; have HNA19 : Hid (NB uc A19 ⟨5, Oct.none, some ⟨G3, 0, none⟩, 1, 1, (L : Int), -1⟩) := HNA192.out; clear HNA192
  have HWA192 : Hid (NodeAt (fun _ => True) uc (.mk 5 Oct.none [t] (L : Int) (-1)) ⟨5, Oct.none, some ⟨G3, 0, none⟩, 1, 1, (L : Int), -1⟩) := HWA19.out.later kk
  clear HWA19; have HWA19 : Hid (NodeAt (fun _ => True) uc (.mk 5 Oct.none [t] (L : Int) (-1)) ⟨5, Oct.none, some ⟨G3, 0, none⟩, 1, 1, (L : Int), -1⟩) := HWA192.out; clear HWA192
  have HZ1 : Hid ((placesOf (up (.mk 4 Oct.none [t, u] 0 0)) ≤ 2048 ∧ c3 = 0 ∧ NodeAt (fun _ => True) uc (.mk 4 Oct.none [t, u] 0 0) x3) ∨ (2048 < placesOf (up (.mk 4 Oct.none [t, u] 0 0)) ∧ c3 = 48)) := hz1
  clear kk hz1 HR1
  have kk : Below uc.heap.size uc (uc.alloc (.cells #[.int .i64 x3.k, .int .u64 (Oct.word x3.s 0 : Nat), .int .u64 (Oct.word x3.s 1 : Nat), .int .u64 (Oct.word x3.s 2 : Nat), .int .u64 (Oct.word x3.s 3 : Nat), .slice x3.a x3.n x3.c, .int .i64 x3.mn, .int .i64 x3.mx] 28)) := (Below.refl _ _).alloc (Nat.le_refl _) _
  have HNA20 : Hid (NB (uc.alloc (.cells #[.int .i64 x3.k, .int .u64 (Oct.word x3.s 0 : Nat), .int .u64 (Oct.word x3.s 1 : Nat), .int .u64 (Oct.word x3.s 2 : Nat), .int .u64 (Oct.word x3.s 3 : Nat), .slice x3.a x3.n x3.c, .int .i64 x3.mn, .int .i64 x3.mx] 28)) uc.heap.size x3) := nb_new uc x3
  obtain ⟨ud, hud⟩ : ∃ ud, (uc.alloc (.cells #[.int .i64 x3.k, .int .u64 (Oct.word x3.s 0 : Nat), .int .u64 (Oct.word x3.s 1 : Nat), .int .u64 (Oct.word x3.s 2 : Nat), .int .u64 (Oct.word x3.s 3 : Nat), .slice x3.a x3.n x3.c, .int .i64 x3.mn, .int .i64 x3.mx] 28)) = ud := ⟨_, rfl⟩
  rw [hud] at kk HNA20
  have HB2 : Hid (Below w.heap.size w ud) := below_step HB.out kk
  clear HB; have HB : Hid (Below w.heap.size w ud) := HB2.out; clear HB2
  have HNx2 : Hid (NB ud A3 x) := HNx.out.later kk
  clear HNx; have HNx : Hid (NB ud A3 x) := HNx2.out; clear HNx2
  have HNy2 : Hid (NB ud A5 y) := HNy.out.later kk
  clear HNy; have HNy : Hid (NB ud A5 y) := HNy2.out; clear HNy2
  have HX2 : Hid (NodeAt (fun _ => True) ud t x) := HX.out.later kk
  clear HX; have HX : Hid (NodeAt (fun _ => True) ud t x) := HX2.out; clear HX2
  have HY2 : Hid (NodeAt (fun _ => True) ud u y) := HY.out.later kk
  clear HY; have HY : Hid (NodeAt (fun _ => True) ud u y) := HY2.out; clear HY2
  have HNA172 : Hid (NB ud A17 ⟨4, Oct.none, some ⟨G1, 0, none⟩, 2, 2, 0, 0⟩) := HNA17.out.later kk
  clear HNA17; have HNA17 : Hid (NB ud A17 ⟨4, Oct.none, some ⟨G1, 0, none⟩, 2, 2, 0, 0⟩) := HNA172.out; clear HNA172
  have HWA172 : Hid (NodeAt (fun _ => True) ud (.mk 4 Oct.none [t, u] 0 0) ⟨4, Oct.none, some ⟨G1, 0, none⟩, 2, 2, 0, 0⟩) := HWA17.out.later kk
  clear HWA17; have HWA17 : Hid (NodeAt (fun _ => True) ud (.mk 4 Oct.none [t, u] 0 0) ⟨4, Oct.none, some ⟨G1, 0, none⟩, 2, 2, 0, 0⟩) := HWA172.out; clear HWA172
  have HNA182 : Hid (NB ud A18 ⟨3, Oct.none, some ⟨G2, 0, none⟩, 2, 2, 0, 0⟩) := HNA18.out.later kk
  clear HNA18; have HNA18 : Hid (NB ud A18 ⟨3, Oct.none, some ⟨G2, 0, none⟩, 2, 2, 0, 0⟩) := HNA182.out; clear HNA182
  have HWA182 : Hid (NodeAt (fun _ => True) ud (.mk 3 Oct.none [t, u] 0 0) ⟨3, Oct.none, some ⟨G2, 0, none⟩, 2, 2, 0, 0⟩) := HWA18.out.later kk
  clear HWA18; have HWA18 : Hid (NodeAt (fun _ => True) ud (.mk 3 Oct.none [t, u] 0 0) ⟨3, Oct.none, some ⟨G2, 0, none⟩, 2, 2, 0, 0⟩) := HWA182.out; clear HWA182
  have HNA192 : Hid (NB ud A19 ⟨5, Oct.none, some ⟨G3, 0, none⟩, 1, 1, (L : Int), -1⟩) := HNA19.out.later kk
  clear HNA19; have HNA19 : Hid (NB ud A19 ⟨5, Oct.none, some ⟨G3, 0, none⟩, 1, 1, (L : Int), -1⟩) := HNA192.out; clear HNA192
  have HWA192 : Hid (NodeAt (fun _ => True) ud (.mk 5 Oct.none [t] (L : Int) (-1)) ⟨5, Oct.none, some ⟨G3, 0, none⟩, 1, 1, (L : Int), -1⟩) := HWA19.out.later kk
  clear HWA19; have HWA19 : Hid (NodeAt (fun _ => True) ud (.mk 5 Oct.none [t] (L : Int) (-1)) ⟨5, Oct.none, some ⟨G3, 0, none⟩, 1, 1, (L : Int), -1⟩) := HWA192.out; clear HWA192
  have HZ12 : Hid ((placesOf (up (.mk 4 Oct.none [t, u] 0 0)) ≤ 2048 ∧ c3 = 0 ∧ NodeAt (fun _ => True) ud (.mk 4 Oct.none [t, u] 0 0) x3) ∨ (2048 < placesOf (up (.mk 4 Oct.none [t, u] 0 0)) ∧ c3 = 48)) := HZ1.out.imp (fun h => ⟨h.1, h.2.1, h.2.2.later kk⟩) id
  clear HZ1; have HZ1 : Hid ((placesOf (up (.mk 4 Oct.none [t, u] 0 0)) ≤ 2048 ∧ c3 = 0 ∧ NodeAt (fun _ => True) ud (.mk 4 Oct.none [t, u] 0 0) x3) ∨ (2048 < placesOf (up (.mk 4 Oct.none [t, u] 0 0)) ∧ c3 = 48)) := HZ12.out; clear HZ12
  have HUud : Hid ((uc.alloc (.cells #[.int .i64 x3.k, .int .u64 (Oct.word x3.s 0 : Nat), .int .u64 (Oct.word x3.s 1 : Nat), .int .u64 (Oct.word x3.s 2 : Nat), .int .u64 (Oct.word x3.s 3 : Nat), .slice x3.a x3.n x3.c, .int .i64 x3.mn, .int .i64 x3.mx] 28)) = ud) := hud
  clear kk hud
  obtain ⟨A20, hA20⟩ : ∃ A20, uc.heap.size = A20 := ⟨_, rfl⟩
  rw [hA20] at HNA20
  have HAA20 : Hid (uc.heap.size = A20) := hA20
  clear hA20
  unfold Nd.val
  go_upto_region 14 with fail
  rw [HUud.out, HAA20.out]
  clear HUud HAA20
  go_wp2_with fail
  refine (parse_res HR2.out _ (HGM.out.later HB.out)).mono ?_
  rintro e ue ⟨kk, x4, c4, rfl, hz2⟩
  have HB2 : Hid (Below w.heap.size w ue) := below_step HB.out kk
  clear HB; have HB : Hid (Below w.heap.size w ue) := HB2.out; clear HB2
  have HNx2 : Hid (NB ue A3 x) := HNx.out.later kk
  clear HNx; have HNx : Hid (NB ue A3 x) := HNx2.out; clear HNx2
  have HNy2 : Hid (NB ue A5 y) := HNy.out.later kk
  clear HNy; have HNy : Hid (NB ue A5 y) := HNy2.out; clear HNy2
  have HX2 : Hid (NodeAt (fun _ => True) ue t x) := HX.out.later kk
  clear HX; have HX : Hid (NodeAt (fun _ => True) ue t x) := HX2.out; clear HX2
  have HY2 : Hid (NodeAt (fun _ => True) ue u y) := HY.out.later kk
  clear HY; have HY : Hid (NodeAt (fun _ => True) ue u y) := HY2.out; clear HY2
  have HNA172 : Hid (NB ue A17 ⟨4, Oct.none, some ⟨G1, 0, none⟩, 2, 2, 0, 0⟩) := HNA17.out.later kk
  clear HNA17; have HNA17 : Hid (NB ue A17 ⟨4, Oct.none, some ⟨G1, 0, none⟩, 2, 2, 0, 0⟩) := HNA172.out; clear HNA172
  have HWA172 : Hid (NodeAt (fun _ => True) ue (.mk 4 Oct.none [t, u] 0 0) ⟨4, Oct.none, some ⟨G1, 0, none⟩, 2, 2, 0, 0⟩) := HWA17.out.later kk
  clear HWA17; have HWA17 : Hid (NodeAt (fun _ => True) ue (.mk 4 Oct.none [t, u] 0 0) ⟨4, Oct.none, some ⟨G1, 0, none⟩, 2, 2, 0, 0⟩) := HWA172.out; clear HWA172
  have HNA182 : Hid (NB ue A18 ⟨3, Oct.none, some ⟨G2, 0, none⟩, 2, 2, 0, 0⟩) := HNA18.out.later kk
  clear HNA18; have HNA18 : Hid (NB ue A18 ⟨3, Oct.none, some ⟨G2, 0, none⟩, 2, 2, 0, 0⟩) := HNA182.out; clear HNA182
  have HWA182 : Hid (NodeAt (fun _ => True) ue (.mk 3 Oct.none [t, u] 0 0) ⟨3, Oct.none, some ⟨G2, 0, none⟩, 2, 2, 0, 0⟩) := HWA18.out.later kk
  clear HWA18; have HWA18 : Hid (NodeAt (fun _ => True) ue (.mk 3 Oct.none [t, u] 0 0) ⟨3, Oct.none, some ⟨G2, 0, none⟩, 2, 2, 0, 0⟩) := HWA182.out; clear HWA182
  have HNA192 : Hid (NB ue A19 ⟨5, Oct.none, some ⟨G3, 0, none⟩, 1, 1, (L : Int), -1⟩) := HNA19.out.later kk
  clear HNA19; have HNA19 : Hid (NB ue A19 ⟨5, Oct.none, some ⟨G3, 0, none⟩, 1, 1, (L : Int), -1⟩) := HNA192.out; clear HNA192
  have HWA192 : Hid (NodeAt (fun _ => True) ue (.mk 5 Oct.none [t] (L : Int) (-1)) ⟨5, Oct.none, some ⟨G3, 0, none⟩, 1, 1, (L : Int), -1⟩) := HWA19.out.later kk
  clear HWA19; have HWA19 : Hid (NodeAt (fun _ => True) ue (.mk 5 Oct.none [t] (L : Int) (-1)) ⟨5, Oct.none, some ⟨G3, 0, none⟩, 1, 1, (L : Int), -1⟩) := HWA192.out; clear HWA192
  have HZ12 : Hid ((placesOf (up (.mk 4 Oct.none [t, u] 0 0)) ≤ 2048 ∧ c3 = 0 ∧ NodeAt (fun _ => True) ue (.mk 4 Oct.none [t, u] 0 0) x3) ∨ (2048 < placesOf (up (.mk 4 Oct.none [t, u] 0 0)) ∧ c3 = 48)) := HZ1.out.imp (fun h => ⟨h.1, h.2.1, h.2.2.later kk⟩) id
  clear HZ1; have HZ1 : Hid ((placesOf (up (.mk 4 Oct.none [t, u] 0 0)) ≤ 2048 ∧ c3 = 0 ∧ NodeAt (fun _ => True) ue (.mk 4 Oct.none [t, u] 0 0) x3) ∨ (2048 < placesOf (up (.mk 4 Oct.none [t, u] 0 0)) ∧ c3 = 48)) := HZ12.out; clear HZ12
  have HNA202 : Hid (NB ue A20 x3) := HNA20.out.later kk
  clear HNA20; have HNA20 : Hid (NB ue A20 x3) := HNA202.out; clear HNA202
  have HZ2 : Hid ((placesOf (up (.mk 3 Oct.none [t, u] 0 0)) ≤ 2048 ∧ c4 = 0 ∧ NodeAt (fun _ => True) ue (.mk 3 Oct.none [t, u] 0 0) x4) ∨ (2048 < placesOf (up (.mk 3 Oct.none [t, u] 0 0)) ∧ c4 = 48)) := hz2
  clear kk hz2 HR2
  have kk : Below ue.heap.size ue (ue.alloc (.cells #[.int .i64 x4.k, .int .u64 (Oct.word x4.s 0 : Nat), .int .u64 (Oct.word x4.s 1 : Nat), .int .u64 (Oct.word x4.s 2 : Nat), .int .u64 (Oct.word x4.s 3 : Nat), .slice x4.a x4.n x4.c, .int .i64 x4.mn, .int .i64 x4.mx] 28)) := (Below.refl _ _).alloc (Nat.le_refl _) _
  have HNA22 : Hid (NB (ue.alloc (.cells #[.int .i64 x4.k, .int .u64 (Oct.word x4.s 0 : Nat), .int .u64 (Oct.word x4.s 1 : Nat), .int .u64 (Oct.word x4.s 2 : Nat), .int .u64 (Oct.word x4.s 3 : Nat), .slice x4.a x4.n x4.c, .int .i64 x4.mn, .int .i64 x4.mx] 28)) ue.heap.size x4) := nb_new ue x4
  obtain ⟨uf, huf⟩ : ∃ uf, (ue.alloc (.cells #[.int .i64 x4.k, .int .u64 (Oct.word x4.s 0 : Nat), .int .u64 (Oct.word x4.s 1 : Nat), .int .u64 (Oct.word x4.s 2 : Nat), .int .u64 (Oct.word x4.s 3 : Nat), .slice x4.a x4.n x4.c, .int .i64 x4.mn, .int .i64 x4.mx] 28)) = uf := ⟨_, rfl⟩
  rw [huf] at kk HNA22
  have HB2 : Hid (Below w.heap.size w uf) := below_step HB.out kk
  clear HB; have HB : Hid (Below w.heap.size w uf) := HB2.out; clear HB2
  have HNx2 : Hid (NB uf A3 x) := HNx.out.later kk
  clear HNx; have HNx : Hid (NB uf A3 x) := HNx2.out; clear HNx2
  have HNy2 : Hid (NB uf A5 y) := HNy.out.later kk
  clear HNy; have HNy : Hid (NB uf A5 y) := HNy2.out; clear HNy2
  have HX2 : Hid (NodeAt (fun _ => True) uf t x) := HX.out.later kk
  clear HX; have HX : Hid (NodeAt (fun _ => True) uf t x) := HX2.out; clear HX2
  have HY2 : Hid (NodeAt (fun _ => True) uf u y) := HY.out.later kk
  clear HY; have HY : Hid (NodeAt (fun _ => True) uf u y) := HY2.out; clear HY2
  have HNA172 : Hid (NB uf A17 ⟨4, Oct.none, some ⟨G1, 0, none⟩, 2, 2, 0, 0⟩) := HNA17.out.later kk
  clear HNA17; have HNA17 : Hid (NB uf A17 ⟨4, Oct.none, some ⟨G1, 0, none⟩, 2, 2, 0, 0⟩) := HNA172.out; clear HNA172
  have HWA172 : Hid (NodeAt (fun _ => True) uf (.mk 4 Oct.none [t, u] 0 0) ⟨4, Oct.none, some ⟨G1, 0, none⟩, 2, 2, 0, 0⟩) := HWA17.out.later kk
  clear HWA17; have HWA17 : Hid (NodeAt (fun _ => True) uf (.mk 4 Oct.none [t, u] 0 0) ⟨4, Oct.none, some ⟨G1, 0, none⟩, 2, 2, 0, 0⟩) := HWA172.out; clear HWA172
  have HNA182 : Hid (NB uf A18 ⟨3, Oct.none, some ⟨G2, 0, none⟩, 2, 2, 0, 0⟩) := HNA18.out.later kk
  clear HNA18; have HNA18 : Hid (NB uf A18 ⟨3, Oct.none, some ⟨G2, 0, none⟩, 2, 2, 0, 0⟩) := HNA182.out; clear HNA182
  have HWA182 : Hid (NodeAt (fun _ => True) uf (.mk 3 Oct.none [t, u] 0 0) ⟨3, Oct.none, some ⟨G2, 0, none⟩, 2, 2, 0, 0⟩) := HWA18.out.later kk
  clear HWA18; have HWA18 : Hid (NodeAt (fun _ => True) uf (.mk 3 Oct.none [t, u] 0 0) ⟨3, Oct.none, some ⟨G2, 0, none⟩, 2, 2, 0, 0⟩) := HWA182.out; clear HWA182
  have HNA192 : Hid (NB uf A19 ⟨5, Oct.none, some ⟨G3, 0, none⟩, 1, 1, (L : Int), -1⟩) := HNA19.out.later kk
  clear HNA19; have HNA19 : Hid (NB uf A19 ⟨5, Oct.none, some ⟨G3, 0, none⟩, 1, 1, (L : Int), -1⟩) := HNA192.out; clear HNA192
  have HWA192 : Hid (NodeAt (fun _ => True) uf (.mk 5 Oct.none [t] (L : Int) (-1)) ⟨5, Oct.none, some ⟨G3, 0, none⟩, 1, 1, (L : Int), -1⟩) := HWA19.out.later kk
  clear HWA19; have HWA19 : Hid (NodeAt (fun _ => True) uf (.mk 5 Oct.none [t] (L : Int) (-1)) ⟨5, Oct.none, some ⟨G3, 0, none⟩, 1, 1, (L : Int), -1⟩) := HWA192.out; clear HWA192
  have HZ12 : Hid ((placesOf (up (.mk 4 Oct.none [t, u] 0 0)) ≤ 2048 ∧ c3 = 0 ∧ NodeAt (fun _ => True) uf (.mk 4 Oct.none [t, u] 0 0) x3) ∨ (2048 < placesOf (up (.mk 4 Oct.none [t, u] 0 0)) ∧ c3 = 48)) := HZ1.out.imp (fun h => ⟨h.1, h.2.1, h.2.2.later kk⟩) id
  clear HZ1; have HZ1 : Hid ((placesOf (up (.mk 4 Oct.none [t, u] 0 0)) ≤ 2048 ∧ c3 = 0 ∧ NodeAt (fun _ => True) uf (.mk 4 Oct.none [t, u] 0 0) x3) ∨ (2048 < placesOf (up (.mk 4 Oct.none [t, u] 0 0)) ∧ c3 = 48)) := HZ12.out; clear HZ12
  have HNA202 : Hid (NB uf A20 x3) := HNA20.out.later kk
  clear HNA20; have HNA20 : Hid (NB uf A20 x3) := HNA202.out; clear HNA202
  have HZ22 : Hid ((placesOf (up (.mk 3 Oct.none [t, u] 0 0)) ≤ 2048 ∧ c4 = 0 ∧ NodeAt (fun _ => True) uf (.mk 3 Oct.none [t, u] 0 0) x4) ∨ (2048 < placesOf (up (.mk 3 Oct.none [t, u] 0 0)) ∧ c4 = 48)) := HZ2.out.imp (fun h => ⟨h.1, h.2.1, h.2.2.later kk⟩) id
  clear HZ2; have HZ2 : Hid ((placesOf (up (.mk 3 Oct.none [t, u] 0 0)) ≤ 2048 ∧ c4 = 0 ∧ NodeAt (fun _ => True) uf (.mk 3 Oct.none [t, u] 0 0) x4) ∨ (2048 < placesOf (up (.mk 3 Oct.none [t, u] 0 0)) ∧ c4 = 48)) := HZ22.out; clear HZ22
  have HUuf : Hid ((ue.alloc (.cells #[.int .i64 x4.k, .int .u64 (Oct.word x4.s 0 : Nat), .int .u64 (Oct.word x4.s 1 : Nat), .int .u64 (Oct.word x4.s 2 : Nat), .int .u64 (Oct.word x4.s 3 : Nat), .slice x4.a x4.n x4.c, .int .i64 x4.mn, .int .i64 x4.mx] 28)) = uf) := huf
  clear kk huf
  obtain ⟨A22, hA22⟩ : ∃ A22, ue.heap.size = A22 := ⟨_, rfl⟩
  rw [hA22] at HNA22
  have HAA22 : Hid (ue.heap.size = A22) := hA22
  clear hA22
  unfold Nd.val
  go_upto_region 15 with fail
  rw [HUuf.out, HAA22.out]
  clear HUuf HAA22
  have hS3 := HS3.out
  go_wp2_with fail
  refine (number_any L _ hL).mono ?_
  rintro e ug ⟨rfl, kk⟩
  have HB2 : Hid (Below w.heap.size w ug) := below_step HB.out kk
  clear HB; have HB : Hid (Below w.heap.size w ug) := HB2.out; clear HB2
  have HNx2 : Hid (NB ug A3 x) := HNx.out.later kk
  clear HNx; have HNx : Hid (NB ug A3 x) := HNx2.out; clear HNx2
  have HNy2 : Hid (NB ug A5 y) := HNy.out.later kk
  clear HNy; have HNy : Hid (NB ug A5 y) := HNy2.out; clear HNy2
  have HX2 : Hid (NodeAt (fun _ => True) ug t x) := HX.out.later kk
  clear HX; have HX : Hid (NodeAt (fun _ => True) ug t x) := HX2.out; clear HX2
  have HY2 : Hid (NodeAt (fun _ => True) ug u y) := HY.out.later kk
  clear HY; have HY : Hid (NodeAt (fun _ => True) ug u y) := HY2.out; clear HY2
  have HNA172 : Hid (NB ug A17 ⟨4, Oct.none, some ⟨G1, 0, none⟩, 2, 2, 0, 0⟩) := HNA17.out.later kk
  clear HNA17; have HNA17 : Hid (NB ug A17 ⟨4, Oct.none, some ⟨G1, 0, none⟩, 2, 2, 0, 0⟩) := HNA172.out; clear HNA172
  have HWA172 : Hid (NodeAt (fun _ => True) ug (.mk 4 Oct.none [t, u] 0 0) ⟨4, Oct.none, some ⟨G1, 0, none⟩, 2, 2, 0, 0⟩) := HWA17.out.later kk
  clear HWA17; have HWA17 : Hid (NodeAt (fun _ => True) ug (.mk 4 Oct.none [t, u] 0 0) ⟨4, Oct.none, some ⟨G1, 0, none⟩, 2, 2, 0, 0⟩) := HWA172.out; clear HWA172
  have HNA182 : Hid (NB ug A18 ⟨3, Oct.none, some ⟨G2, 0, none⟩, 2, 2, 0, 0⟩) := HNA18.out.later kk
  clear HNA18; have HNA18 : Hid (NB ug A18 ⟨3, Oct.none, some ⟨G2, 0, none⟩, 2, 2, 0, 0⟩) := HNA182.out; clear HNA182
  have HWA182 : Hid (NodeAt (fun _ => True) ug (.mk 3 Oct.none [t, u] 0 0) ⟨3, Oct.none, some ⟨G2, 0, none⟩, 2, 2, 0, 0⟩) := HWA18.out.later kk
  clear HWA18; have HWA18 : Hid (NodeAt (fun _ => True) ug (.mk 3 Oct.none [t, u] 0 0) ⟨3, Oct.none, some ⟨G2, 0, none⟩, 2, 2, 0, 0⟩) := HWA182.out; clear HWA182
  have HNA192 : Hid (NB ug A19 ⟨5, Oct.none, some ⟨G3, 0, none⟩, 1, 1, (L : Int), -1⟩) := HNA19.out.later kk
  clear HNA19; have HNA19 : Hid (NB ug A19 ⟨5, Oct.none, some ⟨G3, 0, none⟩, 1, 1, (L : Int), -1⟩) := HNA192.out; clear HNA192
  have HWA192 : Hid (NodeAt (fun _ => True) ug (.mk 5 Oct.none [t] (L : Int) (-1)) ⟨5, Oct.none, some ⟨G3, 0, none⟩, 1, 1, (L : Int), -1⟩) := HWA19.out.later kk
  clear HWA19; have HWA19 : Hid (NodeAt (fun _ => True) ug (.mk 5 Oct.none [t] (L : Int) (-1)) ⟨5, Oct.none, some ⟨G3, 0, none⟩, 1, 1, (L : Int), -1⟩) := HWA192.out; clear HWA192
  have HZ12 : Hid ((placesOf (up (.mk 4 Oct.none [t, u] 0 0)) ≤ 2048 ∧ c3 = 0 ∧ NodeAt (fun _ => True) ug (.mk 4 Oct.none [t, u] 0 0) x3) ∨ (2048 < placesOf (up (.mk 4 Oct.none [t, u] 0 0)) ∧ c3 = 48)) := HZ1.out.imp (fun h => ⟨h.1, h.2.1, h.2.2.later kk⟩) id
  clear HZ1; have HZ1 : Hid ((placesOf (up (.mk 4 Oct.none [t, u] 0 0)) ≤ 2048 ∧ c3 = 0 ∧ NodeAt (fun _ => True) ug (.mk 4 Oct.none [t, u] 0 0) x3) ∨ (2048 < placesOf (up (.mk 4 Oct.none [t, u] 0 0)) ∧ c3 = 48)) := HZ12.out; clear HZ12
  have HNA202 : Hid (NB ug A20 x3) := HNA20.out.later kk
  clear HNA20; have HNA20 : Hid (NB ug A20 x3) := HNA202.out; clear HNA202
  have HZ22 : Hid ((placesOf (up (.mk 3 Oct.none [t, u] 0 0)) ≤ 2048 ∧ c4 = 0 ∧ NodeAt (fun _ => True) ug (.mk 3 Oct.none [t, u] 0 0) x4) ∨ (2048 < placesOf (up (.mk 3 Oct.none [t, u] 0 0)) ∧ c4 = 48)) := HZ2.out.imp (fun h => ⟨h.1, h.2.1, h.2.2.later kk⟩) id
  clear HZ2; have HZ2 : Hid ((placesOf (up (.mk 3 Oct.none [t, u] 0 0)) ≤ 2048 ∧ c4 = 0 ∧ NodeAt (fun _ => True) ug (.mk 3 Oct.none [t, u] 0 0) x4) ∨ (2048 < placesOf (up (.mk 3 Oct.none [t, u] 0 0)) ∧ c4 = 48)) := HZ22.out; clear HZ22
  have HNA222 : Hid (NB ug A22 x4) := HNA22.out.later kk
  clear HNA22; have HNA22 : Hid (NB ug A22 x4) := HNA222.out; clear HNA222
  clear kk
  obtain ⟨D, hD⟩ : ∃ D, decTo L ⟨#[]⟩ = D := ⟨_, rfl⟩
  rw [hD] at hS3 HR3 ⊢
  clear hD HS3
  go_wp2_with fail
  refine (parse_res HR3.out _ (HGM.out.later HB.out)).mono ?_
  rintro e uh ⟨kk, x5, c5, rfl, hz3⟩
  have HB2 : Hid (Below w.heap.size w uh) := below_step HB.out kk
  clear HB; have HB : Hid (Below w.heap.size w uh) := HB2.out; clear HB2
  have HNx2 : Hid (NB uh A3 x) := HNx.out.later kk
  clear HNx; have HNx : Hid (NB uh A3 x) := HNx2.out; clear HNx2
  have HNy2 : Hid (NB uh A5 y) := HNy.out.later kk
  clear HNy; have HNy : Hid (NB uh A5 y) := HNy2.out; clear HNy2
  have HX2 : Hid (NodeAt (fun _ => True) uh t x) := HX.out.later kk
  clear HX; have HX : Hid (NodeAt (fun _ => True) uh t x) := HX2.out; clear HX2
  have HY2 : Hid (NodeAt (fun _ => True) uh u y) := HY.out.later kk
  clear HY; have HY : Hid (NodeAt (fun _ => True) uh u y) := HY2.out; clear HY2
  have HNA172 : Hid (NB uh A17 ⟨4, Oct.none, some ⟨G1, 0, none⟩, 2, 2, 0, 0⟩) := HNA17.out.later kk
  clear HNA17; have HNA17 : Hid (NB uh A17 ⟨4, Oct.none, some ⟨G1, 0, none⟩, 2, 2, 0, 0⟩) := HNA172.out; clear HNA172
  have HWA172 : Hid (NodeAt (fun _ => True) uh (.mk 4 Oct.none [t, u] 0 0) ⟨4, Oct.none, some ⟨G1, 0, none⟩, 2, 2, 0, 0⟩) := HWA17.out.later kk
  clear HWA17; have HWA17 : Hid (NodeAt (fun _ => True) uh (.mk 4 Oct.none [t, u] 0 0) ⟨4, Oct.none, some ⟨G1, 0, none⟩, 2, 2, 0, 0⟩) := HWA172.out; clear HWA172
  have HNA182 : Hid (NB uh A18 ⟨3, Oct.none, some ⟨G2, 0, none⟩, 2, 2, 0, 0⟩) := HNA18.out.later kk
  clear HNA18; have HNA18 : Hid (NB uh A18 ⟨3, Oct.none, some ⟨G2, 0, none⟩, 2, 2, 0, 0⟩) := HNA182.out; clear HNA182
  have HWA182 : Hid (NodeAt (fun _ => True) uh (.mk 3 Oct.none [t, u] 0 0) ⟨3, Oct.none, some ⟨G2, 0, none⟩, 2, 2, 0, 0⟩) := HWA18.out.later kk
  clear HWA18; have HWA18 : Hid (NodeAt (fun _ => True) uh (.mk 3 Oct.none [t, u] 0 0) ⟨3, Oct.none, some ⟨G2, 0, none⟩, 2, 2, 0, 0⟩) := HWA182.out; clear HWA182
  have HNA192 : Hid (NB uh A19 ⟨5, Oct.none, some ⟨G3, 0, none⟩, 1, 1, (L : Int), -1⟩) := HNA19.out.later kk
  clear HNA19; have HNA19 : Hid (NB uh A19 ⟨5, Oct.none, some ⟨G3, 0, none⟩, 1, 1, (L : Int), -1⟩) := HNA192.out; clear HNA192
  have HWA192 : Hid (NodeAt (fun _ => True) uh (.mk 5 Oct.none [t] (L : Int) (-1)) ⟨5, Oct.none, some ⟨G3, 0, none⟩, 1, 1, (L : Int), -1⟩) := HWA19.out.later kk
  clear HWA19; have HWA19 : Hid (NodeAt (fun _ => True) uh (.mk 5 Oct.none [t] (L : Int) (-1)) ⟨5, Oct.none, some ⟨G3, 0, none⟩, 1, 1, (L : Int), -1⟩) := HWA192.out; clear HWA192
  have HZ12 : Hid ((placesOf (up (.mk 4 Oct.none [t, u] 0 0)) ≤ 2048 ∧ c3 = 0 ∧ NodeAt (fun _ => True) uh (.mk 4 Oct.none [t, u] 0 0) x3) ∨ (2048 < placesOf (up (.mk 4 Oct.none [t, u] 0 0)) ∧ c3 = 48)) := HZ1.out.imp (fun h => ⟨h.1, h.2.1, h.2.2.later kk⟩) id
  clear HZ1; have HZ1 : Hid ((placesOf (up (.mk 4 Oct.none [t, u] 0 0)) ≤ 2048 ∧ c3 = 0 ∧ NodeAt (fun _ => True) uh (.mk 4 Oct.none [t, u] 0 0) x3) ∨ (2048 < placesOf (up (.mk 4 Oct.none [t, u] 0 0)) ∧ c3 = 48)) := HZ12.out; clear HZ12
  have HNA202 : Hid (NB uh A20 x3) := HNA20.out.later kk
  clear HNA20; have HNA20 : Hid (NB uh A20 x3) := HNA202.out; clear HNA202
  have HZ22 : Hid ((placesOf (up (.mk 3 Oct.none [t, u] 0 0)) ≤ 2048 ∧ c4 = 0 ∧ NodeAt (fun _ => True) uh (.mk 3 Oct.none [t, u] 0 0) x4) ∨ (2048 < placesOf (up (.mk 3 Oct.none [t, u] 0 0)) ∧ c4 = 48)) := HZ2.out.imp (fun h => ⟨h.1, h.2.1, h.2.2.later kk⟩) id
  clear HZ2; have HZ2 : Hid ((placesOf (up (.mk 3 Oct.none [t, u] 0 0)) ≤ 2048 ∧ c4 = 0 ∧ NodeAt (fun _ => True) uh (.mk 3 Oct.none [t, u] 0 0) x4) ∨ (2048 < placesOf (up (.mk 3 Oct.none [t, u] 0 0)) ∧ c4 = 48)) := HZ22.out; clear HZ22
  have HNA222 : Hid (NB uh A22 x4) := HNA22.out.later kk
  clear HNA22; have HNA22 : Hid (NB uh A22 x4) := HNA222.out; clear HNA222
  have HZ3 : Hid ((placesOf (up (.mk 5 Oct.none [t] (L : Int) (-1))) ≤ 2048 ∧ c5 = 0 ∧ NodeAt (fun _ => True) uh (.mk 5 Oct.none [t] (L : Int) (-1)) x5) ∨ (2048 < placesOf (up (.mk 5 Oct.none [t] (L : Int) (-1))) ∧ c5 = 48)) := hz3
  clear kk hz3 HR3
  have kk : Below uh.heap.size uh (uh.alloc (.cells #[.int .i64 x5.k, .int .u64 (Oct.word x5.s 0 : Nat), .int .u64 (Oct.word x5.s 1 : Nat), .int .u64 (Oct.word x5.s 2 : Nat), .int .u64 (Oct.word x5.s 3 : Nat), .slice x5.a x5.n x5.c, .int .i64 x5.mn, .int .i64 x5.mx] 28)) := (Below.refl _ _).alloc (Nat.le_refl _) _
  have HNA24 : Hid (NB (uh.alloc (.cells #[.int .i64 x5.k, .int .u64 (Oct.word x5.s 0 : Nat), .int .u64 (Oct.word x5.s 1 : Nat), .int .u64 (Oct.word x5.s 2 : Nat), .int .u64 (Oct.word x5.s 3 : Nat), .slice x5.a x5.n x5.c, .int .i64 x5.mn, .int .i64 x5.mx] 28)) uh.heap.size x5) := nb_new uh x5
  obtain ⟨ui, hui⟩ : ∃ ui, (uh.alloc (.cells #[.int .i64 x5.k, .int .u64 (Oct.word x5.s 0 : Nat), .int .u64 (Oct.word x5.s 1 : Nat), .int .u64 (Oct.word x5.s 2 : Nat), .int .u64 (Oct.word x5.s 3 : Nat), .slice x5.a x5.n x5.c, .int .i64 x5.mn, .int .i64 x5.mx] 28)) = ui := ⟨_, rfl⟩
  rw [hui] at kk HNA24
  have HB2 : Hid (Below w.heap.size w ui) := below_step HB.out kk
  clear HB; have HB : Hid (Below w.heap.size w ui) := HB2.out; clear HB2
  have HNx2 : Hid (NB ui A3 x) := HNx.out.later kk
  clear HNx; have HNx : Hid (NB ui A3 x) := HNx2.out; clear HNx2
  have HNy2 : Hid (NB ui A5 y) := HNy.out.later kk
  clear HNy; have HNy : Hid (NB ui A5 y) := HNy2.out; clear HNy2
  have HX2 : Hid (NodeAt (fun _ => True) ui t x) := HX.out.later kk
  clear HX; have HX : Hid (NodeAt (fun _ => True) ui t x) := HX2.out; clear HX2
  have HY2 : Hid (NodeAt (fun _ => True) ui u y) := HY.out.later kk
  clear HY; have HY : Hid (NodeAt (fun _ => True) ui u y) := HY2.out; clear HY2
  have HNA172 : Hid (NB ui A17 ⟨4, Oct.none, some ⟨G1, 0, none⟩, 2, 2, 0, 0⟩) := HNA17.out.later kk
  clear HNA17; have HNA17 : Hid (NB ui A17 ⟨4, Oct.none, some ⟨G1, 0, none⟩, 2, 2, 0, 0⟩) := HNA172.out; clear HNA172
  have HWA172 : Hid (NodeAt (fun _ => True) ui (.mk 4 Oct.none [t, u] 0 0) ⟨4, Oct.none, some ⟨G1, 0, none⟩, 2, 2, 0, 0⟩) := HWA17.out.later kk
  clear HWA17; have HWA17 : Hid (NodeAt (fun _ => True) ui (.mk 4 Oct.none [t, u] 0 0) ⟨4, Oct.none, some ⟨G1, 0, none⟩, 2, 2, 0, 0⟩) := HWA172.out; clear HWA172
  have HNA182 : Hid (NB ui A18 ⟨3, Oct.none, some ⟨G2, 0, none⟩, 2, 2, 0, 0⟩) := HNA18.out.later kk
  clear HNA18; have HNA18 : Hid (NB ui A18 ⟨3, Oct.none, some ⟨G2, 0, none⟩, 2, 2, 0, 0⟩) := HNA182.out; clear HNA182
  have HWA182 : Hid (NodeAt (fun _ => True) ui (.mk 3 Oct.none [t, u] 0 0) ⟨3, Oct.none, some ⟨G2, 0, none⟩, 2, 2, 0, 0⟩) := HWA18.out.later kk
  clear HWA18; have HWA18 : Hid (NodeAt (fun _ => True) ui (.mk 3 Oct.none [t, u] 0 0) ⟨3, Oct.none, some ⟨G2, 0, none⟩, 2, 2, 0, 0⟩) := HWA182.out; clear HWA182
  have HNA192 : Hid (NB ui A19 ⟨5, Oct.none, some ⟨G3, 0, none⟩, 1, 1, (L : Int), -1⟩) := HNA19.out.later kk
  clear HNA19; have HNA19 : Hid (NB ui A19 ⟨5, Oct.none, some ⟨G3, 0, none⟩, 1, 1, (L : Int), -1⟩) := HNA192.out; clear HNA192
  have HWA192 : Hid (NodeAt (fun _ => True) ui (.mk 5 Oct.none [t] (L : Int) (-1)) ⟨5, Oct.none, some ⟨G3, 0, none⟩, 1, 1, (L : Int), -1⟩) := HWA19.out.later kk
  clear HWA19; have HWA19 : Hid (NodeAt (fun _ => True) ui (.mk 5 Oct.none [t] (L : Int) (-1)) ⟨5, Oct.none, some ⟨G3, 0, none⟩, 1, 1, (L : Int), -1⟩) := HWA192.out; clear HWA192
  have HZ12 : Hid ((placesOf (up (.mk 4 Oct.none [t, u] 0 0)) ≤ 2048 ∧ c3 = 0 ∧ NodeAt (fun _ => True) ui (.mk 4 Oct.none [t, u] 0 0) x3) ∨ (2048 < placesOf (up (.mk 4 Oct.none [t, u] 0 0)) ∧ c3 = 48)) := HZ1.out.imp (fun h => ⟨h.1, h.2.1, h.2.2.later kk⟩) id
  clear HZ1; have HZ1 : Hid ((placesOf (up (.mk 4 Oct.none [t, u] 0 0)) ≤ 2048 ∧ c3 = 0 ∧ NodeAt (fun _ => True) ui (.mk 4 Oct.none [t, u] 0 0) x3) ∨ (2048 < placesOf (up (.mk 4 Oct.none [t, u] 0 0)) ∧ c3 = 48)) := HZ12.out; clear HZ12
  have HNA202 : Hid (NB ui A20 x3) := HNA20.out.later kk
  clear HNA20; have HNA20 : Hid (NB ui A20 x3) := HNA202.out; clear HNA202
  have HZ22 : Hid ((placesOf (up (.mk 3 Oct.none [t, u] 0 0)) ≤ 2048 ∧ c4 = 0 ∧ NodeAt (fun _ => True) ui (.mk 3 Oct.none [t, u] 0 0) x4) ∨ (2048 < placesOf (up (.mk 3 Oct.none [t, u] 0 0)) ∧ c4 = 48)) := HZ2.out.imp (fun h => ⟨h.1, h.2.1, h.2.2.later kk⟩) id
  clear HZ2; have HZ2 : Hid ((placesOf (up (.mk 3 Oct.none [t, u] 0 0)) ≤ 2048 ∧ c4 = 0 ∧ NodeAt (fun _ => True) ui (.mk 3 Oct.none [t, u] 0 0) x4) ∨ (2048 < placesOf (up (.mk 3 Oct.none [t, u] 0 0)) ∧ c4 = 48)) := HZ22.out; clear HZ22
  have HNA222 : Hid (NB ui A22 x4) := HNA22.out.later kk
  clear HNA22; have HNA22 : Hid (NB ui A22 x4) := HNA222.out; clear HNA222
  have HZ32 : Hid ((placesOf (up (.mk 5 Oct.none [t] (L : Int) (-1))) ≤ 2048 ∧ c5 = 0 ∧ NodeAt (fun _ => True) ui (.mk 5 Oct.none [t] (L : Int) (-1)) x5) ∨ (2048 < placesOf (up (.mk 5 Oct.none [t] (L : Int) (-1))) ∧ c5 = 48)) := HZ3.out.imp (fun h => ⟨h.1, h.2.1, h.2.2.later kk⟩) id
  clear HZ3; have HZ3 : Hid ((placesOf (up (.mk 5 Oct.none [t] (L : Int) (-1))) ≤ 2048 ∧ c5 = 0 ∧ NodeAt (fun _ => True) ui (.mk 5 Oct.none [t] (L : Int) (-1)) x5) ∨ (2048 < placesOf (up (.mk 5 Oct.none [t] (L : Int) (-1))) ∧ c5 = 48)) := HZ32.out; clear HZ32
  have HUui : Hid ((uh.alloc (.cells #[.int .i64 x5.k, .int .u64 (Oct.word x5.s 0 : Nat), .int .u64 (Oct.word x5.s 1 : Nat), .int .u64 (Oct.word x5.s 2 : Nat), .int .u64 (Oct.word x5.s 3 : Nat), .slice x5.a x5.n x5.c, .int .i64 x5.mn, .int .i64 x5.mx] 28)) = ui) := hui
  clear kk hui
  obtain ⟨A24, hA24⟩ : ∃ A24, uh.heap.size = A24 := ⟨_, rfl⟩
  rw [hA24] at HNA24
  have HAA24 : Hid (uh.heap.size = A24) := hA24
  clear hA24
  unfold Nd.val
  go_upto_region 16 with fail
  rw [HUui.out, HAA24.out]
  clear HUui HAA24
  have HO : Hid (∀ v, Below ui.heap.size ui v → Calls Try.prog 18 #[x3.val, .int .i64 c3, Nd.val ⟨4, Oct.none, some ⟨G1, 0, none⟩, 2, 2, 0, 0⟩] v fun r w' => r = .returned (.bool true) ∧ Below v.heap.size v w') := fun v hv => one_any (N := 1025) (HWA17.out) HG1.out (by decide) (by decide) c3 HZ1.out v hv
  simp only [Nd.val, word0] at HO
  have hcw := HNA17.out.cells
  simp only [word0] at hcw
  obtain ⟨d0, d1, d2, d3, d4, d5, d6, d7⟩ := hcw
  obtain ⟨c0, c1, c2, c3, c4, c5, c6, c7⟩ := HNA20.out.cells
  go_wp2_with fail
  refine (HO.out _ (Below.refl _ _)).mono ?_
  rintro e uj ⟨rfl, kk⟩
  clear c0 c1 c2 c3 c4 c5 c6 c7 d0 d1 d2 d3 d4 d5 d6 d7
  clear HO
  have HB2 : Hid (Below w.heap.size w uj) := below_step HB.out kk
  clear HB; have HB : Hid (Below w.heap.size w uj) := HB2.out; clear HB2
  have HNx2 : Hid (NB uj A3 x) := HNx.out.later kk
  clear HNx; have HNx : Hid (NB uj A3 x) := HNx2.out; clear HNx2
  have HNy2 : Hid (NB uj A5 y) := HNy.out.later kk
  clear HNy; have HNy : Hid (NB uj A5 y) := HNy2.out; clear HNy2
  have HX2 : Hid (NodeAt (fun _ => True) uj t x) := HX.out.later kk
  clear HX; have HX : Hid (NodeAt (fun _ => True) uj t x) := HX2.out; clear HX2
  have HY2 : Hid (NodeAt (fun _ => True) uj u y) := HY.out.later kk
  clear HY; have HY : Hid (NodeAt (fun _ => True) uj u y) := HY2.out; clear HY2
  have HNA172 : Hid (NB uj A17 ⟨4, Oct.none, some ⟨G1, 0, none⟩, 2, 2, 0, 0⟩) := HNA17.out.later kk
  clear HNA17; have HNA17 : Hid (NB uj A17 ⟨4, Oct.none, some ⟨G1, 0, none⟩, 2, 2, 0, 0⟩) := HNA172.out; clear HNA172
  have HWA172 : Hid (NodeAt (fun _ => True) uj (.mk 4 Oct.none [t, u] 0 0) ⟨4, Oct.none, some ⟨G1, 0, none⟩, 2, 2, 0, 0⟩) := HWA17.out.later kk
  clear HWA17; have HWA17 : Hid (NodeAt (fun _ => True) uj (.mk 4 Oct.none [t, u] 0 0) ⟨4, Oct.none, some ⟨G1, 0, none⟩, 2, 2, 0, 0⟩) := HWA172.out; clear HWA172
  have HNA182 : Hid (NB uj A18 ⟨3, Oct.none, some ⟨G2, 0, none⟩, 2, 2, 0, 0⟩) := HNA18.out.later kk
  clear HNA18; have HNA18 : Hid (NB uj A18 ⟨3, Oct.none, some ⟨G2, 0, none⟩, 2, 2, 0, 0⟩) := HNA182.out; clear HNA182
  have HWA182 : Hid (NodeAt (fun _ => True) uj (.mk 3 Oct.none [t, u] 0 0) ⟨3, Oct.none, some ⟨G2, 0, none⟩, 2, 2, 0, 0⟩) := HWA18.out.later kk
  clear HWA18; have HWA18 : Hid (NodeAt (fun _ => True) uj (.mk 3 Oct.none [t, u] 0 0) ⟨3, Oct.none, some ⟨G2, 0, none⟩, 2, 2, 0, 0⟩) := HWA182.out; clear HWA182
  have HNA192 : Hid (NB uj A19 ⟨5, Oct.none, some ⟨G3, 0, none⟩, 1, 1, (L : Int), -1⟩) := HNA19.out.later kk
  clear HNA19; have HNA19 : Hid (NB uj A19 ⟨5, Oct.none, some ⟨G3, 0, none⟩, 1, 1, (L : Int), -1⟩) := HNA192.out; clear HNA192
  have HWA192 : Hid (NodeAt (fun _ => True) uj (.mk 5 Oct.none [t] (L : Int) (-1)) ⟨5, Oct.none, some ⟨G3, 0, none⟩, 1, 1, (L : Int), -1⟩) := HWA19.out.later kk
  clear HWA19; have HWA19 : Hid (NodeAt (fun _ => True) uj (.mk 5 Oct.none [t] (L : Int) (-1)) ⟨5, Oct.none, some ⟨G3, 0, none⟩, 1, 1, (L : Int), -1⟩) := HWA192.out; clear HWA192
  have HZ12 : Hid ((placesOf (up (.mk 4 Oct.none [t, u] 0 0)) ≤ 2048 ∧ c3 = 0 ∧ NodeAt (fun _ => True) uj (.mk 4 Oct.none [t, u] 0 0) x3) ∨ (2048 < placesOf (up (.mk 4 Oct.none [t, u] 0 0)) ∧ c3 = 48)) := HZ1.out.imp (fun h => ⟨h.1, h.2.1, h.2.2.later kk⟩) id
  clear HZ1; have HZ1 : Hid ((placesOf (up (.mk 4 Oct.none [t, u] 0 0)) ≤ 2048 ∧ c3 = 0 ∧ NodeAt (fun _ => True) uj (.mk 4 Oct.none [t, u] 0 0) x3) ∨ (2048 < placesOf (up (.mk 4 Oct.none [t, u] 0 0)) ∧ c3 = 48)) := HZ12.out; clear HZ12
  have HNA202 : Hid (NB uj A20 x3) := HNA20.out.later kk
  clear HNA20; have HNA20 : Hid (NB uj A20 x3) := HNA202.out; clear HNA202
  have HZ22 : Hid ((placesOf (up (.mk 3 Oct.none [t, u] 0 0)) ≤ 2048 ∧ c4 = 0 ∧ NodeAt (fun _ => True) uj (.mk 3 Oct.none [t, u] 0 0) x4) ∨ (2048 < placesOf (up (.mk 3 Oct.none [t, u] 0 0)) ∧ c4 = 48)) := HZ2.out.imp (fun h => ⟨h.1, h.2.1, h.2.2.later kk⟩) id
  clear HZ2; have HZ2 : Hid ((placesOf (up (.mk 3 Oct.none [t, u] 0 0)) ≤ 2048 ∧ c4 = 0 ∧ NodeAt (fun _ => True) uj (.mk 3 Oct.none [t, u] 0 0) x4) ∨ (2048 < placesOf (up (.mk 3 Oct.none [t, u] 0 0)) ∧ c4 = 48)) := HZ22.out; clear HZ22
  have HNA222 : Hid (NB uj A22 x4) := HNA22.out.later kk
  clear HNA22; have HNA22 : Hid (NB uj A22 x4) := HNA222.out; clear HNA222
  have HZ32 : Hid ((placesOf (up (.mk 5 Oct.none [t] (L : Int) (-1))) ≤ 2048 ∧ c5 = 0 ∧ NodeAt (fun _ => True) uj (.mk 5 Oct.none [t] (L : Int) (-1)) x5) ∨ (2048 < placesOf (up (.mk 5 Oct.none [t] (L : Int) (-1))) ∧ c5 = 48)) := HZ3.out.imp (fun h => ⟨h.1, h.2.1, h.2.2.later kk⟩) id
  clear HZ3; have HZ3 : Hid ((placesOf (up (.mk 5 Oct.none [t] (L : Int) (-1))) ≤ 2048 ∧ c5 = 0 ∧ NodeAt (fun _ => True) uj (.mk 5 Oct.none [t] (L : Int) (-1)) x5) ∨ (2048 < placesOf (up (.mk 5 Oct.none [t] (L : Int) (-1))) ∧ c5 = 48)) := HZ32.out; clear HZ32
  have HNA242 : Hid (NB uj A24 x5) := HNA24.out.later kk
  clear HNA24; have HNA24 : Hid (NB uj A24 x5) := HNA242.out; clear HNA242
  clear kk
  have HO : Hid (∀ v, Below uj.heap.size uj v → Calls Try.prog 18 #[x4.val, .int .i64 c4, Nd.val ⟨3, Oct.none, some ⟨G2, 0, none⟩, 2, 2, 0, 0⟩] v fun r w' => r = .returned (.bool true) ∧ Below v.heap.size v w') := fun v hv => one_any (N := 1025) (HWA18.out) HG2.out (by decide) (by decide) c4 HZ2.out v hv
  simp only [Nd.val, word0] at HO
  have hcw := HNA18.out.cells
  simp only [word0] at hcw
  obtain ⟨d0, d1, d2, d3, d4, d5, d6, d7⟩ := hcw
  obtain ⟨c0, c1, c2, c3, c4, c5, c6, c7⟩ := HNA22.out.cells
  go_wp2_with fail
  refine (HO.out _ (Below.refl _ _)).mono ?_
  rintro e uk ⟨rfl, kk⟩
  clear c0 c1 c2 c3 c4 c5 c6 c7 d0 d1 d2 d3 d4 d5 d6 d7
  clear HO
  have HB2 : Hid (Below w.heap.size w uk) := below_step HB.out kk
  clear HB; have HB : Hid (Below w.heap.size w uk) := HB2.out; clear HB2
  have HNx2 : Hid (NB uk A3 x) := HNx.out.later kk
  clear HNx; have HNx : Hid (NB uk A3 x) := HNx2.out; clear HNx2
  have HNy2 : Hid (NB uk A5 y) := HNy.out.later kk
  clear HNy; have HNy : Hid (NB uk A5 y) := HNy2.out; clear HNy2
  have HX2 : Hid (NodeAt (fun _ => True) uk t x) := HX.out.later kk
  clear HX; have HX : Hid (NodeAt (fun _ => True) uk t x) := HX2.out; clear HX2
  have HY2 : Hid (NodeAt (fun _ => True) uk u y) := HY.out.later kk
  clear HY; have HY : Hid (NodeAt (fun _ => True) uk u y) := HY2.out; clear HY2
  have HNA172 : Hid (NB uk A17 ⟨4, Oct.none, some ⟨G1, 0, none⟩, 2, 2, 0, 0⟩) := HNA17.out.later kk
  clear HNA17; have HNA17 : Hid (NB uk A17 ⟨4, Oct.none, some ⟨G1, 0, none⟩, 2, 2, 0, 0⟩) := HNA172.out; clear HNA172
  have HWA172 : Hid (NodeAt (fun _ => True) uk (.mk 4 Oct.none [t, u] 0 0) ⟨4, Oct.none, some ⟨G1, 0, none⟩, 2, 2, 0, 0⟩) := HWA17.out.later kk
  clear HWA17; have HWA17 : Hid (NodeAt (fun _ => True) uk (.mk 4 Oct.none [t, u] 0 0) ⟨4, Oct.none, some ⟨G1, 0, none⟩, 2, 2, 0, 0⟩) := HWA172.out; clear HWA172
  have HNA182 : Hid (NB uk A18 ⟨3, Oct.none, some ⟨G2, 0, none⟩, 2, 2, 0, 0⟩) := HNA18.out.later kk
  clear HNA18; have HNA18 : Hid (NB uk A18 ⟨3, Oct.none, some ⟨G2, 0, none⟩, 2, 2, 0, 0⟩) := HNA182.out; clear HNA182
  have HWA182 : Hid (NodeAt (fun _ => True) uk (.mk 3 Oct.none [t, u] 0 0) ⟨3, Oct.none, some ⟨G2, 0, none⟩, 2, 2, 0, 0⟩) := HWA18.out.later kk
  clear HWA18; have HWA18 : Hid (NodeAt (fun _ => True) uk (.mk 3 Oct.none [t, u] 0 0) ⟨3, Oct.none, some ⟨G2, 0, none⟩, 2, 2, 0, 0⟩) := HWA182.out; clear HWA182
  have HNA192 : Hid (NB uk A19 ⟨5, Oct.none, some ⟨G3, 0, none⟩, 1, 1, (L : Int), -1⟩) := HNA19.out.later kk
  clear HNA19; have HNA19 : Hid (NB uk A19 ⟨5, Oct.none, some ⟨G3, 0, none⟩, 1, 1, (L : Int), -1⟩) := HNA192.out; clear HNA192
  have HWA192 : Hid (NodeAt (fun _ => True) uk (.mk 5 Oct.none [t] (L : Int) (-1)) ⟨5, Oct.none, some ⟨G3, 0, none⟩, 1, 1, (L : Int), -1⟩) := HWA19.out.later kk
  clear HWA19; have HWA19 : Hid (NodeAt (fun _ => True) uk (.mk 5 Oct.none [t] (L : Int) (-1)) ⟨5, Oct.none, some ⟨G3, 0, none⟩, 1, 1, (L : Int), -1⟩) := HWA192.out; clear HWA192
  have HZ12 : Hid ((placesOf (up (.mk 4 Oct.none [t, u] 0 0)) ≤ 2048 ∧ c3 = 0 ∧ NodeAt (fun _ => True) uk (.mk 4 Oct.none [t, u] 0 0) x3) ∨ (2048 < placesOf (up (.mk 4 Oct.none [t, u] 0 0)) ∧ c3 = 48)) := HZ1.out.imp (fun h => ⟨h.1, h.2.1, h.2.2.later kk⟩) id
  clear HZ1; have HZ1 : Hid ((placesOf (up (.mk 4 Oct.none [t, u] 0 0)) ≤ 2048 ∧ c3 = 0 ∧ NodeAt (fun _ => True) uk (.mk 4 Oct.none [t, u] 0 0) x3) ∨ (2048 < placesOf (up (.mk 4 Oct.none [t, u] 0 0)) ∧ c3 = 48)) := HZ12.out; clear HZ12
  have HNA202 : Hid (NB uk A20 x3) := HNA20.out.later kk
  clear HNA20; have HNA20 : Hid (NB uk A20 x3) := HNA202.out; clear HNA202
  have HZ22 : Hid ((placesOf (up (.mk 3 Oct.none [t, u] 0 0)) ≤ 2048 ∧ c4 = 0 ∧ NodeAt (fun _ => True) uk (.mk 3 Oct.none [t, u] 0 0) x4) ∨ (2048 < placesOf (up (.mk 3 Oct.none [t, u] 0 0)) ∧ c4 = 48)) := HZ2.out.imp (fun h => ⟨h.1, h.2.1, h.2.2.later kk⟩) id
  clear HZ2; have HZ2 : Hid ((placesOf (up (.mk 3 Oct.none [t, u] 0 0)) ≤ 2048 ∧ c4 = 0 ∧ NodeAt (fun _ => True) uk (.mk 3 Oct.none [t, u] 0 0) x4) ∨ (2048 < placesOf (up (.mk 3 Oct.none [t, u] 0 0)) ∧ c4 = 48)) := HZ22.out; clear HZ22
  have HNA222 : Hid (NB uk A22 x4) := HNA22.out.later kk
  clear HNA22; have HNA22 : Hid (NB uk A22 x4) := HNA222.out; clear HNA222
  have HZ32 : Hid ((placesOf (up (.mk 5 Oct.none [t] (L : Int) (-1))) ≤ 2048 ∧ c5 = 0 ∧ NodeAt (fun _ => True) uk (.mk 5 Oct.none [t] (L : Int) (-1)) x5) ∨ (2048 < placesOf (up (.mk 5 Oct.none [t] (L : Int) (-1))) ∧ c5 = 48)) := HZ3.out.imp (fun h => ⟨h.1, h.2.1, h.2.2.later kk⟩) id
  clear HZ3; have HZ3 : Hid ((placesOf (up (.mk 5 Oct.none [t] (L : Int) (-1))) ≤ 2048 ∧ c5 = 0 ∧ NodeAt (fun _ => True) uk (.mk 5 Oct.none [t] (L : Int) (-1)) x5) ∨ (2048 < placesOf (up (.mk 5 Oct.none [t] (L : Int) (-1))) ∧ c5 = 48)) := HZ32.out; clear HZ32
  have HNA242 : Hid (NB uk A24 x5) := HNA24.out.later kk
  clear HNA24; have HNA24 : Hid (NB uk A24 x5) := HNA242.out; clear HNA242
  clear kk
  have HO : Hid (∀ v, Below uk.heap.size uk v → Calls Try.prog 18 #[x5.val, .int .i64 c5, Nd.val ⟨5, Oct.none, some ⟨G3, 0, none⟩, 1, 1, (L : Int), -1⟩] v fun r w' => r = .returned (.bool true) ∧ Below v.heap.size v w') := fun v hv => one_any (N := 1025) (HWA19.out) HG3.out (by decide) (by decide) c5 HZ3.out v hv
  simp only [Nd.val, word0] at HO
  have hcw := HNA19.out.cells
  simp only [word0] at hcw
  obtain ⟨d0, d1, d2, d3, d4, d5, d6, d7⟩ := hcw
  obtain ⟨c0, c1, c2, c3, c4, c5, c6, c7⟩ := HNA24.out.cells
  go_wp2_with fail
  refine (HO.out _ (Below.refl _ _)).mono ?_
  rintro e ul ⟨rfl, kk⟩
  clear c0 c1 c2 c3 c4 c5 c6 c7 d0 d1 d2 d3 d4 d5 d6 d7
  clear HO
  have HB2 : Hid (Below w.heap.size w ul) := below_step HB.out kk
  clear HB; have HB : Hid (Below w.heap.size w ul) := HB2.out; clear HB2
  have HNx2 : Hid (NB ul A3 x) := HNx.out.later kk
  clear HNx; have HNx : Hid (NB ul A3 x) := HNx2.out; clear HNx2
  have HNy2 : Hid (NB ul A5 y) := HNy.out.later kk
  clear HNy; have HNy : Hid (NB ul A5 y) := HNy2.out; clear HNy2
  have HX2 : Hid (NodeAt (fun _ => True) ul t x) := HX.out.later kk
  clear HX; have HX : Hid (NodeAt (fun _ => True) ul t x) := HX2.out; clear HX2
  have HY2 : Hid (NodeAt (fun _ => True) ul u y) := HY.out.later kk
  clear HY; have HY : Hid (NodeAt (fun _ => True) ul u y) := HY2.out; clear HY2
  have HNA172 : Hid (NB ul A17 ⟨4, Oct.none, some ⟨G1, 0, none⟩, 2, 2, 0, 0⟩) := HNA17.out.later kk
  clear HNA17; have HNA17 : Hid (NB ul A17 ⟨4, Oct.none, some ⟨G1, 0, none⟩, 2, 2, 0, 0⟩) := HNA172.out; clear HNA172
  have HWA172 : Hid (NodeAt (fun _ => True) ul (.mk 4 Oct.none [t, u] 0 0) ⟨4, Oct.none, some ⟨G1, 0, none⟩, 2, 2, 0, 0⟩) := HWA17.out.later kk
  clear HWA17; have HWA17 : Hid (NodeAt (fun _ => True) ul (.mk 4 Oct.none [t, u] 0 0) ⟨4, Oct.none, some ⟨G1, 0, none⟩, 2, 2, 0, 0⟩) := HWA172.out; clear HWA172
  have HNA182 : Hid (NB ul A18 ⟨3, Oct.none, some ⟨G2, 0, none⟩, 2, 2, 0, 0⟩) := HNA18.out.later kk
  clear HNA18; have HNA18 : Hid (NB ul A18 ⟨3, Oct.none, some ⟨G2, 0, none⟩, 2, 2, 0, 0⟩) := HNA182.out; clear HNA182
  have HWA182 : Hid (NodeAt (fun _ => True) ul (.mk 3 Oct.none [t, u] 0 0) ⟨3, Oct.none, some ⟨G2, 0, none⟩, 2, 2, 0, 0⟩) := HWA18.out.later kk
  clear HWA18; have HWA18 : Hid (NodeAt (fun _ => True) ul (.mk 3 Oct.none [t, u] 0 0) ⟨3, Oct.none, some ⟨G2, 0, none⟩, 2, 2, 0, 0⟩) := HWA182.out; clear HWA182
  have HNA192 : Hid (NB ul A19 ⟨5, Oct.none, some ⟨G3, 0, none⟩, 1, 1, (L : Int), -1⟩) := HNA19.out.later kk
  clear HNA19; have HNA19 : Hid (NB ul A19 ⟨5, Oct.none, some ⟨G3, 0, none⟩, 1, 1, (L : Int), -1⟩) := HNA192.out; clear HNA192
  have HWA192 : Hid (NodeAt (fun _ => True) ul (.mk 5 Oct.none [t] (L : Int) (-1)) ⟨5, Oct.none, some ⟨G3, 0, none⟩, 1, 1, (L : Int), -1⟩) := HWA19.out.later kk
  clear HWA19; have HWA19 : Hid (NodeAt (fun _ => True) ul (.mk 5 Oct.none [t] (L : Int) (-1)) ⟨5, Oct.none, some ⟨G3, 0, none⟩, 1, 1, (L : Int), -1⟩) := HWA192.out; clear HWA192
  have HZ12 : Hid ((placesOf (up (.mk 4 Oct.none [t, u] 0 0)) ≤ 2048 ∧ c3 = 0 ∧ NodeAt (fun _ => True) ul (.mk 4 Oct.none [t, u] 0 0) x3) ∨ (2048 < placesOf (up (.mk 4 Oct.none [t, u] 0 0)) ∧ c3 = 48)) := HZ1.out.imp (fun h => ⟨h.1, h.2.1, h.2.2.later kk⟩) id
  clear HZ1; have HZ1 : Hid ((placesOf (up (.mk 4 Oct.none [t, u] 0 0)) ≤ 2048 ∧ c3 = 0 ∧ NodeAt (fun _ => True) ul (.mk 4 Oct.none [t, u] 0 0) x3) ∨ (2048 < placesOf (up (.mk 4 Oct.none [t, u] 0 0)) ∧ c3 = 48)) := HZ12.out; clear HZ12
  have HNA202 : Hid (NB ul A20 x3) := HNA20.out.later kk
  clear HNA20; have HNA20 : Hid (NB ul A20 x3) := HNA202.out; clear HNA202
  have HZ22 : Hid ((placesOf (up (.mk 3 Oct.none [t, u] 0 0)) ≤ 2048 ∧ c4 = 0 ∧ NodeAt (fun _ => True) ul (.mk 3 Oct.none [t, u] 0 0) x4) ∨ (2048 < placesOf (up (.mk 3 Oct.none [t, u] 0 0)) ∧ c4 = 48)) := HZ2.out.imp (fun h => ⟨h.1, h.2.1, h.2.2.later kk⟩) id
  clear HZ2; have HZ2 : Hid ((placesOf (up (.mk 3 Oct.none [t, u] 0 0)) ≤ 2048 ∧ c4 = 0 ∧ NodeAt (fun _ => True) ul (.mk 3 Oct.none [t, u] 0 0) x4) ∨ (2048 < placesOf (up (.mk 3 Oct.none [t, u] 0 0)) ∧ c4 = 48)) := HZ22.out; clear HZ22
  have HNA222 : Hid (NB ul A22 x4) := HNA22.out.later kk
  clear HNA22; have HNA22 : Hid (NB ul A22 x4) := HNA222.out; clear HNA222
  have HZ32 : Hid ((placesOf (up (.mk 5 Oct.none [t] (L : Int) (-1))) ≤ 2048 ∧ c5 = 0 ∧ NodeAt (fun _ => True) ul (.mk 5 Oct.none [t] (L : Int) (-1)) x5) ∨ (2048 < placesOf (up (.mk 5 Oct.none [t] (L : Int) (-1))) ∧ c5 = 48)) := HZ3.out.imp (fun h => ⟨h.1, h.2.1, h.2.2.later kk⟩) id
  clear HZ3; have HZ3 : Hid ((placesOf (up (.mk 5 Oct.none [t] (L : Int) (-1))) ≤ 2048 ∧ c5 = 0 ∧ NodeAt (fun _ => True) ul (.mk 5 Oct.none [t] (L : Int) (-1)) x5) ∨ (2048 < placesOf (up (.mk 5 Oct.none [t] (L : Int) (-1))) ∧ c5 = 48)) := HZ32.out; clear HZ32
  have HNA242 : Hid (NB ul A24 x5) := HNA24.out.later kk
  clear HNA24; have HNA24 : Hid (NB ul A24 x5) := HNA242.out; clear HNA242
  clear kk
  go_wp2
  go_ret
  exact ⟨rfl, HB.out⟩
end Go.Proofs.Ytlcnmfgmgiijpaa
