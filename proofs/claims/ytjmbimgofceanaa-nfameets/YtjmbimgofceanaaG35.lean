/- heronlaw07's known. -/
import Derived.Test.YtjmbimgofceanaaG33
import Derived.Test.YtjmbimgofceanaaG29
import Derived.Test.YtjmbimgofceanaaG10
import Derived.Test.YtjmbimgofceanaaG08
namespace Go.Proofs.Ytjmbimgofceanaa
open Go.RowKit
attribute [local go_sem ↓] Go.wp_at_zero Go.wp_at_succ

def xset : Oct.S := Oct.has [120]
def leafT : Tn := .mk 2 xset [] 0 0
def starT : Tn := .mk 5 Oct.none [leafT] 0 (-1)
def starM : Ma := ⟨4, [⟨1, 0, 1, Oct.none⟩, ⟨2, 1, 2, xset⟩, ⟨1, 2, 1, Oct.none⟩, ⟨1, 1, 3, Oct.none⟩], [0, 0, 0, 8]⟩
theorem xw0 : Oct.word xset 0 = 0 := by kernel_rfl
theorem xw1 : Oct.word xset 1 = 72057594037927936 := by kernel_rfl
theorem xw2 : Oct.word xset 2 = 0 := by kernel_rfl
theorem xw3 : Oct.word xset 3 = 0 := by kernel_rfl
theorem star_plc : (plc starT).2 = true := by kernel_rfl
theorem star_places : placesOf starT = 4 := by kernel_rfl
theorem leaf_places : placesOf leafT = 2 := by kernel_rfl
theorem star_lay : lay starT ⟨1, []⟩ 0 = (⟨4, starM.es⟩, 3) := by
  unfold starT
  rw [lay_mk]
  simp only [show ¬ ((5 : Int) = 2 ∨ (5 : Int) = 6 ∨ (5 : Int) = 7) by decide, show ¬ (5 : Int) = 3 by decide, show ¬ (5 : Int) = 4 by decide, if_false, if_true, hd, leaf_places]
  unfold timesOf
  simp only [show ¬ (2 : Nat) = 1 by decide, if_false, if_true, Int.toNat_zero, rounds]
  unfold again leafT
  simp only [lay_mk]
  simp [Mk.st, Mk.fr, Mk.ed, starM]
theorem star_build : buildOf starT 3 = (starM, 0) := by
  unfold buildOf
  rw [if_neg (by rw [star_plc]; decide), if_neg (by rw [star_places]; decide), if_neg (by decide)]
  unfold mach
  rw [star_lay]
  rfl
theorem star_union : (unionOf [starM, starM]).2 = 0 ∧ (unionOf [starM, starM]).1.S = 9 ∧ (unionOf [starM, starM]).1.es.length = 10 ∧ rightOf (unionOf [starM, starM]).1 = true := by
  refine ⟨?_, ?_, ?_, ?_⟩ <;> kernel_rfl
theorem star_bounds : (unions [starM, starM] ⟨1, [], [0]⟩).es.length ≤ 10000000 ∧ (unions [starM, starM] ⟨1, [], [0]⟩).rs.length ≤ 10000000 := by
  have h1 : (unions [starM, starM] ⟨1, [], [0]⟩).es.length = 10 := by kernel_rfl
  have h2 : (unions [starM, starM] ⟨1, [], [0]⟩).rs.length = 9 := by kernel_rfl
  omega
theorem one_right : rightOf ⟨1, [], []⟩ = false := by kernel_rfl
set_option maxRecDepth 4000 in
set_option maxHeartbeats 4000000 in
theorem byteSet_any (w : World) : Calls Try.prog 25 #[.int .u8 120] w fun e w' => e = .returned (Nd.val ⟨2, xset, none, 0, 0, 0, 0⟩) ∧ Below w.heap.size w w' := by
  go_enter Try.func25, Try.ntmps25
  go_wp2
  refine post_node Try.f25 2 (by kernel_rfl) (x := ⟨2, xset, none, 0, 0, 0, 0⟩) (R := w.heap.size) rfl rfl ?_ ⟨rfl, ((Below.refl _ _).alloc (Nat.le_refl _) _).alloc (by simp) _⟩
  unfold NB
  simp only [xw0, xw1, xw2, xw3]
  rw [heap_alloc_old _ _ (by simp)]
  exact heap_alloc_new w _
theorem num_any (k : Nat) (w : World) : Calls Try.prog 10 #[.int .i64 (k : Nat)] w fun e w' => e = .returned (.int .i64 (k : Nat)) ∧ w' = w := by
  go_enter Try.func10, Try.ntmps10
  go_wp2
  go_ret
  exact ⟨rfl, rfl⟩
theorem star_in (w1 : World) : InAt ((w1.alloc (.cells #[.int .i64 2, .int .u64 (Oct.word xset 0 : Nat), .int .u64 (Oct.word xset 1 : Nat), .int .u64 (Oct.word xset 2 : Nat), .int .u64 (Oct.word xset 3 : Nat), .slice none 0 0, .int .i64 0, .int .i64 0] 30)).alloc (.cells #[.int .i64 5, .int .u64 0, .int .u64 0, .int .u64 0, .int .u64 0, .slice (some ⟨w1.heap.size, 0, none⟩) 1 1, .int .i64 0, .int .i64 (-1)] 30)) starT ⟨5, Oct.none, some ⟨w1.heap.size, 0, none⟩, 1, 1, 0, -1⟩ := by
  have hk : Below (w1.alloc (.cells #[.int .i64 2, .int .u64 (Oct.word xset 0 : Nat), .int .u64 (Oct.word xset 1 : Nat), .int .u64 (Oct.word xset 2 : Nat), .int .u64 (Oct.word xset 3 : Nat), .slice none 0 0, .int .i64 0, .int .i64 0] 30)).heap.size (w1.alloc (.cells #[.int .i64 2, .int .u64 (Oct.word xset 0 : Nat), .int .u64 (Oct.word xset 1 : Nat), .int .u64 (Oct.word xset 2 : Nat), .int .u64 (Oct.word xset 3 : Nat), .slice none 0 0, .int .i64 0, .int .i64 0] 30)) ((w1.alloc (.cells #[.int .i64 2, .int .u64 (Oct.word xset 0 : Nat), .int .u64 (Oct.word xset 1 : Nat), .int .u64 (Oct.word xset 2 : Nat), .int .u64 (Oct.word xset 3 : Nat), .slice none 0 0, .int .i64 0, .int .i64 0] 30)).alloc (.cells #[.int .i64 5, .int .u64 0, .int .u64 0, .int .u64 0, .int .u64 0, .slice (some ⟨w1.heap.size, 0, none⟩) 1 1, .int .i64 0, .int .i64 (-1)] 30)) := (Below.refl _ _).alloc (Nat.le_refl _) _
  have hg : ((w1.alloc (.cells #[.int .i64 2, .int .u64 (Oct.word xset 0 : Nat), .int .u64 (Oct.word xset 1 : Nat), .int .u64 (Oct.word xset 2 : Nat), .int .u64 (Oct.word xset 3 : Nat), .slice none 0 0, .int .i64 0, .int .i64 0] 30)).alloc (.cells #[.int .i64 5, .int .u64 0, .int .u64 0, .int .u64 0, .int .u64 0, .slice (some ⟨w1.heap.size, 0, none⟩) 1 1, .int .i64 0, .int .i64 (-1)] 30)).heap[w1.heap.size]? = some (.cells #[.int .i64 2, .int .u64 (Oct.word xset 0 : Nat), .int .u64 (Oct.word xset 1 : Nat), .int .u64 (Oct.word xset 2 : Nat), .int .u64 (Oct.word xset 3 : Nat), .slice none 0 0, .int .i64 0, .int .i64 0] 30 (0, 0)) := (hk.block _ (by simp)).trans (heap_alloc_new w1 _)
  refine .mk 5 Oct.none [leafT] 0 (-1) (some ⟨w1.heap.size, 0, none⟩) 1 1 [⟨2, xset, none, 0, 0, 0, 0⟩] rfl rfl (by decide) (Or.inr ⟨_, 0, rfl, trivial, fun j v hj => ?_⟩) (fun i t v ht hv => ?_)
  · simp only [World.cell?, hg, Nat.zero_add]
    rw [← Array.getElem?_toList]
    exact hj
  · cases i with
    | zero =>
      simp at ht hv
      subst ht hv
      exact .mk 2 xset [] 0 0 none 0 0 [] rfl rfl (by decide) (Or.inl rfl) (fun i t v h => by simp at h)
    | succ i => simp at ht
set_option maxRecDepth 4000 in
set_option maxHeartbeats 16000000 in
theorem known_any (hBd : BuildOK) (hUn : UnionOK) (hRt : RightOK) : KnownOK := by
  intro w
  go_enter Try.func7, Try.ntmps7
  go_wp2_with fail
  refine (byteSet_any w).mono ?_
  rintro e w1 ⟨rfl, kk⟩
  have HB1 : Hid (Below w.heap.size w w1) := kk
  clear kk
  have HIN : Hid (InAt ((w1.alloc (.cells #[.int .i64 2, .int .u64 (Oct.word xset 0 : Nat), .int .u64 (Oct.word xset 1 : Nat), .int .u64 (Oct.word xset 2 : Nat), .int .u64 (Oct.word xset 3 : Nat), .slice none 0 0, .int .i64 0, .int .i64 0] 30)).alloc (.cells #[.int .i64 5, .int .u64 0, .int .u64 0, .int .u64 0, .int .u64 0, .slice (some ⟨w1.heap.size, 0, none⟩) 1 1, .int .i64 0, .int .i64 (-1)] 30)) starT ⟨5, Oct.none, some ⟨w1.heap.size, 0, none⟩, 1, 1, 0, -1⟩) := star_in w1
  have HNB : Hid (NB ((w1.alloc (.cells #[.int .i64 2, .int .u64 (Oct.word xset 0 : Nat), .int .u64 (Oct.word xset 1 : Nat), .int .u64 (Oct.word xset 2 : Nat), .int .u64 (Oct.word xset 3 : Nat), .slice none 0 0, .int .i64 0, .int .i64 0] 30)).alloc (.cells #[.int .i64 5, .int .u64 0, .int .u64 0, .int .u64 0, .int .u64 0, .slice (some ⟨w1.heap.size, 0, none⟩) 1 1, .int .i64 0, .int .i64 (-1)] 30)) (w1.heap.size + 1) ⟨5, Oct.none, some ⟨w1.heap.size, 0, none⟩, 1, 1, 0, -1⟩) := by
    have h := heap_alloc_new (w1.alloc (.cells #[.int .i64 2, .int .u64 (Oct.word xset 0 : Nat), .int .u64 (Oct.word xset 1 : Nat), .int .u64 (Oct.word xset 2 : Nat), .int .u64 (Oct.word xset 3 : Nat), .slice none 0 0, .int .i64 0, .int .i64 0] 30)) (.cells #[.int .i64 5, .int .u64 0, .int .u64 0, .int .u64 0, .int .u64 0, .slice (some ⟨w1.heap.size, 0, none⟩) 1 1, .int .i64 0, .int .i64 (-1)] 30)
    rw [show (w1.alloc (.cells #[.int .i64 2, .int .u64 (Oct.word xset 0 : Nat), .int .u64 (Oct.word xset 1 : Nat), .int .u64 (Oct.word xset 2 : Nat), .int .u64 (Oct.word xset 3 : Nat), .slice none 0 0, .int .i64 0, .int .i64 0] 30)).heap.size = w1.heap.size + 1 by simp] at h
    unfold NB
    simp only [word0]
    exact h
  have HB3 : Hid (Below w.heap.size w ((w1.alloc (.cells #[.int .i64 2, .int .u64 (Oct.word xset 0 : Nat), .int .u64 (Oct.word xset 1 : Nat), .int .u64 (Oct.word xset 2 : Nat), .int .u64 (Oct.word xset 3 : Nat), .slice none 0 0, .int .i64 0, .int .i64 0] 30)).alloc (.cells #[.int .i64 5, .int .u64 0, .int .u64 0, .int .u64 0, .int .u64 0, .slice (some ⟨w1.heap.size, 0, none⟩) 1 1, .int .i64 0, .int .i64 (-1)] 30))) := below_step HB1.out (((Below.refl _ _).alloc (Nat.le_refl _) _).alloc (by simp) _)
  unfold Nd.val
  simp only
  go_upto_region 2 with fail
  obtain ⟨w3, hw3⟩ : ∃ w3, (w1.alloc (.cells #[.int .i64 2, .int .u64 (Oct.word xset 0 : Nat), .int .u64 (Oct.word xset 1 : Nat), .int .u64 (Oct.word xset 2 : Nat), .int .u64 (Oct.word xset 3 : Nat), .slice none 0 0, .int .i64 0, .int .i64 0] 30)).alloc (.cells #[.int .i64 5, .int .u64 0, .int .u64 0, .int .u64 0, .int .u64 0, .slice (some ⟨w1.heap.size, 0, none⟩) 1 1, .int .i64 0, .int .i64 (-1)] 30) = w3 := ⟨_, rfl⟩
  obtain ⟨A3, hA3⟩ : ∃ A3, w1.heap.size + 1 = A3 := ⟨_, rfl⟩
  rw [hw3] at HIN HNB HB3 ⊢
  rw [hA3] at HNB ⊢
  clear hw3 hA3
  obtain ⟨y0, y1, y2, y3, y4, y5, y6, y7⟩ := HNB.out.cells
  simp only [word0] at y0 y1 y2 y3 y4 y5 y6 y7
  have HC : Hid (Calls Try.prog 11 #[Nd.val ⟨5, Oct.none, some ⟨w1.heap.size, 0, none⟩, 1, 1, 0, -1⟩, .int .i64 3] w3 _) := hBd starT ⟨5, Oct.none, some ⟨w1.heap.size, 0, none⟩, 1, 1, 0, -1⟩ w3 3 HIN.out
  unfold Nd.val at HC
  simp only [word0] at HC
  go_wp2_with fail
  refine HC.out.mono ?_
  rintro e w4 ⟨kk, p, rfl, hp⟩
  rw [star_build] at hp
  rw [star_build]
  simp only at hp ⊢
  have HB4 : Hid (Below w.heap.size w w4) := below_step HB3.out kk
  have HP4 : Hid (MaAt (fun _ => True) w4 starM p) := hp.keep (fun _ _ _ => trivial) (fun _ _ _ => rfl)
  clear kk hp HC HIN HNB HB3 y0 y1 y2 y3 y4 y5 y6 y7
  obtain ⟨pS, pa, pn, pc, pra, prn, prc⟩ := p
  have e1 : pS = 4 := HP4.out.s
  have e2 : pn = 4 := HP4.out.n
  have e3 : prn = 4 := HP4.out.r
  subst e1 e2 e3
  obtain ⟨b, off, ha, p0, p1, p2, p3, p4, p5, p6⟩ := HP4.out.e.nth (i := 0) (e := ⟨1, 0, 1, Oct.none⟩) rfl
  obtain ⟨b', off', ha', s0, s1, s2, s3, s4, s5, s6⟩ := HP4.out.e.nth (i := 2) (e := ⟨1, 2, 1, Oct.none⟩) rfl
  obtain ⟨b2, off2, ha2, u3⟩ := HP4.out.u.nth (i := 3) (x := 8) rfl
  simp only at ha ha' ha2
  subst ha
  cases ha'
  subst ha2
  simp only [word0, Nat.zero_mul, Nat.add_zero] at p0 p1 p2 p3 p4 p5 p6
  simp only [word0] at s0 s1 s2 s3 s4 s5 s6
  have HCE : Hid (∀ u : World, Below w4.heap.size w4 u → (u.cell? ⟨b, off, none⟩ = some (.int .i64 1) ∧ u.cell? ⟨b, off + 1, none⟩ = some (.int .i64 0) ∧ u.cell? ⟨b, off + 2, none⟩ = some (.int .i64 1) ∧ u.cell? ⟨b, off + 3, none⟩ = some (.int .u64 0) ∧ u.cell? ⟨b, off + 4, none⟩ = some (.int .u64 0) ∧ u.cell? ⟨b, off + 5, none⟩ = some (.int .u64 0) ∧ u.cell? ⟨b, off + 6, none⟩ = some (.int .u64 0)) ∧ (u.cell? ⟨b, off + 14, none⟩ = some (.int .i64 1) ∧ u.cell? ⟨b, off + 14 + 1, none⟩ = some (.int .i64 2) ∧ u.cell? ⟨b, off + 14 + 2, none⟩ = some (.int .i64 1) ∧ u.cell? ⟨b, off + 14 + 3, none⟩ = some (.int .u64 0) ∧ u.cell? ⟨b, off + 14 + 4, none⟩ = some (.int .u64 0) ∧ u.cell? ⟨b, off + 14 + 5, none⟩ = some (.int .u64 0) ∧ u.cell? ⟨b, off + 14 + 6, none⟩ = some (.int .u64 0)) ∧ u.cell? ⟨b2, off2 + 3, none⟩ = some (.int .u32 8)) := fun u hu => by
    have hb := hu.block b (lt_of_cell p0)
    have hb2 := hu.block b2 (lt_of_cell u3)
    have g1 : ∀ (j : Nat) (v : Value), w4.cell? ⟨b, j, none⟩ = some v → u.cell? ⟨b, j, none⟩ = some v := fun j v h => (World.cell?_of_block (a := ⟨b, j, none⟩) hb).trans h
    exact ⟨⟨g1 _ _ p0, g1 _ _ p1, g1 _ _ p2, g1 _ _ p3, g1 _ _ p4, g1 _ _ p5, g1 _ _ p6⟩, ⟨g1 _ _ s0, g1 _ _ s1, g1 _ _ s2, g1 _ _ s3, g1 _ _ s4, g1 _ _ s5, g1 _ _ s6⟩, (World.cell?_of_block (a := ⟨b2, off2 + 3, none⟩) hb2).trans u3⟩
  clear p0 p1 p2 p3 p4 p5 p6 s0 s1 s2 s3 s4 s5 s6 u3
  have kk : Below w4.heap.size w4 (w4.alloc (.cells #[.int .i64 4, .slice (some ⟨b, off, none⟩) 4 pc, .slice (some ⟨b2, off2, none⟩) 4 prc] 38)) := (Below.refl _ _).alloc (Nat.le_refl _) _
  have HB5 : Hid (Below w.heap.size w (w4.alloc (.cells #[.int .i64 4, .slice (some ⟨b, off, none⟩) 4 pc, .slice (some ⟨b2, off2, none⟩) 4 prc] 38))) := below_step HB4.out kk
  have HN5 : Hid (NFB (w4.alloc (.cells #[.int .i64 4, .slice (some ⟨b, off, none⟩) 4 pc, .slice (some ⟨b2, off2, none⟩) 4 prc] 38)) w4.heap.size ⟨4, some ⟨b, off, none⟩, 4, pc, some ⟨b2, off2, none⟩, 4, prc⟩) := nfb_new w4 ⟨4, some ⟨b, off, none⟩, 4, pc, some ⟨b2, off2, none⟩, 4, prc⟩
  have HP5 : Hid (MaAt (fun _ => True) (w4.alloc (.cells #[.int .i64 4, .slice (some ⟨b, off, none⟩) 4 pc, .slice (some ⟨b2, off2, none⟩) 4 prc] 38)) starM ⟨4, some ⟨b, off, none⟩, 4, pc, some ⟨b2, off2, none⟩, 4, prc⟩) := HP4.out.later kk
  have HD5 : Hid (Below w4.heap.size w4 (w4.alloc (.cells #[.int .i64 4, .slice (some ⟨b, off, none⟩) 4 pc, .slice (some ⟨b2, off2, none⟩) 4 prc] 38))) := kk
  unfold Nf.val
  simp only
  go_upto_region 3 with fail
  obtain ⟨w5, hw5⟩ : ∃ w5, w4.alloc (.cells #[.int .i64 4, .slice (some ⟨b, off, none⟩) 4 pc, .slice (some ⟨b2, off2, none⟩) 4 prc] 38) = w5 := ⟨_, rfl⟩
  obtain ⟨A5, hA5⟩ : ∃ A5, w4.heap.size = A5 := ⟨_, rfl⟩
  rw [hw5] at HB5 HN5 HP5 HD5 ⊢
  rw [hA5] at HN5 ⊢
  clear hw5 hA5 kk
  obtain ⟨z0, z1, z2⟩ := HN5.out.cells
  simp only at z0 z1 z2
  have kk : Below w5.heap.size w5 (w5.alloc (.cells #[.int .i64 4, .slice (some ⟨b, off, none⟩) 4 pc, .slice (some ⟨b2, off2, none⟩) 4 prc, .int .i64 4, .slice (some ⟨b, off, none⟩) 4 pc, .slice (some ⟨b2, off2, none⟩) 4 prc] 38)) := (Below.refl _ _).alloc (Nat.le_refl _) _
  have HL6 : Hid (ListAt (w5.alloc (.cells #[.int .i64 4, .slice (some ⟨b, off, none⟩) 4 pc, .slice (some ⟨b2, off2, none⟩) 4 prc, .int .i64 4, .slice (some ⟨b, off, none⟩) 4 pc, .slice (some ⟨b2, off2, none⟩) 4 prc] 38)) (some ⟨w5.heap.size, 0, none⟩) [starM, starM] [⟨4, some ⟨b, off, none⟩, 4, pc, some ⟨b2, off2, none⟩, 4, prc⟩, ⟨4, some ⟨b, off, none⟩, 4, pc, some ⟨b2, off2, none⟩, 4, prc⟩]) := by
    refine ⟨Or.inr ⟨w5.heap.size, 0, rfl, fun j v hj => ?_⟩, rfl, fun i M x hM hx => ?_⟩
    · simp only [World.cell?, heap_alloc_new, Nat.zero_add]
      rw [← Array.getElem?_toList]
      exact hj
    · have h5 := HP5.out.later kk
      match i with
      | 0 => simp at hM hx; subst hM hx; exact h5
      | 1 => simp at hM hx; subst hM hx; exact h5
      | i + 2 => simp at hM
  have HC : Hid (Calls Try.prog 21 #[.slice (some ⟨w5.heap.size, 0, none⟩) 2 2] (w5.alloc (.cells #[.int .i64 4, .slice (some ⟨b, off, none⟩) 4 pc, .slice (some ⟨b2, off2, none⟩) 4 prc, .int .i64 4, .slice (some ⟨b, off, none⟩) 4 pc, .slice (some ⟨b2, off2, none⟩) 4 prc] 38)) _) := hUn [starM, starM] [⟨4, some ⟨b, off, none⟩, 4, pc, some ⟨b2, off2, none⟩, 4, prc⟩, ⟨4, some ⟨b, off, none⟩, 4, pc, some ⟨b2, off2, none⟩, 4, prc⟩] (some ⟨w5.heap.size, 0, none⟩) 2 (w5.alloc (.cells #[.int .i64 4, .slice (some ⟨b, off, none⟩) 4 pc, .slice (some ⟨b2, off2, none⟩) 4 prc, .int .i64 4, .slice (some ⟨b, off, none⟩) 4 pc, .slice (some ⟨b2, off2, none⟩) 4 prc] 38)) HL6.out (by decide) (by decide) (by decide) star_bounds.1 star_bounds.2
  go_wp2_with fail
  refine HC.out.mono ?_
  rintro e w7 ⟨k7, q, rfl, hq⟩
  obtain ⟨su1, su2, su3, su4⟩ := star_union
  rw [su1]
  have HB7 : Hid (Below w.heap.size w w7) := below_step (below_step HB5.out kk) k7
  have HD7 : Hid (Below w4.heap.size w4 w7) := below_step (below_step HD5.out kk) k7
  have HN7 : Hid (NFB w7 A5 ⟨4, some ⟨b, off, none⟩, 4, pc, some ⟨b2, off2, none⟩, 4, prc⟩) := (HN5.out.later kk).later k7
  have HQ7 : Hid (MaAt (fun _ => True) w7 (unionOf [starM, starM]).1 q) := hq.keep (fun _ _ _ => trivial) (fun _ _ _ => rfl)
  have HRU : Hid (rightOf (unionOf [starM, starM]).1 = true) := su4
  clear kk k7 hq HC HL6 HB5 HN5 HP5 HP4 HB4 HB1 z0 z1 z2 HD5
  obtain ⟨qS, qa, qn, qc, qra, qrn, qrc⟩ := q
  have e1 : qS = 9 := HQ7.out.s.trans su2
  have e2 : qn = 10 := HQ7.out.n.trans su3
  subst e1 e2
  have HUL : Hid ((unionOf [starM, starM]).1.es.length ≤ 10000000 ∧ (unionOf [starM, starM]).1.rs.length ≤ 10000000) := union_bounds star_bounds.1 star_bounds.2
  clear su1 su2 su3 su4
  have kk : Below w7.heap.size w7 (w7.alloc (.cells #[.int .i64 9, .slice qa 10 qc, .slice qra qrn qrc] 38)) := (Below.refl _ _).alloc (Nat.le_refl _) _
  have HB8 : Hid (Below w.heap.size w (w7.alloc (.cells #[.int .i64 9, .slice qa 10 qc, .slice qra qrn qrc] 38))) := below_step HB7.out kk
  have HD8 : Hid (Below w4.heap.size w4 (w7.alloc (.cells #[.int .i64 9, .slice qa 10 qc, .slice qra qrn qrc] 38))) := below_step HD7.out kk
  have HN8 : Hid (NFB (w7.alloc (.cells #[.int .i64 9, .slice qa 10 qc, .slice qra qrn qrc] 38)) A5 ⟨4, some ⟨b, off, none⟩, 4, pc, some ⟨b2, off2, none⟩, 4, prc⟩) := HN7.out.later kk
  have HM8 : Hid (NFB (w7.alloc (.cells #[.int .i64 9, .slice qa 10 qc, .slice qra qrn qrc] 38)) w7.heap.size ⟨9, qa, 10, qc, qra, qrn, qrc⟩) := nfb_new w7 ⟨9, qa, 10, qc, qra, qrn, qrc⟩
  have HQ8 : Hid (MaAt (fun _ => True) (w7.alloc (.cells #[.int .i64 9, .slice qa 10 qc, .slice qra qrn qrc] 38)) (unionOf [starM, starM]).1 ⟨9, qa, 10, qc, qra, qrn, qrc⟩) := HQ7.out.later kk
  unfold Nf.val
  simp only
  go_upto_region 4 with fail
  obtain ⟨w8, hw8⟩ : ∃ w8, w7.alloc (.cells #[.int .i64 9, .slice qa 10 qc, .slice qra qrn qrc] 38) = w8 := ⟨_, rfl⟩
  obtain ⟨A8, hA8⟩ : ∃ A8, w7.heap.size = A8 := ⟨_, rfl⟩
  rw [hw8] at HB8 HD8 HN8 HM8 HQ8 ⊢
  rw [hA8] at HM8 ⊢
  clear hw8 hA8 kk HB7 HD7 HN7 HQ7
  obtain ⟨z0, z1, z2⟩ := HN8.out.cells
  obtain ⟨t0, t1, t2⟩ := HM8.out.cells
  simp only at z0 z1 z2 t0 t1 t2
  obtain ⟨_, _, u3⟩ := HCE.out w8 HD8.out
  have HNUM : Hid (Calls Try.prog 10 #[.int .i64 0] w8 fun e w' => e = .returned (.int .i64 0) ∧ w' = w8) := num_any 0 w8
  go_wp2_with fail
  refine HNUM.out.mono ?_
  rintro e w9 ⟨rfl, rfl⟩
  go_wp2_with fail
  refine HNUM.out.mono ?_
  rintro e w10 ⟨rfl, rfl⟩
  have HC : Hid (Calls Try.prog 12 #[Nf.val ⟨9, qa, 10, qc, qra, qrn, qrc⟩] _ _) := hRt (unionOf [starM, starM]).1 ⟨9, qa, 10, qc, qra, qrn, qrc⟩ _ HQ8.out HUL.out.1 HUL.out.2
  rw [HRU.out] at HC
  unfold Nf.val at HC
  simp only at HC
  go_wp2_with fail
  refine HC.out.mono ?_
  rintro e w11 ⟨rfl, kk⟩
  have HB11 : Hid (Below w.heap.size w w11) := below_step HB8.out kk
  have HD11 : Hid (Below w4.heap.size w4 w11) := below_step HD8.out kk
  have HN11 : Hid (NFB w11 A5 ⟨4, some ⟨b, off, none⟩, 4, pc, some ⟨b2, off2, none⟩, 4, prc⟩) := HN8.out.later kk
  clear kk HC z0 z1 z2 t0 t1 t2 u3 HNUM
  obtain ⟨z0, z1, z2⟩ := HN11.out.cells
  simp only at z0 z1 z2
  obtain ⟨⟨p0, p1, p2, p3, p4, p5, p6⟩, ⟨s0, s1, s2, s3, s4, s5, s6⟩, _⟩ := HCE.out w11 HD11.out
  have hq4 : (Op.equalIn 9999 27 (.agg #[.int .u64 0, .int .u64 0, .int .u64 0, .int .u64 0]) (.agg #[.int .u64 0, .int .u64 0, .int .u64 0, .int .u64 0])).run Try.prog w11 = .ok true w11 := eq4_any 9997 0 0 0 0 w11
  have HC : Hid (Calls Try.prog 12 #[Nf.val ⟨1, none, 0, 0, none, 0, 0⟩] w11 _) := hRt ⟨1, [], []⟩ ⟨1, none, 0, 0, none, 0, 0⟩ w11 ⟨rfl, rfl, rfl, Or.inl rfl, Or.inl rfl⟩ (by decide) (by decide)
  rw [one_right] at HC
  unfold Nf.val at HC
  simp only at HC
  go_wp2_with fail
  refine HC.out.mono ?_
  rintro e w12 ⟨rfl, kk⟩
  have HB12 : Hid (Below w.heap.size w w12) := below_step HB11.out kk
  clear kk HC
  go_wp2
  go_ret
  exact ⟨rfl, HB12.out⟩
end Go.Proofs.Ytjmbimgofceanaa

/- A drawn region of two kinds of operations: some only read, at any time; the others turn the memory, one behind the other. -/
namespace Go.Proofs.Ytjmbimgofceanaa
open Go Go.RowKit

section
variable {P : Program} {ops : Array Oper} {Q : Exit → Act → World → Prop}
/-- each operation behind n waits for the one ahead of it -/
def linked (ops : Array Oper) (n : Nat) : Bool := (List.range ops.size).all fun j => decide (j ≤ n) || match ops[j]? with
  | some o => o.after.any fun e => e.on == j - 1 && Region.binds .any e
  | none => false
theorem linked_at {n j : Nat} {o : Oper} (h : linked ops n = true) (ho : ops[j]? = some o) (hj : n < j) : ∃ e ∈ o.after, e.on = j - 1 ∧ Region.binds .any e = true := by
  have h1 := List.all_eq_true.1 h j (List.mem_range.2 (Array.getElem?_eq_some_iff.1 ho).1)
  rw [Bool.or_eq_true] at h1
  rcases h1 with h1 | h1
  · have := of_decide_eq_true h1; omega
  · rw [ho] at h1
    have h3 : (o.after.any fun e => e.on == j - 1 && Region.binds .any e) = true := h1
    rw [Array.any_eq_true'] at h3
    obtain ⟨x, hx, h4⟩ := h3
    rw [Bool.and_eq_true] at h4
    exact ⟨x, hx, eq_of_beq h4.1, h4.2⟩
/-- it reads, and writes its slot -/
def Got (r : Value → Prop) (o : Oper) (a : Act) (w : World) : Act → World → Prop := fun a' w' => ∃ v, a' = a.put o.dst v ∧ w' = w ∧ r v
theorem wp_region_chain {id : Nat} {a : Act} {w0 : World} (hm : P.follows .mixedOrders = true) (n m : Nat) (hn : ops.size = m) (hnm : n ≤ m) (D : Nat → Nat) (R : Nat → Value → Prop) (S : Nat → Act → World → Prop)
    (hput : ∀ k a w i v, i < n → S k a w → S k (a.put (some (D i)) v) w)
    (hsz : ∀ k a w i, i < n → S k a w → D i < a.tmps.size)
    (hinj : ∀ i j, i < n → j < n → D i = D j → i = j)
    (hlink : linked ops n = true)
    (hduty : AllFrom (fun i o => o.guard = none ∧ (∀ e ∈ o.after, e.on < i) ∧
        (i < n → o.dst = some (D i) ∧ ∀ k a w, S k a w → (∀ e ∈ o.after, Region.binds .any e = true → R e.on (T a (D e.on))) → ∀ Q, o.wp P a w (Got (R i) o a w) Q) ∧
        (n ≤ i → ∀ a w, S i a w → (∀ e ∈ o.after, e.on < n → Region.binds .any e = true → R e.on (T a (D e.on))) → o.wp P a w (fun a' w' => S (i + 1) a' w' ∧ ∀ j, j < n → T a' (D j) = T a (D j)) Q)) 0 ops.toList)
    (hend : ∀ a w, S m a w → (∀ i, i < n → R i (T a (D i))) → Q .normal a w)
    (h0 : S n a w0.drew) : (Code.region id ops true).wp P Q a w0 := by
  have hd := fun i o (ho : ops[i]? = some o) => by
    have := allFrom_at hduty i o (by simpa using ho)
    rw [Nat.zero_add] at this
    exact this
  refine wp_region_inv hm (fun L a w => ∃ k, n ≤ k ∧ k ≤ m ∧ (∀ j, n ≤ j → j < m → (L j = true ↔ j < k)) ∧ S k a w ∧ ∀ i, i < n → L i = true → R i (T a (D i))) ?wf ?step ?fin ?zero
  case wf =>
    intro i o e ho he _
    exact (hd i o ho).2.1 e he
  case zero =>
    intro L hL
    refine ⟨n, Nat.le_refl _, hnm, fun j h1 h2 => ?_, h0, fun i hi h => ?_⟩
    · rw [hL j (by omega)]
      constructor
      · intro h; cases h
      · intro h; omega
    · rw [hL i (by omega)] at h; cases h
  case fin =>
    rintro L a w hL ⟨k, h1, h2, h3, hS, hR⟩
    have hk : k = m := by
      by_cases e : k = m
      · exact e
      · have := (h3 k h1 (by omega)).1 (hL k (by omega))
        omega
    subst hk
    exact hend a w hS (fun i hi => hR i hi (hL i (by omega)))
  case step =>
    intro i o ho
    have hi := (Array.getElem?_eq_some_iff.1 ho).1
    obtain ⟨hg, hlt, hp, hc⟩ := hd i o ho
    refine ⟨hg, ?_⟩
    rintro L a w ⟨k, h1, h2, h3, hS, hR⟩ hLi hE
    by_cases hl : i < n
    · obtain ⟨hdst, hst⟩ := hp hl
      refine Oper.wp_mono ?_ (hst k a w hS (fun e he hb => hR e.on (by have := hlt e he; omega) (hE e he hb)) Q)
      rintro a' w' ⟨v, rfl, rfl, hr⟩
      rw [hdst]
      refine ⟨k, h1, h2, fun j hj hj2 => ?_, hput k a w' i v hl hS, fun j hj hmj => ?_⟩
      · rw [← h3 j hj hj2]
        unfold more
        rw [if_neg (by omega)]
      · by_cases hji : j = i
        · subst hji
          unfold T
          rw [put_same (hsz k a w' j hl hS)]
          exact hr
        · unfold T
          rw [put_other (fun e => hji (hinj i j hl hj e).symm)]
          unfold more at hmj
          rw [if_neg hji] at hmj
          exact hR j hj hmj
    · have hki : k = i := by
        have ha : ¬ i < k := fun h => by rw [(h3 i (by omega) (by omega)).2 h] at hLi; cases hLi
        by_cases e : i = n
        · omega
        · obtain ⟨x, hx, hx1, hx2⟩ := linked_at hlink ho (by omega)
          have := (h3 (i - 1) (by omega) (by omega)).1 (by rw [← hx1]; exact hE x hx hx2)
          omega
      subst hki
      refine Oper.wp_mono ?_ (hc (by omega) a w hS (fun e he hlt hb => hR e.on hlt (hE e he hb)))
      rintro a' w' ⟨hS', hT'⟩
      refine ⟨k + 1, by omega, by omega, fun j hj hj2 => ?_, hS', fun j hj hmj => ?_⟩
      · unfold more
        by_cases hjk : j = k
        · rw [if_pos hjk]
          constructor
          · intro _; omega
          · intro _; rfl
        · rw [if_neg hjk, h3 j hj hj2]
          omega
      · unfold more at hmj
        rw [if_neg (by omega)] at hmj
        rw [hT' j hj]
        exact hR j hj hmj
variable {o : Oper} {a : Act} {w w' : World} {r : Value → Prop}
theorem og_value {v : Value} (h : (execOp a.eval o).run P w = .ok (.value v) w) (hR : r v) : o.wp P a w (Got r o a w) Q := by
  unfold Oper.wp
  rw [h]
  exact ⟨v, rfl, rfl, hR⟩
/-- a call of the chain by its contract -/
theorem oc_enter {K : Act → World → Prop} {f : FuncId} {args : Array Value} (h : (execOp a.eval o).run P w = .ok (.enter f args) w) (hc : Calls P f args w fun e w' => ∃ v, e = .returned v ∧ K (a.put o.dst v) w') : o.wp P a w K Q := by
  unfold Oper.wp
  rw [h]
  refine hc.mono ?_
  rintro e w' ⟨v, rfl, hR⟩
  exact hR
theorem oc_value {K : Act → World → Prop} {v : Value} (h : (execOp a.eval o).run P w = .ok (.value v) w') (hR : K (a.put o.dst v) w') : o.wp P a w K Q := by
  unfold Oper.wp
  rw [h]
  exact hR
attribute [local go_sem] Oper.semAt_some
theorem og_move {p : Nat} {v : Value} (ho : o.op = .move (.tmp p)) (hx : T a p = v) (hr : r v) : o.wp Try.prog a w (Got r o a w) Q := by
  obtain ⟨dst, op, type, pos, after, guard⟩ := o
  simp only at ho
  subst ho
  refine og_value (v := v) ?_ hr
  simp [execOp, Act.eval, hx, go_sem]
theorem og_nil {p : Nat} {ad : Addr} (ho : o.op = .nilCheck (.tmp p)) (hx : T a p = .pointer (some ad)) (hr : r (.pointer (some ad))) : o.wp Try.prog a w (Got r o a w) Q := by
  obtain ⟨dst, op, type, pos, after, guard⟩ := o
  simp only at ho
  subst ho
  refine og_value (v := .pointer (some ad)) ?_ hr
  simp [execOp, Act.eval, hx, go_sem]
theorem og_load3 {p : Nat} {ad : Addr} {v : Int} (ho : o.op = .load 3 (.tmp p)) (hx : T a p = .pointer (some ad)) (hc : w.cell? ad = some (.int .i64 v)) (hr : r (.int .i64 v)) : o.wp Try.prog a w (Got r o a w) Q := by
  obtain ⟨dst, op, type, pos, after, guard⟩ := o
  simp only at ho
  subst ho
  refine og_value (v := .int .i64 v) ?_ hr
  simp [execOp, Act.eval, hx, go_sem, hc]
set_option maxRecDepth 20000 in
theorem og_node {p A : Nat} {x : Nd} (ho : o.op = .load 30 (.tmp p)) (hx : T a p = .pointer (some ⟨A, 0, none⟩)) (hc : NB w A x) (hr : r x.val) : o.wp Try.prog a w (Got r o a w) Q := by
  obtain ⟨dst, op, type, pos, after, guard⟩ := o
  simp only at ho
  subst ho
  obtain ⟨c0, c1, c2, c3, c4, c5, c6, c7⟩ := hc.cells
  refine og_value (v := x.val) ?_ hr
  unfold Nd.val
  simp [execOp, Act.eval, hx, go_sem, c0, c1, c2, c3, c4, c5, c6, c7]
theorem oc_assign {K : Act → World → Prop} {p : Nat} {v : Value} (ho : o.op = .assign (.tmp p)) (hx : T a p = v) (hr : K (a.put o.dst v) w) : o.wp Try.prog a w K Q := by
  obtain ⟨dst, op, type, pos, after, guard⟩ := o
  simp only at ho
  subst ho
  refine oc_value (v := v) (w' := w) ?_ hr
  simp [execOp, Act.eval, hx, go_sem]
end
end Go.Proofs.Ytjmbimgofceanaa
