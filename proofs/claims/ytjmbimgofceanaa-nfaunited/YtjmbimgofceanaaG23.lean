/- heronlaw07's reach. -/
import Derived.Test.YtjmbimgofceanaaG22
import Derived.Deep.AppendSrc
namespace Go.Proofs.Ytjmbimgofceanaa
open Go.RowKit
attribute [local go_sem ↓] Go.wp_at_zero Go.wp_at_succ

def isF : Value → Bool
  | .bool false => true
  | _ => false
def tv : Value → Nat
  | .bool true => 1
  | _ => 0
def cfw (u : World) (g n : Nat) : Nat := match u.heap[g]? with
  | some (.cells cur _ _) => (cur.toList.take n).countP isF
  | _ => 0
theorem countP_bls (bs : List Bool) : (bls bs).countP isF = bs.count false := by
  induction bs with
  | nil => rfl
  | cons x r ih =>
    simp only [bls, List.map_cons, List.countP_cons, List.count_cons] at ih ⊢
    rw [ih]
    cases x <;> simp [isF]
theorem RowB.cf {w : World} {base g n c : Nat} {bs : List Bool} (h : RowB w base (.slice (some ⟨g, 0, none⟩) n c) bs) : cfw w g n = bs.count false := by
  have hn := h.lt.2.1
  rcases h.2 with ⟨hv, _⟩ | ⟨g', cap, cur, hv, hbg, hg, h1, h2, h3, h4⟩
  · cases hv
  · cases hv
    unfold cfw
    rw [hg]
    simp only
    rw [← countP_bls, ← h4, Nat.mul_one]
/-- THE STATE of reach. -/
structure Rc (w : World) (A g base n c : Nat) (x : Nf) (u : World) (cur : List Bool) : Prop where
  nf : NFB u A x
  row : RowB u base (.slice (some ⟨g, 0, none⟩) n c) cur
  fr : w.grownBy u (some g)
  ne : A ≠ g
section
variable {w : World} {A g base n c : Nat} {x : Nf} {u u' : World} {cur : List Bool}
theorem Rc.later (h : Rc w A g base n c x u cur) (hb : Below u.heap.size u u') : Rc w A g base n c x u' cur :=
  ⟨h.nf.later hb, h.row.same (hb.block g h.row.lt.1), ⟨hb.os.trans h.fr.os, hb.tape.trans h.fr.tape, hb.output.trans h.fr.output, Nat.le_trans h.fr.size hb.size, fun k hk hne => (hb.block k (Nat.lt_of_lt_of_le hk h.fr.size)).trans (h.fr.block k hk hne)⟩, h.ne⟩
theorem Rc.put (h : Rc w A g base n c x u cur) (i : Nat) (v : Bool) : Rc w A g base n c x (u.setCell ⟨g, i, none⟩ (.bool v)) (cur.set i v) :=
  ⟨(Below.heap_setCell u ⟨g, i, none⟩ _ A h.ne).trans h.nf, h.row.put i v, ⟨h.fr.os, h.fr.tape, h.fr.output, by simpa [World.setCell] using h.fr.size, fun k hk hne => (Below.heap_setCell u ⟨g, i, none⟩ _ k (fun e => hne (by rw [e]))).trans (h.fr.block k hk hne)⟩, h.ne⟩
end
theorem closed_snoc {es : List Eg} {b e : Bool} {l : List Bool} {k : Nat} {y : Eg} (h : Closed (es.take k) b e l) (hy : es[k]? = some y) (hm : moves b e y = true → at_ l y.f = true → at_ l y.t = true) : Closed (es.take (k + 1)) b e l := by
  intro z hz
  rw [List.take_add_one, hy] at hz
  rcases List.mem_append.1 hz with hz | hz
  · exact h z hz
  · simp at hz
    subst hz
    exact hm
set_option maxRecDepth 4000 in
set_option maxHeartbeats 32000000 in
theorem reach_any {M : Ma} {x : Nf} {g n c base : Nat} {bs : List Bool} (w : World) (hM : MaAt (fun b => b ≠ g) w M x) (hE : M.es.length ≤ 10000000) (hR : ∀ y ∈ M.es, 0 ≤ y.f ∧ y.f < n ∧ 0 ≤ y.t ∧ y.t < n) (hB : RowB w base (.slice (some ⟨g, 0, none⟩) n c) bs) (b e : Bool) :
    Calls Try.prog 36 #[x.val, (.slice (some ⟨g, 0, none⟩) n c), .bool b, .bool e] w fun r w' => r = .returned (.tuple #[]) ∧ w.grownBy w' (some g) ∧ ∃ ms, Clo M.es b e bs ms ∧ RowB w' base (.slice (some ⟨g, 0, none⟩) n c) ms := by
  have kk : Below w.heap.size w (w.alloc (.cells #[.int .i64 x.S, .slice x.ea x.en x.ec, .slice x.ra x.rn x.rc] 38)) := (Below.refl _ _).alloc (Nat.le_refl _) _
  have HRC : Hid (Rc w w.heap.size g base n c x (w.alloc (.cells #[.int .i64 x.S, .slice x.ea x.en x.ec, .slice x.ra x.rn x.rc] 38)) bs) := ⟨nfb_new w x, hB.same (kk.block g hB.lt.1), ⟨kk.os, kk.tape, kk.output, kk.size, fun k hk _ => kk.block k hk⟩, by have := hB.lt.1; omega⟩
  obtain ⟨w1, hw1⟩ : ∃ w1, w.alloc (.cells #[.int .i64 x.S, .slice x.ea x.en x.ec, .slice x.ra x.rn x.rc] 38) = w1 := ⟨_, rfl⟩
  obtain ⟨A, hA⟩ : ∃ A, w.heap.size = A := ⟨_, rfl⟩
  rw [hw1] at HRC
  rw [hA] at HRC
  have HW1 : Hid (w.alloc (.cells #[.int .i64 x.S, .slice x.ea x.en x.ec, .slice x.ra x.rn x.rc] 38) = w1) := hw1
  have HAA : Hid (w.heap.size = A) := hA
  have HMA : Hid (MaAt (fun b => b ≠ g) w M x) := hM
  have HRG : Hid (∀ y ∈ M.es, 0 ≤ y.f ∧ y.f < n ∧ 0 ≤ y.t ∧ y.t < n) := hR
  have HBN : Hid (bs.length = n) := hB.lt.2.1.symm
  clear hw1 hA kk hM hR hB
  obtain ⟨xS, xa, en, xc, xra, xrn, xrc⟩ := x
  have e3 : en = M.es.length := HMA.out.n
  have HEN : Hid (M.es.length = en) := e3.symm
  rw [← e3] at hE
  clear e3
  unfold Nf.val
  simp only at HW1 ⊢
  go_enter Try.func36, Try.ntmps36
  go_upto_region 1 with fail
  rw [HW1.out, HAA.out]
  clear HW1
  go_wp2_with fail
  go_loopw [8] (fun mv u => ∃ (cur : List Bool) (more : Bool), mv = .bool more ∧ Hid (Rc w A g base n c ⟨xS, xa, en, xc, xra, xrn, xrc⟩ u cur) ∧ Hid (Sub bs cur) ∧ Hid (∀ k, Sub bs k → Closed M.es b e k → Sub cur k) ∧ Hid (more = false → Closed M.es b e cur)) (fun mv u => 2 * cfw u g n + tv mv)
  case atStart => exact ⟨bs, true, rfl, HRC, Sub.refl _, fun _ h _ => h, fun h => by cases h⟩
  case round =>
    clear HRC
    obtain ⟨cur0, more0, rfl, HRc0, HSb0, HLs0, HCl0⟩ := hrel
    cases more0 with
    | false =>
      have HF : Hid (w.grownBy wr (some g) ∧ ∃ ms, Clo M.es b e bs ms ∧ RowB wr base (.slice (some ⟨g, 0, none⟩) n c) ms) := ⟨HRc0.out.fr, cur0, ⟨HSb0.out, HCl0.out rfl, HLs0.out⟩, HRc0.out.row⟩
      go_wp2
      go_end0
      exact ⟨rfl, HF.out⟩
    | true =>
      have HM0 : Hid (cfw wr g n = cur0.count false) := HRc0.out.row.cf
      obtain ⟨x0, x1, x2⟩ := HRc0.out.nf.cells
      simp only at x0 x1 x2
      obtain ⟨v0, hv0⟩ : ∃ v0 : World, v0 = wr := ⟨_, rfl⟩
      subst hv0
      go_wp2_with fail
      clear x0 x1 x2
      go_loopw [8, 16] (fun mv i u => ∃ (k : Nat) (cur : List Bool) (more : Bool), mv = .bool more ∧ i = .int .i64 (k : Nat) ∧ k ≤ en ∧ Hid (Rc w A g base n c ⟨xS, xa, en, xc, xra, xrn, xrc⟩ u cur) ∧ Hid (Sub bs cur) ∧ Hid (∀ k, Sub bs k → Closed M.es b e k → Sub cur k) ∧ Hid (more = false → cur = cur0 ∧ Closed (M.es.take k) b e cur) ∧ Hid (more = true → cur.count false < cur0.count false)) (fun _ i _ => en - (intOf i).toNat)
      case atStart => exact ⟨0, cur0, false, rfl, rfl, Nat.zero_le _, HRc0, HSb0, HLs0, fun _ => ⟨rfl, fun z hz => by simp at hz⟩, fun h => by cases h⟩
      case round =>
        clear HRc0 HSb0 HLs0
        obtain ⟨k, cur, more, rfl, rfl, hkn, HRc, HSb, HLs, HCl, HCt⟩ := hrel
        by_cases hlt : k < en
        · have hlt' : (k : Int) < (en : Int) := by omega
          obtain ⟨y, hy⟩ : ∃ y, M.es[k]? = some y := ⟨_, List.getElem?_eq_getElem (by rw [HEN.out]; exact hlt)⟩
          obtain ⟨hf0, hf1, ht0, ht1⟩ := HRG.out y (List.mem_of_getElem? hy)
          have HE2 := HMA.out.e
          obtain ⟨b', off, rfl, p0, p1, p2, p3, p4, p5, p6⟩ := (HE2.keep (w' := wr) (Y := fun _ => True) (fun _ _ _ => trivial) (fun k hX hk => HRc.out.fr.block k hk (fun e => hX (Option.some.inj e)))).nth hy
          have HYY : Hid (M.es[k]? = some y) := hy
          clear hy HE2
          have kk : Below wr.heap.size wr (wr.alloc (.cells #[.int .i64 y.k, .int .i64 y.f, .int .i64 y.t, .int .u64 (Oct.word y.s 0 : Nat), .int .u64 (Oct.word y.s 1 : Nat), .int .u64 (Oct.word y.s 2 : Nat), .int .u64 (Oct.word y.s 3 : Nat)] 57)) := (Below.refl _ _).alloc (Nat.le_refl _) _
          have HR1 : Hid (Rc w A g base n c ⟨xS, some ⟨b', off, none⟩, en, xc, xra, xrn, xrc⟩ (wr.alloc (.cells #[.int .i64 y.k, .int .i64 y.f, .int .i64 y.t, .int .u64 (Oct.word y.s 0 : Nat), .int .u64 (Oct.word y.s 1 : Nat), .int .u64 (Oct.word y.s 2 : Nat), .int .u64 (Oct.word y.s 3 : Nat)] 57)) cur) := HRc.out.later kk
          have HG4 : Hid ((wr.alloc (.cells #[.int .i64 y.k, .int .i64 y.f, .int .i64 y.t, .int .u64 (Oct.word y.s 0 : Nat), .int .u64 (Oct.word y.s 1 : Nat), .int .u64 (Oct.word y.s 2 : Nat), .int .u64 (Oct.word y.s 3 : Nat)] 57)).heap[wr.heap.size]? = some (.cells #[.int .i64 y.k, .int .i64 y.f, .int .i64 y.t, .int .u64 (Oct.word y.s 0 : Nat), .int .u64 (Oct.word y.s 1 : Nat), .int .u64 (Oct.word y.s 2 : Nat), .int .u64 (Oct.word y.s 3 : Nat)] 57 (0, 0))) := heap_alloc_new wr _
          clear kk
          go_upto_region 7 with fail
          obtain ⟨w4, hw4⟩ : ∃ w4, wr.alloc (.cells #[.int .i64 y.k, .int .i64 y.f, .int .i64 y.t, .int .u64 (Oct.word y.s 0 : Nat), .int .u64 (Oct.word y.s 1 : Nat), .int .u64 (Oct.word y.s 2 : Nat), .int .u64 (Oct.word y.s 3 : Nat)] 57) = w4 := ⟨_, rfl⟩
          obtain ⟨G, hG⟩ : ∃ G, wr.heap.size = G := ⟨_, rfl⟩
          rw [hw4] at HR1 HG4 ⊢
          rw [hG] at HG4 ⊢
          clear hw4 hG p0 p1 p2 p3 p4 p5 p6 HRc
          have g0 : w4.cell? ⟨G, 0, none⟩ = some (.int .i64 y.k) := by simp [World.cell?, HG4.out]
          have g1 : w4.cell? ⟨G, 1, none⟩ = some (.int .i64 y.f) := by simp [World.cell?, HG4.out]
          have g2 : w4.cell? ⟨G, 2, none⟩ = some (.int .i64 y.t) := by simp [World.cell?, HG4.out]
          obtain ⟨fv, hfv⟩ : ∃ fv, moves b e y = fv := ⟨_, rfl⟩
          have HFV : Hid (moves b e y = fv) := hfv
          clear hfv
          go_cut [11] (fun v wx => v = .bool fv ∧ wx = w4)
          case first =>
            by_cases h1 : y.k = 1
            · have h1a : (y.k == 1) = true := by simp [h1]
              go_wp2_with fail
              go_meet
              case rel => exact ⟨by rw [← HFV.out]; unfold moves; simp [h1], rfl⟩
            have h1a : (y.k == 1) = false := by simp [h1]
            by_cases h3 : y.k = 3
            · have h3a : (y.k == 3) = true := by simp [h3]
              have h4a : (y.k == 4) = false := by simp [h3]
              cases b with
              | false =>
                go_wp2_with fail
                go_meet
                case rel => exact ⟨by rw [← HFV.out]; unfold moves; simp [h3], rfl⟩
              | true =>
                go_wp2_with fail
                go_meet
                case rel => exact ⟨by rw [← HFV.out]; unfold moves; simp [h3], rfl⟩
            have h3a : (y.k == 3) = false := by simp [h3]
            by_cases h4 : y.k = 4
            · have h4a : (y.k == 4) = true := by simp [h4]
              cases e with
              | false =>
                go_wp2_with fail
                go_meet
                case rel => exact ⟨by rw [← HFV.out]; unfold moves; simp [h4], rfl⟩
              | true =>
                go_wp2_with fail
                go_meet
                case rel => exact ⟨by rw [← HFV.out]; unfold moves; simp [h4], rfl⟩
            have h4a : (y.k == 4) = false := by simp [h4]
            go_wp2_with fail
            go_meet
            case rel => exact ⟨by rw [← HFV.out]; unfold moves; simp [h1, h3, h4], rfl⟩
          case rest =>
          obtain ⟨rfl, hwc⟩ := hcut
          subst hwc
          have HLC : Hid (cur.length = n) := HSb.out.1.symm.trans HBN.out
          obtain ⟨F, hF⟩ : ∃ F : Nat, y.f = (F : Nat) := ⟨y.f.toNat, by omega⟩
          obtain ⟨T, hT⟩ : ∃ T : Nat, y.t = (T : Nat) := ⟨y.t.toNat, by omega⟩
          have HFT : Hid (y.f = (F : Nat) ∧ y.t = (T : Nat)) := ⟨hF, hT⟩
          rw [hF] at g1 hf0 hf1
          rw [hT] at g2 ht0 ht1
          clear hF hT
          obtain ⟨p, hp⟩ : ∃ p, cur[F]? = some p := ⟨_, List.getElem?_eq_getElem (by rw [HLC.out]; omega)⟩
          obtain ⟨q, hq⟩ : ∃ q, cur[T]? = some q := ⟨_, List.getElem?_eq_getElem (by rw [HLC.out]; omega)⟩
          have HPQ : Hid (cur[F]? = some p ∧ cur[T]? = some q) := ⟨hp, hq⟩
          obtain ⟨c1, _⟩ := HR1.out.row.cell hp
          obtain ⟨c2, f2⟩ := HR1.out.row.cell hq
          have HAF : Hid (at_ cur y.f = p ∧ at_ cur y.t = q) := by
            unfold at_
            rw [HFT.out.1, HFT.out.2, Int.toNat_natCast, Int.toNat_natCast, hp, hq]
            exact ⟨rfl, rfl⟩
          clear hp hq
          cases fv with
          | false =>
            have HCn : Hid (more = false → cur = cur0 ∧ Closed (M.es.take (k + 1)) b e cur) := fun h => ⟨(HCl.out h).1, closed_snoc (HCl.out h).2 HYY.out (fun h2 => by rw [HFV.out] at h2; cases h2)⟩
            go_wp2_with fail
            go_roundw
            case rel => exact ⟨k + 1, cur, more, rfl, by go_num, by omega, HR1, HSb, HLs, HCn, HCt⟩
            case measure => simp [intOf]; omega
          | true =>
          cases p with
          | false =>
            have HCn : Hid (more = false → cur = cur0 ∧ Closed (M.es.take (k + 1)) b e cur) := fun h => ⟨(HCl.out h).1, closed_snoc (HCl.out h).2 HYY.out (fun _ h2 => by rw [HAF.out.1] at h2; cases h2)⟩
            go_wp2_with fail
            go_roundw
            case rel => exact ⟨k + 1, cur, more, rfl, by go_num, by omega, HR1, HSb, HLs, HCn, HCt⟩
            case measure => simp [intOf]; omega
          | true =>
          cases q with
          | true =>
            have HCn : Hid (more = false → cur = cur0 ∧ Closed (M.es.take (k + 1)) b e cur) := fun h => ⟨(HCl.out h).1, closed_snoc (HCl.out h).2 HYY.out (fun _ _ => HAF.out.2)⟩
            go_wp2_with fail
            go_roundw
            case rel => exact ⟨k + 1, cur, more, rfl, by go_num, by omega, HR1, HSb, HLs, HCn, HCt⟩
            case measure => simp [intOf]; omega
          | false =>
            have HR2 : Hid (Rc w A g base n c ⟨xS, some ⟨b', off, none⟩, en, xc, xra, xrn, xrc⟩ (wc.setCell ⟨g, T, none⟩ (.bool true)) (cur.set T true)) := HR1.out.put T true
            have HS2 : Hid (Sub bs (cur.set T true)) := HSb.out.trans (sub_set cur T)
            have HL2 : Hid (∀ k, Sub bs k → Closed M.es b e k → Sub (cur.set T true) k) := fun k' h1 h2 => by
              have h3 := HLs.out k' h1 h2
              refine set_sub h3 ?_
              have h4 : at_ k' y.f = true := by
                unfold at_
                rw [HFT.out.1, Int.toNat_natCast]
                exact h3.2 F (by rw [HPQ.out.1]; rfl)
              have h5 := h2 y (List.mem_of_getElem? HYY.out) HFV.out h4
              unfold at_ at h5
              rw [HFT.out.2, Int.toNat_natCast] at h5
              exact h5
            have HT2 : Hid (true = true → (cur.set T true).count false < cur0.count false) := fun _ => by
              have h1 := count_set HPQ.out.2
              cases more with
              | false => have h2 := (HCl.out rfl).1; rw [h2] at h1 ⊢; omega
              | true => have h2 := HCt.out rfl; omega
            go_wp2_with fail
            go_roundw
            case rel => exact ⟨k + 1, cur.set T true, true, rfl, by go_num, by omega, HR2, HS2, HL2, (fun h => by cases h), HT2⟩
            case measure => simp [intOf]; omega
        · have hlt' : ¬ (k : Int) < (en : Int) := by omega
          have HC2 : Hid (more = false → Closed M.es b e cur) := fun h => by
            have h2 := (HCl.out h).2
            rw [List.take_of_length_le (by rw [HEN.out]; omega)] at h2
            exact h2
          have HM1 : Hid (cfw wr g n = cur.count false) := HRc.out.row.cf
          have HM2 : Hid (2 * cur.count false + tv (.bool more) < 2 * cur0.count false + 1) := by
            show _ < _
            cases more with
            | false => rw [(HCl.out rfl).1]; simp [tv]
            | true => have := HCt.out rfl; simp [tv]; omega
          go_wp2_with fail
          go_roundw
          case rel => exact ⟨cur, more, rfl, HRc, HSb, HLs, HC2⟩
          case measure => rw [HM0.out, HM1.out]; exact HM2.out
end Go.Proofs.Ytjmbimgofceanaa

/- A machine's walk through a line, plain. -/
namespace Go.Proofs.Ytjmbimgofceanaa
open Go.RowKit

def orFrom : Nat → List Bool → List Nat → Nat
  | r, b :: bs, x :: xs => orFrom (if b then r ||| x else r) bs xs
  | r, _, _ => r
theorem orFrom_step {bs : List Bool} {xs : List Nat} {i : Nat} {b : Bool} {x : Nat} (hb : bs[i]? = some b) (hx : xs[i]? = some x) (r : Nat) : orFrom r (bs.drop i) (xs.drop i) = orFrom (if b then r ||| x else r) (bs.drop (i + 1)) (xs.drop (i + 1)) := by
  rw [List.drop_eq_getElem_cons (List.getElem?_eq_some_iff.1 hb).1, (List.getElem?_eq_some_iff.1 hb).2, List.drop_eq_getElem_cons (List.getElem?_eq_some_iff.1 hx).1, (List.getElem?_eq_some_iff.1 hx).2, orFrom]
theorem orFrom_end {bs : List Bool} {xs : List Nat} {i : Nat} (hb : bs.length ≤ i) (r : Nat) : orFrom r (bs.drop i) (xs.drop i) = r := by
  rw [List.drop_of_length_le hb, orFrom]
  intros; simp_all
/-- an edge that takes a byte -/
def takesB (b : Nat) (cl : List Bool) (y : Eg) : Bool := decide (y.k = 2) && at_ cl y.f && y.s b
def nexts (b : Nat) (cl : List Bool) : List Eg → List Bool → List Bool
  | [], nx => nx
  | y :: es, nx => nexts b cl es (if takesB b cl y then nx.set y.t.toNat true else nx)
theorem nexts_step {b : Nat} {cl : List Bool} {es : List Eg} {i : Nat} {y : Eg} (h : es[i]? = some y) (nx : List Bool) : nexts b cl (es.drop i) nx = nexts b cl (es.drop (i + 1)) (if takesB b cl y then nx.set y.t.toNat true else nx) := by
  rw [List.drop_eq_getElem_cons (List.getElem?_eq_some_iff.1 h).1, (List.getElem?_eq_some_iff.1 h).2, nexts]
/-- A LINE's WALK: from a place on, with these states and rules, to these rules. -/
inductive Walks (M : Ma) (S : Nat) (line : ByteArray) : Nat → List Bool → Nat → Nat → Prop
  | last (i : Nat) (cur cl : List Bool) (r : Nat) : i = line.size → Clo M.es (decide (i = 0)) true (cur.set 0 true) cl → Walks M S line i cur r (orFrom r cl M.rs)
  | step (i : Nat) (cur cl : List Bool) (r R : Nat) : i < line.size → Clo M.es (decide (i = 0)) false (cur.set 0 true) cl → Walks M S line (i + 1) (nexts (byt line i) cl M.es (List.replicate S false)) (orFrom r cl M.rs) R → Walks M S line i cur r R
theorem madeCells_bool (n : Nat) : (madeCells (Value.bool false).cells (n * 1)).toList = bls (List.replicate n false) := by
  apply List.ext_getElem?
  intro k
  simp [madeCells, bls, Value.cells]
  by_cases hk : k < n
  · simp [hk, Nat.mod_one]
  · simp [hk]
theorem wpList_make_bool {w : World} {ops : Array Oper} {rest : List Oper} {o : Oper} {a : Act} {Q : Exit → Act → World → Prop} (hgd : o.guard = none) (l c : Operand)
    (ho : o.op = Op.makeSlice 73 l c) (base n : Nat) (hb : base ≤ w.heap.size) (hl : a.eval l = .int .i64 (n : Nat)) (hc : a.eval c = .int .i64 (n : Nat)) (hn : n ≤ 10000000)
    (h : ∀ w', RowB w' base (.slice (some ⟨w.heap.size, 0, none⟩) n n) (List.replicate n false) → Below w.heap.size w w' → wpList Try.prog ops Q rest (a.put o.dst (.slice (some ⟨w.heap.size, 0, none⟩) n n)) w') : wpList Try.prog ops Q (o :: rest) a w := by
  obtain ⟨i0, hi, hz0, hz1, hz2⟩ := info_parts infoB
  refine wpList_make_full (P := Try.prog) w hgd l c 73 ho base 4 i0 (.bool false) 1 Try.underlying73 hi hz0 hz1 .i64 .i64 (n : Nat) (n : Nat) n hl hc rfl rfl (by rw [hz2]; omega) (by simp only [maxLen]; omega) hb ?_
  intro w' h1 h2
  rw [madeCells_bool] at h1
  exact h w' (by unfold RowB; rw [List.length_replicate]; exact h1) ((Below.refl _ _).grown h2 (Nat.le_refl _) (fun k hk => by cases hk))
theorem or_lt32 {a b : Nat} (ha : a < 4294967296) (hb : b < 4294967296) : a ||| b < 4294967296 := Nat.or_lt_two_pow (n := 32) ha hb
end Go.Proofs.Ytjmbimgofceanaa

/- One machine more in a union: its walk, plain. -/
namespace Go.Proofs.Ytjmbimgofceanaa

def InR (es : List Eg) (n : Nat) : Prop := ∀ y ∈ es, 0 ≤ y.f ∧ y.f < (n : Nat) ∧ 0 ≤ y.t ∧ y.t < (n : Nat)
theorem Sub.antisymm {l m : List Bool} (h : Sub l m) (h2 : Sub m l) : l = m := by
  apply List.ext_getElem?
  intro i
  have hl := h.1
  by_cases hi : i < l.length
  · have h1 := h.2 i
    have h3 := h2.2 i
    rw [List.getElem?_eq_getElem hi, List.getElem?_eq_getElem (hl ▸ hi)] at h1 h3 ⊢
    simp only [Option.getD_some] at h1 h3
    cases h4 : l[i] <;> cases h5 : m[i]'(hl ▸ hi) <;> simp_all
  · rw [List.getElem?_eq_none (by omega), List.getElem?_eq_none (by omega)]
theorem Clo.unique {es : List Eg} {b e : Bool} {l m k : List Bool} (h : Clo es b e l m) (h2 : Clo es b e l k) : m = k := (h.least k h2.sub h2.closed).antisymm (h2.least m h.sub h.closed)
theorem Walks.unique {M : Ma} {S : Nat} {line : ByteArray} {i : Nat} {cur : List Bool} {r R R' : Nat} (h : Walks M S line i cur r R) : Walks M S line i cur r R' → R = R' := by
  induction h with
  | last i cur cl r hi hc =>
    intro h2
    cases h2 with
    | last _ _ cl' _ hi' hc' => rw [hc.unique hc']
    | step _ _ cl' _ _ hi' hc' hw => omega
  | step i cur cl r R hi hc hw ih =>
    intro h2
    cases h2 with
    | last _ _ cl' _ hi' hc' => omega
    | step _ _ cl' _ _ hi' hc' hw' =>
      have e := hc.unique hc'
      subst e
      exact ih hw'
theorem orFrom_or : ∀ (bs : List Bool) (xs : List Nat) (r : Nat), orFrom r bs xs = r ||| orFrom 0 bs xs
  | [], xs, r => by simp [orFrom]
  | b :: bs, [], r => by simp [orFrom]
  | b :: bs, x :: xs, r => by
    rw [orFrom, orFrom, orFrom_or bs xs (if b = true then r ||| x else r), orFrom_or bs xs (if b = true then 0 ||| x else 0)]
    cases b
    · simp
    · simp [Nat.or_assoc]
theorem orFrom_append : ∀ (bs cs : List Bool) (xs ys : List Nat) (r : Nat), bs.length = xs.length → orFrom r (bs ++ cs) (xs ++ ys) = orFrom (orFrom r bs xs) cs ys
  | [], cs, [], ys, r, _ => by simp [orFrom]
  | b :: bs, cs, x :: xs, ys, r, h => by
    simp only [List.cons_append]
    rw [orFrom, orFrom, orFrom_append bs cs xs ys _ (by simpa using h)]
theorem or_mix (a b c d : Nat) : a ||| b ||| c ||| d = (a ||| c) ||| (b ||| d) := by
  rw [Nat.or_assoc, Nat.or_assoc, Nat.or_assoc, ← Nat.or_assoc b c d, Nat.or_comm b c, Nat.or_assoc]
theorem at_left {a c : List Bool} {i : Int} (h0 : 0 ≤ i) (h : i < (a.length : Nat)) : at_ (a ++ c) i = at_ a i := by
  unfold at_
  rw [List.getElem?_append_left (by omega)]
theorem at_right {a c : List Bool} {i : Int} (h0 : 0 ≤ i) : at_ (a ++ c) (i + (a.length : Nat)) = at_ c i := by
  unfold at_
  rw [List.getElem?_append_right (by omega)]
  congr 2
  omega
theorem getD_left {a c : List Bool} {i : Nat} (h : i < a.length) : ((a ++ c)[i]?).getD false = (a[i]?).getD false := by rw [List.getElem?_append_left h]
theorem getD_right {a c : List Bool} {i : Nat} (h : a.length ≤ i) : ((a ++ c)[i]?).getD false = (c[i - a.length]?).getD false := by rw [List.getElem?_append_right h]
/-- a set of the longer machine, cut -/
theorem sub_append {a c K : List Bool} {L : List Bool} (hK : K.length = a.length) (h1 : Sub a K) (h2 : Sub c L) : Sub (a ++ c) (K ++ L) := by
  refine ⟨by rw [List.length_append, List.length_append, h1.1, h2.1], fun i hi => ?_⟩
  by_cases hlt : i < a.length
  · rw [getD_left hlt] at hi
    rw [getD_left (by omega)]
    exact h1.2 i hi
  · rw [getD_right (by omega)] at hi
    rw [getD_right (by omega), hK]
    exact h2.2 _ hi
theorem add_es {o M : Ma} {so : Nat} (ho : o.S = (so : Nat)) : (addM o M).es = o.es ++ [⟨1, 0, (so : Nat), Oct.none⟩] ++ M.es.map (shiftE (so : Nat)) := by
  unfold addM
  rw [ho]
theorem add_clo {o M : Ma} {so sm : Nat} (ho : o.S = (so : Nat)) (ho1 : 1 ≤ so) (hm1 : 1 ≤ sm) (hoE : InR o.es so) (hmE : InR M.es sm) {b e : Bool} {co cm clo clm : List Bool} (h1 : co.length = so) (h2 : cm.length = sm) (hc1 : Clo o.es b e (co.set 0 true) clo) (hc2 : Clo M.es b e (cm.set 0 true) clm) : Clo (addM o M).es b e ((co ++ cm).set 0 true) (clo ++ clm) := by
  have l1 : clo.length = so := by rw [← hc1.sub.1, List.length_set, h1]
  have l2 : clm.length = sm := by rw [← hc2.sub.1, List.length_set, h2]
  have hset : (co ++ cm).set 0 true = co.set 0 true ++ cm := by rw [List.set_append_left _ _ (by omega)]
  have z1 : at_ clo 0 = true := by
    have := hc1.sub.2 0 (by rw [List.getElem?_set_self (by omega)]; rfl)
    exact this
  have z2 : at_ clm 0 = true := by
    have := hc2.sub.2 0 (by rw [List.getElem?_set_self (by omega)]; rfl)
    exact this
  refine ⟨?_, ?_, ?_⟩
  · rw [hset]
    exact sub_append (by rw [List.length_set, l1, h1]) hc1.sub ((sub_set cm 0).trans hc2.sub)
  · rw [add_es ho]
    intro y hy hmv hf
    rcases List.mem_append.1 hy with hy | hy
    · rcases List.mem_append.1 hy with hy | hy
      · obtain ⟨q0, q1, q2, q3⟩ := hoE y hy
        rw [at_left q0 (by omega)] at hf
        rw [at_left q2 (by omega)]
        exact hc1.closed y hy hmv hf
      · simp at hy
        subst hy
        have : ((so : Nat) : Int) = 0 + ((clo.length : Nat) : Int) := by omega
        simp only
        rw [this, at_right (by omega)]
        exact z2
    · obtain ⟨z, hz, rfl⟩ := List.mem_map.1 hy
      obtain ⟨q0, q1, q2, q3⟩ := hmE z hz
      simp only [shiftE] at hf ⊢
      rw [← l1] at hf ⊢
      rw [at_right q0] at hf
      rw [at_right q2]
      exact hc2.closed z hz hmv hf
  · intro K hK hKc
    rw [hset] at hK
    have hKl : K.length = so + sm := by rw [← hK.1, List.length_append, List.length_set, h1, h2]
    obtain ⟨K1, K2, rfl, k1, k2⟩ : ∃ K1 K2, K = K1 ++ K2 ∧ K1.length = so ∧ K2.length = sm := ⟨K.take so, K.drop so, (List.take_append_drop so K).symm, by rw [List.length_take]; omega, by rw [List.length_drop]; omega⟩
    rw [add_es ho] at hKc
    have s1 : Sub (co.set 0 true) K1 := ⟨by rw [List.length_set, h1, k1], fun i hi => by
      by_cases hlt : i < so
      · have := hK.2 i (by rw [getD_left (by rw [List.length_set]; omega)]; exact hi)
        rw [getD_left (by omega)] at this
        exact this
      · rw [List.getElem?_eq_none (by rw [List.length_set]; omega)] at hi
        cases hi⟩
    have c1 : Closed o.es b e K1 := fun y hy hmv hf => by
      obtain ⟨q0, q1, q2, q3⟩ := hoE y hy
      have := hKc y (List.mem_append_left _ (List.mem_append_left _ hy)) hmv (by rw [at_left q0 (by omega)]; exact hf)
      rw [at_left q2 (by omega)] at this
      exact this
    have hz : at_ K2 0 = true := by
      have hk0 : at_ K1 0 = true := s1.2 0 (by rw [List.getElem?_set_self (by omega)]; rfl)
      have := hKc ⟨1, 0, (so : Nat), Oct.none⟩ (List.mem_append_left _ (List.mem_append_right _ (by simp))) (by unfold moves; simp) (by rw [at_left (Int.le_refl 0) (by omega)]; exact hk0)
      simp only at this
      rw [show ((so : Nat) : Int) = 0 + ((K1.length : Nat) : Int) by omega, at_right (by omega)] at this
      exact this
    have s2 : Sub (cm.set 0 true) K2 := by
      refine set_sub ⟨by rw [h2, k2], fun i hi => ?_⟩ hz
      have := hK.2 (so + i) (by rw [getD_right (by rw [List.length_set]; omega), List.length_set, h1, Nat.add_sub_cancel_left]; exact hi)
      rw [getD_right (by omega), k1, Nat.add_sub_cancel_left] at this
      exact this
    have c2 : Closed M.es b e K2 := fun y hy hmv hf => by
      obtain ⟨q0, q1, q2, q3⟩ := hmE y hy
      have := hKc (shiftE (so : Nat) y) (List.mem_append_right _ (List.mem_map_of_mem hy)) hmv (by simp only [shiftE]; rw [← k1, at_right q0]; exact hf)
      simp only [shiftE] at this
      rw [← k1, at_right q2] at this
      exact this
    exact sub_append (by omega) (hc1.least K1 s1 c1) (hc2.least K2 s2 c2)
theorem nexts_append (bb : Nat) (cl : List Bool) : ∀ (es fs : List Eg) (nx : List Bool), nexts bb cl (es ++ fs) nx = nexts bb cl fs (nexts bb cl es nx)
  | [], _, _ => rfl
  | y :: es, fs, nx => by rw [List.cons_append, nexts, nexts, nexts_append bb cl es fs]
theorem nexts_left {bb : Nat} {a c : List Bool} {so : Nat} (ha : a.length = so) : ∀ (es : List Eg), InR es so → ∀ (nx mx : List Bool), nx.length = so → nexts bb (a ++ c) es (nx ++ mx) = nexts bb a es nx ++ mx ∧ (nexts bb a es nx).length = so
  | [], _, nx, mx, hn => ⟨rfl, hn⟩
  | y :: es, h, nx, mx, hn => by
    obtain ⟨q0, q1, q2, q3⟩ := h y (by simp)
    have ih := nexts_left (bb := bb) (c := c) ha es (fun z hz => h z (by simp [hz]))
    have e : takesB bb (a ++ c) y = takesB bb a y := by unfold takesB; rw [at_left q0 (by omega)]
    rw [nexts, nexts, e]
    cases takesB bb a y with
    | false => exact ih nx mx hn
    | true =>
      have := ih (nx.set y.t.toNat true) mx (by simpa using hn)
      simp only [if_true]
      rw [List.set_append_left _ _ (by omega)]
      exact this
theorem nexts_right {bb : Nat} {a c : List Bool} {so sm : Nat} (ha : a.length = so) (hc : c.length = sm) : ∀ (es : List Eg), InR es sm → ∀ (nx mx : List Bool), nx.length = so → mx.length = sm → nexts bb (a ++ c) (es.map (shiftE (so : Nat))) (nx ++ mx) = nx ++ nexts bb c es mx ∧ (nexts bb c es mx).length = sm
  | [], _, nx, mx, hn, hm => ⟨rfl, hm⟩
  | y :: es, h, nx, mx, hn, hm => by
    obtain ⟨q0, q1, q2, q3⟩ := h y (by simp)
    have ih := nexts_right (bb := bb) ha hc es (fun z hz => h z (by simp [hz]))
    have e : takesB bb (a ++ c) (shiftE (so : Nat) y) = takesB bb c y := by
      unfold takesB
      simp only [shiftE]
      rw [← ha, at_right q0]
      rfl
    rw [List.map_cons, nexts, nexts, e]
    cases takesB bb c y with
    | false => exact ih nx mx hn hm
    | true =>
      have := ih nx (mx.set y.t.toNat true) hn (by simpa using hm)
      simp only [if_true, shiftE]
      rw [show (y.t + ((so : Nat) : Int)).toNat = nx.length + y.t.toNat by omega, List.set_append_right _ _ (by omega), Nat.add_sub_cancel_left]
      exact this
theorem add_next {o M : Ma} {so sm : Nat} (ho : o.S = (so : Nat)) (hoE : InR o.es so) (hmE : InR M.es sm) {bb : Nat} {clo clm : List Bool} (l1 : clo.length = so) (l2 : clm.length = sm) :
    nexts bb (clo ++ clm) (addM o M).es (List.replicate (so + sm) false) = nexts bb clo o.es (List.replicate so false) ++ nexts bb clm M.es (List.replicate sm false) ∧ (nexts bb clo o.es (List.replicate so false)).length = so ∧ (nexts bb clm M.es (List.replicate sm false)).length = sm := by
  rw [add_es ho, nexts_append, nexts_append, ← List.replicate_append_replicate]
  obtain ⟨e1, e2⟩ := nexts_left (bb := bb) (c := clm) l1 o.es hoE (List.replicate so false) (List.replicate sm false) (by simp)
  rw [e1]
  have e3 : ∀ X, nexts bb (clo ++ clm) [⟨1, 0, (so : Nat), Oct.none⟩] X = X := fun X => by
    rw [nexts, nexts]
    simp [takesB]
  rw [e3]
  obtain ⟨e4, e5⟩ := nexts_right (bb := bb) l1 l2 M.es hmE (nexts bb clo o.es (List.replicate so false)) (List.replicate sm false) e2 (by simp)
  exact ⟨e4, e2, e5⟩
theorem add_walks {o M : Ma} {so sm : Nat} {line : ByteArray} (ho : o.S = (so : Nat)) (hor : o.rs.length = so) (ho1 : 1 ≤ so) (hm1 : 1 ≤ sm) (hoE : InR o.es so) (hmE : InR M.es sm) {i : Nat} {co : List Bool} {ro Ro : Nat} (h : Walks o so line i co ro Ro) : ∀ (cm : List Bool) (rm Rm : Nat), co.length = so → cm.length = sm → Walks M sm line i cm rm Rm → Walks (addM o M) (so + sm) line i (co ++ cm) (ro ||| rm) (Ro ||| Rm) := by
  have hors : ∀ (clo clm : List Bool) (ro rm : Nat), clo.length = so → orFrom (ro ||| rm) (clo ++ clm) (addM o M).rs = orFrom ro clo o.rs ||| orFrom rm clm M.rs := fun clo clm ro rm l1 => by
    show orFrom _ _ (o.rs ++ M.rs) = _
    rw [orFrom_append _ _ _ _ _ (by omega), orFrom_or clm, orFrom_or clo, orFrom_or clo o.rs ro, orFrom_or clm M.rs rm]
    exact or_mix _ _ _ _
  induction h with
  | last i co clo ro hi hc =>
    intro cm rm Rm h1 h2 hw
    have l1 : clo.length = so := by rw [← hc.sub.1, List.length_set, h1]
    cases hw with
    | last _ _ clm _ hi' hc' =>
      rw [← hors clo clm ro rm l1]
      exact .last i _ _ _ hi (add_clo ho ho1 hm1 hoE hmE h1 h2 hc hc')
    | step _ _ clm _ _ hi' hc' hw' => omega
  | step i co clo ro Ro hi hc hw ih =>
    intro cm rm Rm h1 h2 hw2
    have l1 : clo.length = so := by rw [← hc.sub.1, List.length_set, h1]
    cases hw2 with
    | last _ _ clm _ hi' hc' => omega
    | step _ _ clm _ _ hi' hc' hw' =>
      have l2 : clm.length = sm := by rw [← hc'.sub.1, List.length_set, h2]
      obtain ⟨e1, e2, e3⟩ := add_next (bb := byt line i) ho hoE hmE l1 l2
      refine .step i _ (clo ++ clm) _ _ hi (add_clo ho ho1 hm1 hoE hmE h1 h2 hc hc') ?_
      rw [hors clo clm ro rm l1, e1]
      exact ih _ _ _ e2 e3 hw'
end Go.Proofs.Ytjmbimgofceanaa

/- heronlaw07's copied: a machine anew, a mark behind each of its lists. -/
namespace Go.Proofs.Ytjmbimgofceanaa
open Go.RowKit
attribute [local go_sem ↓] Go.wp_at_zero Go.wp_at_succ

def markE : Eg := ⟨77, 0, 0, Oct.none⟩
theorem EAt.front {X : Nat → Prop} {w : World} {a : Option Addr} {es fs : List Eg} (h : EAt X w a (es ++ fs)) : EAt X w a es := by
  rcases h with h | ⟨b, off, ha, hX, hc⟩
  · exact Or.inl (List.append_eq_nil_iff.1 h).1
  · refine Or.inr ⟨b, off, ha, hX, fun j v hj => hc j v ?_⟩
    rw [flatE_append, List.getElem?_append_left (List.getElem?_eq_some_iff.1 hj).1]
    exact hj
theorem UAt.front {X : Nat → Prop} {w : World} {a : Option Addr} {rs ts : List Nat} (h : UAt X w a (rs ++ ts)) : UAt X w a rs := by
  rcases h with h | ⟨b, off, ha, hX, hc⟩
  · exact Or.inl (List.append_eq_nil_iff.1 h).1
  · refine Or.inr ⟨b, off, ha, hX, fun j v hj => hc j v ?_⟩
    rw [List.getElem?_append_left (List.getElem?_eq_some_iff.1 hj).1]
    exact hj
/-- A COPY OF A MACHINE, with a mark behind each list. -/
structure Cop (X : Nat → Prop) (w : World) (M : Ma) (y : Nf) : Prop where
  s : y.S = M.S
  n : y.en = M.es.length
  r : y.rn = M.rs.length
  e : EAt X w y.ea (M.es ++ [markE])
  u : UAt X w y.ra (M.rs ++ [77])
  ec : M.es.length + 1 ≤ y.ec ∧ y.ec ≤ maxLen
  rc : M.rs.length + 1 ≤ y.rc ∧ y.rc ≤ maxLen
theorem Cop.ma {X : Nat → Prop} {w : World} {M : Ma} {y : Nf} (h : Cop X w M y) : MaAt X w M y := ⟨h.s, h.n, h.r, h.e.front, h.u.front⟩
theorem Cop.keep {X Y : Nat → Prop} {w w' : World} {M : Ma} {x : Nf} (h : Cop X w M x) (hXY : ∀ b, X b → b < w.heap.size → Y b) (hk : ∀ b, X b → b < w.heap.size → w'.heap[b]? = w.heap[b]?) : Cop Y w' M x :=
  ⟨h.s, h.n, h.r, h.e.keep hXY hk, h.u.keep hXY hk, h.ec, h.rc⟩
theorem Cop.later {X : Nat → Prop} {w w' : World} {M : Ma} {x : Nf} (h : Cop X w M x) (hb : Below w.heap.size w w') : Cop X w' M x := h.keep (fun _ h _ => h) (fun b _ hlt => hb.block b hlt)
theorem run_append_edges (w : World) (ty : TypeId) (base g n c : Nat) (es : List Eg) (hn : es.length = n) (hown : RowE w base (.slice (some ⟨g, 0, none⟩) n c) es) {X : Nat → Prop} (a : Option Addr) (m cap : Nat) (fs : List Eg) (hm : fs.length = m) (hf : EAt X w a fs) (hl : n + m ≤ 20000000) (hb : base ≤ w.heap.size) :
    ∃ g' c' w', (Builtin.append_ #[35, 35] ty #[.slice (some ⟨g, 0, none⟩) n c, .slice a m cap]).run Try.prog w = .ok (.slice (some ⟨g', 0, none⟩) (n + m) c') w' ∧ RowE w' base (.slice (some ⟨g', 0, none⟩) (n + m) c') (es ++ fs) ∧ w.grownBy w' (some g) := by
  obtain ⟨i0, hi, hz0, hz1, hz2⟩ := info_parts infoE
  subst hn hm
  rcases hf with rfl | ⟨b, off, rfl, _, hc⟩
  · obtain ⟨a2, c2, hV, hc1, _⟩ := hown.form
    cases hV
    have hs : Src Try.prog i0.size 35 (.slice a 0 cap) 0 [] w := by
      cases a with
      | none => exact Src.ofNil w Try.underlying35 cap
      | some ad => exact Src.ofSlice w Try.underlying35 ad 0 cap [] (by simp) (fun j u hj => by simp at hj) (fun u hu => by cases hu)
    have hr := run_append_room_src (P := Try.prog) w 35 35 ty 57 i0 Try.underlying35 hi g 0 es.length c (.slice a 0 cap) 0 [] hs (by omega) (fun j hj => by simp at hj) (fun j hj => by simp at hj)
    exact ⟨g, c, _, hr, by simpa [World.setCells] using hown, by simpa [World.setCells] using (⟨rfl, rfl, rfl, Nat.le_refl _, fun _ _ _ => rfl⟩ : w.grownBy w _)⟩
  · by_cases hf0 : fs.length = 0
    · have hf1 : fs = [] := List.length_eq_zero_iff.1 hf0
      subst hf1
      obtain ⟨a2, c2, hV, hc1, _⟩ := hown.form
      cases hV
      have hs : Src Try.prog i0.size 35 (.slice (some ⟨b, off, none⟩) 0 cap) 0 [] w := Src.ofSlice w Try.underlying35 _ 0 cap [] (by simp) (fun j u hj => by simp at hj) (fun u hu => by cases hu)
      have hr := run_append_room_src (P := Try.prog) w 35 35 ty 57 i0 Try.underlying35 hi g 0 es.length c (.slice (some ⟨b, off, none⟩) 0 cap) 0 [] hs (by omega) (fun j hj => by simp at hj) (fun j hj => by simp at hj)
      exact ⟨g, c, _, hr, by simpa [World.setCells] using hown, by simpa [World.setCells] using (⟨rfl, rfl, rfl, Nat.le_refl _, fun _ _ _ => rfl⟩ : w.grownBy w _)⟩
    · obtain ⟨g', c', w', hr, ho, hg, hgg, hlt⟩ := run_append_lies (P := Try.prog) w 35 ty base 57 i0 _ 7 56 Try.underlying35 hi hz0 hz1 hz2 rfl (by decide) _ es.length _ hown ⟨b, off, none⟩ fs.length cap (flatE fs) (by rw [flatE_length, Nat.mul_comm])
        (fun j v hj => by rw [Go.WideShapes.add_plain]; exact hc j v hj) (flatE_one fs) (by omega) (by simp only [maxLen]; omega) (by omega) hb w.heap.size rfl
      refine ⟨g', c', w', hr, ?_, hg⟩
      unfold RowE
      rw [List.length_append, flatE_append]
      exact ho
theorem run_append_words (w : World) (ty : TypeId) (base g n c : Nat) (es : List Nat) (hn : es.length = n) (hown : RowU w base (.slice (some ⟨g, 0, none⟩) n c) es) {X : Nat → Prop} (a : Option Addr) (m cap : Nat) (fs : List Nat) (hm : fs.length = m) (hf : UAt X w a fs) (hl : n + m ≤ 20000000) (hb : base ≤ w.heap.size) :
    ∃ g' c' w', (Builtin.append_ #[36, 36] ty #[.slice (some ⟨g, 0, none⟩) n c, .slice a m cap]).run Try.prog w = .ok (.slice (some ⟨g', 0, none⟩) (n + m) c') w' ∧ RowU w' base (.slice (some ⟨g', 0, none⟩) (n + m) c') (es ++ fs) ∧ w.grownBy w' (some g) := by
  obtain ⟨i0, hi, hz0, hz1, hz2⟩ := info_parts infoU
  subst hn hm
  by_cases hf0 : fs.length = 0
  · have hf1 : fs = [] := List.length_eq_zero_iff.1 hf0
    subst hf1
    obtain ⟨a2, c2, hV, hc1, _⟩ := hown.form
    cases hV
    have hs : Src Try.prog i0.size 36 (.slice a 0 cap) 0 [] w := by
      cases a with
      | none => exact Src.ofNil w Try.underlying36 cap
      | some ad => exact Src.ofSlice w Try.underlying36 ad 0 cap [] (by simp) (fun j u hj => by simp at hj) (fun u hu => by cases hu)
    have hr := run_append_room_src (P := Try.prog) w 36 36 ty 44 i0 Try.underlying36 hi g 0 es.length c (.slice a 0 cap) 0 [] hs (by omega) (fun j hj => by simp at hj) (fun j hj => by simp at hj)
    exact ⟨g, c, _, hr, by simpa [World.setCells] using hown, by simpa [World.setCells] using (⟨rfl, rfl, rfl, Nat.le_refl _, fun _ _ _ => rfl⟩ : w.grownBy w _)⟩
  · rcases hf with rfl | ⟨b, off, rfl, _, hc⟩
    · exact absurd rfl hf0
    · obtain ⟨g', c', w', hr, ho, hg, hgg, hlt⟩ := run_append_lies (P := Try.prog) w 36 ty base 44 i0 _ 1 4 Try.underlying36 hi hz0 hz1 hz2 rfl (by decide) _ es.length _ hown ⟨b, off, none⟩ fs.length cap (wds fs) (by rw [wds_length, Nat.mul_one])
        (fun j v hj => by
          unfold wds at hj
          rw [List.getElem?_map] at hj
          cases hx : fs[j]? with
          | none => rw [hx] at hj; cases hj
          | some x =>
            rw [hx] at hj
            cases hj
            rw [Go.WideShapes.add_plain]
            exact hc j x hx) (fun v hv => by
          unfold wds at hv
          obtain ⟨x, _, rfl⟩ := List.mem_map.1 hv
          rfl) (by omega) (by simp only [maxLen]; omega) (by omega) hb w.heap.size rfl
      refine ⟨g', c', w', hr, ?_, hg⟩
      unfold RowU
      rw [List.length_append]
      have e : wds (es ++ fs) = wds es ++ wds fs := by simp [wds]
      rw [e]
      exact ho
theorem wpList_append_run {w w' : World} {ops : Array Oper} {rest : List Oper} {o : Oper} {a : Act} {Q : Exit → Act → World → Prop} (t : TypeId) (hgd : o.guard = none) (s y : Operand)
    (ho : o.op = .call { callee := .builtin .append, args := #[s, y], argTypes := #[t, t] }) {V Y v : Value} (hs : a.eval s = V) (hy : a.eval y = Y) (hr : (Builtin.append_ #[t, t] o.type #[V, Y]).run Try.prog w = .ok v w')
    (h : wpList Try.prog ops Q rest (a.put o.dst v) w') : wpList Try.prog ops Q (o :: rest) a w := by
  refine wpList_plain hgd fun K hK => ?_
  unfold Oper.wp execOp
  simp only [ho, resolve, invoke, builtin, Sem.run_bind, Sem.run_pure, Result.andThen_ok, List.map_toArray, List.map_cons, List.map_nil, hs, hy, hr]
  exact hK _ _ h
theorem rowE_empty (w : World) (base : Nat) (hb : base ≤ w.heap.size) : RowE (w.alloc (.cells #[] 57)) base (.slice (some ⟨w.heap.size, 0, none⟩) 0 0) [] := ⟨rfl, Or.inr ⟨w.heap.size, 0, #[], rfl, hb, heap_alloc_new w _, Nat.le_refl _, by decide, rfl, rfl⟩⟩
theorem rowU_empty (w : World) (base : Nat) (hb : base ≤ w.heap.size) : RowU (w.alloc (.cells #[] 44)) base (.slice (some ⟨w.heap.size, 0, none⟩) 0 0) [] := ⟨rfl, Or.inr ⟨w.heap.size, 0, #[], rfl, hb, heap_alloc_new w _, Nat.le_refl _, by decide, rfl, rfl⟩⟩
end Go.Proofs.Ytjmbimgofceanaa
