/- A step's turn in memory; what a read is. -/
import Derived.Test.YtpikepifhnkmkaaG40
namespace Go.Proofs.Ytpikepifhnkmkaa
open Go.RowKit Go.Maps Sf Ln Fo

def lineC : Option (Mrk × List UInt8) → List Value
  | none => [.int .i64 0, .int .i64 0, .int .i64 0, .int .i64 0, .int .i64 0, .int .i64 0, .int .i64 0, .int .i64 0, .int .i64 0, .string ⟨#[]⟩]
  | some (m, t) => mkC m ++ [.string ⟨t.toArray⟩]
def tuC (Bd : Nat) (l : Option (Mrk × List UInt8)) : Array Value := (.pointer (some ⟨Bd, 0, none⟩) :: (lineC l ++ [.bool l.isSome])).toArray
def TuC (w : World) (T : Nat) (C : Array Value) : Prop := w.heap[T]? = some (.cells C 88 (0, 0))
/-- a step leaves the follower so; the turn may have changed too -/
def STo (F B T : Nat) (V : Value) (f' : Fo) (w w' : World) : Prop := ∃ V', FoAt w' F B V' f' ∧ Here w V V' ∧ FrP (fun k => k = F ∨ k = B ∨ V.ownBlock = some k ∨ k = T) w w'
section
variable {w u v : World} {F B T : Nat} {V : Value} {f f' : Fo} {C : Array Value}
theorem TuC.ty (h : TuC w T C) : TyB w 88 T := ⟨_, _, h⟩
theorem TuC.lt (h : TuC w T C) : T < w.heap.size := (Array.getElem?_eq_some_iff.1 h).1
theorem TuC.frozen (h : TuC w T C) (j : Nat) : w.frozen? ⟨T, j, none⟩ = false := by simp [World.frozen?, show w.heap[T]? = _ from h]
theorem TuC.cell (h : TuC w T C) {j : Nat} {x : Value} (hc : C[j]? = some x) : w.cell? ⟨T, j, none⟩ = some x := by simp [World.cell?, show w.heap[T]? = _ from h, hc]
theorem TuC.set (h : TuC w T C) (j : Nat) (x : Value) : TuC (w.setCell ⟨T, j, none⟩ x) T (C.setIfInBounds j x) := heap_set h j x
theorem TuC.ne (h : TuC w T C) (hf : FoAt w F B V f) : T ≠ F ∧ T ≠ B ∧ V.ownBlock ≠ some T :=
  ⟨fun e => by have := h.ty; rw [e] at this; exact absurd (TyB.ne this hf.b.ty) (by decide), fun e => by have := h.ty; rw [e] at this; exact absurd (TyB.ne this hf.m.b.ty) (by decide), fun e => absurd (TyB.ne (hf.m.o.ty e).1 h.ty) (by decide)⟩
theorem TuC.kept (h : TuC w T C) (hf : FoAt w F B V f) (ht : FTo F B V f' w u) : TuC u T C := by
  obtain ⟨V', _, _, h3⟩ := ht
  obtain ⟨n1, n2, n3⟩ := h.ne hf
  exact (h3.block T h.lt (fun e => by
    rcases e with e | e | e
    · exact n1 e
    · exact n2 e
    · exact n3 e)).trans h
theorem TuC.later (h : TuC w T C) (hb : Below w.heap.size w u) : TuC u T C := (hb.block T h.lt).trans h
theorem FTo.st (h : FTo F B V f' w u) : STo F B T V f' w u := by
  obtain ⟨V', h1, h2, h3⟩ := h
  refine ⟨V', h1, h2, h3.mono (fun k _ e => ?_)⟩
  rcases e with e | e | e
  · exact .inl e
  · exact .inr (.inl e)
  · exact .inr (.inr (.inl e))
theorem STo.setT (h : STo F B T V f' w u) (hT : TuC u T C) (j : Nat) (x : Value) : STo F B T V f' w (u.setCell ⟨T, j, none⟩ x) := by
  obtain ⟨V', h1, h2, h3⟩ := h
  obtain ⟨n1, n2, n3⟩ := hT.ne h1
  refine ⟨V', ⟨(Below.heap_setCell u ⟨T, j, none⟩ x F (fun e => n1 e.symm)).trans h1.b, h1.m.b.same (Below.heap_setCell u ⟨T, j, none⟩ x B (fun e => n2 e.symm)), h1.m.o.keep fun b hb _ => Below.heap_setCell u ⟨T, j, none⟩ x b (fun e => by subst e; exact n3 hb)⟩, h2, h3.set (fun _ => .inr (.inr (.inr rfl))) j x⟩
theorem STo.setF {f1 : Fo} (h : STo F B T V f1 w u) (j : Nat) (x : Value) (hk : f1.k = f'.k) (hc : (foC B f1).setIfInBounds j x = foC B f') : STo F B T V f' w (u.setCell ⟨F, j, none⟩ x) := by
  obtain ⟨V1, a1, a2, a3⟩ := h
  exact ⟨V1, ⟨a1.b.set j x hc, by rw [← hk]; exact a1.m.setF a1.b j x⟩, a2, a3.set (fun _ => .inl rfl) j x⟩
theorem STo.after (h : STo F B T V f' w u) (hb : Below u.heap.size u v) : STo F B T V f' w v := by
  obtain ⟨V1, a1, a2, a3⟩ := h
  exact ⟨V1, a1.later hb, a2, a3.below hb⟩
/-- the line is told -/
theorem tell {Bd : Nat} (hT : TuC u T (tuC Bd none)) (h : STo F B T V f' w u) (m : Mrk) (t : List UInt8) (u' : World)
    (hu : u' = (((((((((((u.setCell ⟨T, 1, none⟩ (.int .i64 m.s)).setCell ⟨T, 2, none⟩ (.int .i64 m.n)).setCell ⟨T, 3, none⟩ (.int .i64 m.g)).setCell ⟨T, 4, none⟩ (.int .i64 m.o)).setCell ⟨T, 5, none⟩ (.int .i64 m.ms)).setCell ⟨T, 6, none⟩ (.int .i64 m.gn)).setCell ⟨T, 7, none⟩ (.int .i64 m.ct)).setCell ⟨T, 8, none⟩ (.int .i64 m.tl)).setCell ⟨T, 9, none⟩ (.int .i64 m.lg)).setCell ⟨T, 10, none⟩ (.string ⟨t.toArray⟩)).setCell ⟨T, 11, none⟩ (.bool true))) :
    TuC u' T (tuC Bd (some (m, t))) ∧ STo F B T V f' w u' := by
  subst hu
  have a1 := hT.set 1 (.int .i64 m.s)
  have a2 := a1.set 2 (.int .i64 m.n)
  have a3 := a2.set 3 (.int .i64 m.g)
  have a4 := a3.set 4 (.int .i64 m.o)
  have a5 := a4.set 5 (.int .i64 m.ms)
  have a6 := a5.set 6 (.int .i64 m.gn)
  have a7 := a6.set 7 (.int .i64 m.ct)
  have a8 := a7.set 8 (.int .i64 m.tl)
  have a9 := a8.set 9 (.int .i64 m.lg)
  have a10 := a9.set 10 (.string ⟨t.toArray⟩)
  have a11 := a10.set 11 (.bool true)
  have e : ((((((((((((tuC Bd none).setIfInBounds 1 (.int .i64 m.s)).setIfInBounds 2 (.int .i64 m.n)).setIfInBounds 3 (.int .i64 m.g)).setIfInBounds 4 (.int .i64 m.o)).setIfInBounds 5 (.int .i64 m.ms)).setIfInBounds 6 (.int .i64 m.gn)).setIfInBounds 7 (.int .i64 m.ct)).setIfInBounds 8 (.int .i64 m.tl)).setIfInBounds 9 (.int .i64 m.lg)).setIfInBounds 10 (.string ⟨t.toArray⟩)).setIfInBounds 11 (.bool true)) = tuC Bd (some (m, t)) := by
    simp [tuC, lineC, mkC]
  rw [e] at a11
  refine ⟨a11, ?_⟩
  exact ((((((((((h.setT hT 1 _).setT a1 2 _).setT a2 3 _).setT a3 4 _).setT a4 5 _).setT a5 6 _).setT a6 7 _).setT a7 8 _).setT a8 9 _).setT a9 10 _).setT a10 11 _
end
/-- what Read brings a follower -/
theorem read_got {P : Nat → Prop} {w : World} {Bd K C : Nat} {d : Dk} {f : Fo} (h : Dsk P w Bd d K) (hk : f.Ok C) {x : Ino} (hin : inoZ d f.m.n = some x) (hg : (x.gen : Int) = f.m.g) :
    Calls Try.prog 35 #[.pointer (some ⟨Bd, 0, none⟩), .int .i64 f.m.n, .int .i64 f.m.g, .int .i64 (f.m.o + (f.k.u.length : Nat)), .int .i64 (f.ck : Nat)] w fun e w' => ∃ va vc, e = .returned (.tuple #[.slice va (f.got x).length vc, .int .i64 0]) ∧ LAt w' (.slice va (f.got x).length vc) (uv (f.got x)) ∧ Below w.heap.size w w' := by
  have ho := hk.m.o
  have hu := hk.u
  have hc := hk.ck
  unfold top at ho
  refine (read_any h f.m.n f.m.g (f.m.o + (f.k.u.length : Nat)) (f.ck : Nat) (ofI_good hk.m.n) (by unfold goodI; omega) (by unfold goodI; omega)).mono ?_
  intro e w' y
  have h0 : readE d f.m.n f.m.g (f.m.o + (f.k.u.length : Nat)) (f.ck : Nat) = 0 := by
    unfold readE
    rw [if_neg (by omega), hin]
    simp only
    rw [if_pos hg]
  rcases y with ⟨y, _⟩ | ⟨_, f', V, hf', _, _, rfl, hrow, hb⟩
  · exact absurd h0 y
  · rw [hin] at hf'
    cases hf'
    have hcut : Ino.cut x (f.m.o + (f.k.u.length : Nat)).toNat ((f.ck : Nat) : Int).toNat = f.got x := by
      unfold Ino.cut Fo.got
      rw [Int.toNat_natCast]
    rw [hcut] at hrow
    obtain ⟨va, vc, rfl⟩ := own_form hrow
    exact ⟨va, vc, rfl, owns_lat hrow, hb⟩
end Go.Proofs.Ytpikepifhnkmkaa

/- follow: read. -/
namespace Go.Proofs.Ytpikepifhnkmkaa
open Go.RowKit Go.Maps Sf Ln Fo
attribute [local go_sem ↓] Go.wp_at_zero Go.wp_at_succ

def RdPost (F B T Bd : Nat) (V : Value) (f : Fo) (b : List UInt8) (w : World) (e : Ending) (w' : World) : Prop := (b = [] → e = .returned (.bool false) ∧ Below w.heap.size w w') ∧ (b ≠ [] → e = .returned (.bool true) ∧ STo F B T V (f.on b) w w' ∧ TuC w' T (tuC Bd (if f.k.whole b then some (f.m, f.k.text b) else none)))
set_option maxRecDepth 8000 in
set_option maxHeartbeats 8000000 in
theorem read_fn {w : World} {F B Bd Tb K C : Nat} {V : Value} {f : Fo} {P : Nat → Prop} {d : Dk} (h : FoAt w F B V f) (hk : f.Ok C) (hC : C ≤ 1000000000) (hd : Dsk P w Bd d K) (hT : TuC w Tb (tuC Bd none)) {x : Ino} (hin : inoZ d f.m.n = some x) (hg : (x.gen : Int) = f.m.g) :
    Calls Try.prog 44 #[.pointer (some ⟨F, 0, none⟩), .pointer (some ⟨Tb, 0, none⟩)] w (RdPost F B Tb Bd V f (f.got x) w) := by
  have hgl := (got_le f x).1
  have HRD : Hid (∀ u, Below w.heap.size w u → Calls Try.prog 35 #[.pointer (some ⟨Bd, 0, none⟩), .int .i64 f.m.n, .int .i64 f.m.g, .int .i64 (f.m.o + (f.k.u.length : Nat)), .int .i64 (f.ck : Nat)] u fun e w' => ∃ va vc, e = .returned (.tuple #[.slice va (f.got x).length vc, .int .i64 0]) ∧ LAt w' (.slice va (f.got x).length vc) (uv (f.got x)) ∧ Below u.heap.size u w') := fun u hu => read_got (hd.later hu) hk hin hg
  obtain ⟨b, hb⟩ : ∃ b, f.got x = b := ⟨_, rfl⟩
  rw [hb] at HRD hgl ⊢
  obtain ⟨c0, _, c2, c3, c4⟩ := h.b.cells
  have c11 := h.b.losses.2.2.2.2.2.2
  have HBG : Hid (∀ q, Calls Try.prog 58 #[.pointer (some ⟨B, 0, none⟩)] (w.drewN q) fun e w' => e = .returned (.int .i64 (f.k.u.length : Nat)) ∧ w' = w.drewN q) := fun q => begun_at (h.later (drew_below w q))
  have HH : Hid (FoAt w F B V f ∧ f.Ok C ∧ TuC w Tb (tuC Bd none) ∧ C ≤ 1000000000) := ⟨h, hk, hT, hC⟩
  have t0 : w.cell? ⟨Tb, 0, none⟩ = some (.pointer (some ⟨Bd, 0, none⟩)) := hT.cell rfl
  have ho := hk.m.o
  have hu := hk.u
  have hck := hk.ck
  unfold top at ho
  obtain ⟨mo, hmo⟩ : ∃ mo, f.m.o = mo := ⟨_, rfl⟩
  obtain ⟨lu, hlu⟩ : ∃ lu, f.k.u.length = lu := ⟨_, rfl⟩
  obtain ⟨ck, hckk⟩ : ∃ ck, f.ck = ck := ⟨_, rfl⟩
  obtain ⟨lb, hlb⟩ : ∃ lb, b.length = lb := ⟨_, rfl⟩
  have HM : Hid (f.m.o = mo ∧ f.k.u.length = lu ∧ f.ck = ck ∧ b.length = lb) := ⟨hmo, hlu, hckk, hlb⟩
  rw [hmo] at HRD c4 ho
  rw [hlu] at HRD HBG hu
  rw [hckk] at HRD c11 hck hgl
  rw [hlb] at HRD hgl
  obtain ⟨ho1, ho2⟩ := ho
  obtain ⟨hck1, hck2⟩ := hck
  have tw1 : IntKind.i64.wrap (mo + (lu : Int)) = mo + (lu : Int) := by rw [IntKind.wrap_i64]; omega
  clear h hk hC hd hT hin hg hb hmo hlu hckk hlb
  go_enter Try.func44, Try.ntmps44
  go_upto_region 1 with fail
  go_quiet ((go_at_call 58; exact Calls.quiet_of_same (HBG.out _)))
  obtain ⟨w1, hw1⟩ : ∃ w1, w.drewN nq = w1 := ⟨_, rfl⟩
  have k1 : Below w.heap.size w w1 := by rw [← hw1]; exact drew_below w nq
  rw [hw1]
  have HK1 : Hid (Below w.heap.size w w1) := k1
  have e0 := cell_later k1 _ _ _ c0
  have e2 := cell_later k1 _ _ _ c2
  have e3 := cell_later k1 _ _ _ c3
  have e11 := cell_later k1 _ _ _ c11
  have x0 := cell_later k1 _ _ _ t0
  clear hw1 k1 c0 c2 c3 c4 c11 t0 HBG tw1
  obtain ⟨sn, hsn⟩ : ∃ sn, mo + (lu : Int) = sn := ⟨_, rfl⟩
  have HSN : Hid (mo + (lu : Int) = sn) := hsn
  have hsn1 : 0 ≤ sn ∧ sn ≤ 4611686018428436480 := by omega
  obtain ⟨hs1, hs2⟩ := hsn1
  rw [hsn] at HRD ⊢
  clear hsn
  go_upto_region 2 with fail
  go_cut [6, 7] from 22 to 44 (fun v6 _ wx => ∃ va vc, v6 = .slice va lb vc ∧ Hid (Below w.heap.size w wx ∧ LAt wx (.slice va lb vc) (uv b)))
  case first =>
    go_region_with (go_at_call 35; refine (HRD.out _ (HK1.out.drew)).mono ?_; rintro e u ⟨va, vc, rfl, hl, hu⟩; have HU : Hid (Below w.heap.size w u ∧ LAt u (.slice va lb vc) (uv b)) := ⟨below_step (HK1.out.drew) hu, hl⟩; clear hl hu)
    all_goals
      go_wp2_with fail
      go_meet
      case rel => exact ⟨va, vc, rfl, HU⟩
  case rest =>
  obtain ⟨va, vc, rfl, HL⟩ := hcut
  clear HRD e2 e3 e11 x0
  have hfc : FoAt wc F B V f := HH.out.1.later HL.out.1
  have c0 := hfc.b.cells.1
  rcases Nat.eq_zero_or_pos lb with hz | hp
  · subst hz
    have HB0 : Hid (b = []) := List.eq_nil_of_length_eq_zero HM.out.2.2.2
    clear hfc
    go_wp2
    go_ret
    exact ⟨fun _ => ⟨rfl, HL.out.1⟩, fun y => absurd HB0.out y⟩
  have hz : ((lb : Int) == 0) = false := by simp; omega
  have HBN : Hid (b ≠ []) := fun e => by have := HM.out.2.2.2; rw [e] at this; simp at this; omega
  have HFD : Hid (Calls Try.prog 59 #[.pointer (some ⟨B, 0, none⟩), .slice va lb vc] wc fun e w' => e = .returned (.tuple #[.string ⟨(f.k.text b).toArray⟩, .int .i64 (took b : Nat), .bool (f.k.whole b)]) ∧ FTo F B V ⟨f.m, f.nm, f.ck, f.k.feed b⟩ w w') := by
    have h1 := HH.out.2.1
    have h2 := HM.out
    refine (feed_fn hfc.m HL.out.2 h1.most (by have := h1.u; omega) (by have := h1.long; have := HH.out.2.2.2; omega)).mono fun e w' x => ⟨x.1, ?_⟩
    exact (FTo.below HH.out.1 HL.out.1).maker (fun V' a => by rw [a.same hfc.m]; exact x.2) rfl
  obtain ⟨tx, htx⟩ : ∃ tx : ByteArray, ⟨(f.k.text b).toArray⟩ = tx := ⟨_, rfl⟩
  obtain ⟨tk, htk⟩ : ∃ tk, took b = tk := ⟨_, rfl⟩
  obtain ⟨wh, hwh⟩ : ∃ wh, f.k.whole b = wh := ⟨_, rfl⟩
  have htk2 : tk ≤ 4096 := by have h1 := took_le b; have := HM.out.2.2.2; omega
  rw [htx, htk, hwh] at HFD
  have HN : Hid ((⟨(f.k.text b).toArray⟩ : ByteArray) = tx ∧ took b = tk ∧ f.k.whole b = wh) := ⟨htx, htk, hwh⟩
  clear htx htk hwh hfc
  go_upto_region 5 with fail
  go_wp2_with fail
  refine HFD.out.mono ?_
  rintro e w3 ⟨rfl, h3⟩
  have HT3 : Hid (FTo F B V ⟨f.m, f.nm, f.ck, f.k.feed b⟩ w w3) := h3
  have HTU : Hid (TuC w3 Tb (tuC Bd none)) := HH.out.2.2.1.kept HH.out.1 h3
  obtain ⟨V3, a3, _⟩ := h3
  have HA3 : Hid (FoAt w3 F B V3 ⟨f.m, f.nm, f.ck, f.k.feed b⟩) := a3
  have c0' := a3.b.cells.1
  have HBG : Hid (Calls Try.prog 58 #[.pointer (some ⟨B, 0, none⟩)] w3 fun e w' => e = .returned (.int .i64 ((f.k.feed b).u.length : Nat)) ∧ w' = w3) := begun_at a3
  obtain ⟨l2, hl2⟩ : ∃ l2, (f.k.feed b).u.length = l2 := ⟨_, rfl⟩
  have HL2 : Hid ((f.k.feed b).u.length = l2) := hl2
  rw [hl2] at HBG
  clear HFD c0 hl2 a3 HL hz
  go_wp2_with fail
  refine HBG.out.mono ?_
  rintro e wx ⟨rfl, hwx⟩
  rw [hwx]
  clear hwx HBG
  by_cases hn : nl b < b.length
  · have l0 : l2 = 0 := by rw [← HL2.out, feed_nl hn]; rfl
    subst l0
    have HNL : Hid (nl b < b.length) := hn
    have hon : f.on b = if f.k.whole b then ⟨{ f.m with o := f.m.o + f.k.u.length + took b }, f.nm, f.ck, f.k.feed b⟩ else ⟨{ f.m with o := f.m.o + f.k.u.length + took b, lg := raise f.m.lg 1 }, f.nm, f.ck, f.k.feed b⟩ := by unfold Fo.on; rw [if_pos hn]
    rw [HN.out.2.2, HM.out.1, HM.out.2.1, HN.out.2.1] at hon
    have HON : Hid (f.on b = if wh then ⟨{ f.m with o := mo + lu + tk }, f.nm, f.ck, f.k.feed b⟩ else ⟨{ f.m with o := mo + lu + tk, lg := raise f.m.lg 1 }, f.nm, f.ck, f.k.feed b⟩) := hon
    clear hn hon
    have HFM : Hid (FoAt w3 F B V3 ⟨f.m, f.nm, f.ck, f.k.feed b⟩) := HA3.out
    cases wh with
    | true =>
      obtain ⟨d0, d1, d2, d3, d4⟩ := HFM.out.b.cells
      obtain ⟨d5, d6, d7, d8, d9, _, _⟩ := HFM.out.b.losses
      obtain ⟨w4, hw4⟩ : ∃ w4, w4 = (((((((((((w3.setCell ⟨Tb, 1, none⟩ (.int .i64 f.m.s)).setCell ⟨Tb, 2, none⟩ (.int .i64 f.m.n)).setCell ⟨Tb, 3, none⟩ (.int .i64 f.m.g)).setCell ⟨Tb, 4, none⟩ (.int .i64 f.m.o)).setCell ⟨Tb, 5, none⟩ (.int .i64 f.m.ms)).setCell ⟨Tb, 6, none⟩ (.int .i64 f.m.gn)).setCell ⟨Tb, 7, none⟩ (.int .i64 f.m.ct)).setCell ⟨Tb, 8, none⟩ (.int .i64 f.m.tl)).setCell ⟨Tb, 9, none⟩ (.int .i64 f.m.lg)).setCell ⟨Tb, 10, none⟩ (.string tx)).setCell ⟨Tb, 11, none⟩ (.bool true)) := ⟨_, rfl⟩
      have HW4 : Hid ((((((((((((w3.setCell ⟨Tb, 1, none⟩ (.int .i64 f.m.s)).setCell ⟨Tb, 2, none⟩ (.int .i64 f.m.n)).setCell ⟨Tb, 3, none⟩ (.int .i64 f.m.g)).setCell ⟨Tb, 4, none⟩ (.int .i64 f.m.o)).setCell ⟨Tb, 5, none⟩ (.int .i64 f.m.ms)).setCell ⟨Tb, 6, none⟩ (.int .i64 f.m.gn)).setCell ⟨Tb, 7, none⟩ (.int .i64 f.m.ct)).setCell ⟨Tb, 8, none⟩ (.int .i64 f.m.tl)).setCell ⟨Tb, 9, none⟩ (.int .i64 f.m.lg)).setCell ⟨Tb, 10, none⟩ (.string tx)).setCell ⟨Tb, 11, none⟩ (.bool true)) = w4) := hw4.symm
      obtain ⟨y1, y2⟩ := tell HTU.out HT3.out.st f.m (f.k.text b) w4 (by rw [hw4, HN.out.1])
      have HY : Hid (TuC w4 Tb (tuC Bd (some (f.m, f.k.text b))) ∧ STo F B Tb V ⟨f.m, f.nm, f.ck, f.k.feed b⟩ w w4) := ⟨y1, y2⟩
      obtain ⟨V4, a4, _⟩ := y2
      have n4 := a4.b.cells.2.2.2.2
      have q4 := a4.b.frozen 4
      have z1 : ∀ j, w3.frozen? ⟨Tb, j, none⟩ = false := fun j => HTU.out.frozen j
      have b1 : w3.cell? ⟨Tb, 1, none⟩ = some (.int .i64 0) := HTU.out.cell rfl
      have b2 : w3.cell? ⟨Tb, 2, none⟩ = some (.int .i64 0) := HTU.out.cell rfl
      have b3 : w3.cell? ⟨Tb, 3, none⟩ = some (.int .i64 0) := HTU.out.cell rfl
      have b4 : w3.cell? ⟨Tb, 4, none⟩ = some (.int .i64 0) := HTU.out.cell rfl
      have b5 : w3.cell? ⟨Tb, 5, none⟩ = some (.int .i64 0) := HTU.out.cell rfl
      have b6 : w3.cell? ⟨Tb, 6, none⟩ = some (.int .i64 0) := HTU.out.cell rfl
      have b7 : w3.cell? ⟨Tb, 7, none⟩ = some (.int .i64 0) := HTU.out.cell rfl
      have b8 : w3.cell? ⟨Tb, 8, none⟩ = some (.int .i64 0) := HTU.out.cell rfl
      have b9 : w3.cell? ⟨Tb, 9, none⟩ = some (.int .i64 0) := HTU.out.cell rfl
      have b10 : w3.cell? ⟨Tb, 10, none⟩ = some (.string ⟨#[]⟩) := HTU.out.cell rfl
      have b11 : w3.cell? ⟨Tb, 11, none⟩ = some (.bool false) := HTU.out.cell rfl
      have HE : Hid (STo F B Tb V (f.on b) w (w4.setCell ⟨F, 4, none⟩ (.int .i64 (sn + (tk : Int)))) ∧ TuC (w4.setCell ⟨F, 4, none⟩ (.int .i64 (sn + (tk : Int)))) Tb (tuC Bd (if f.k.whole b then some (f.m, f.k.text b) else none))) := by
        refine ⟨?_, ?_⟩
        · rw [HON.out, if_pos rfl, HSN.out]
          exact HY.out.2.setF 4 _ rfl rfl
        · rw [HN.out.2.2, if_pos rfl]
          obtain ⟨V5, a5, _⟩ := HY.out.2
          exact (Below.heap_setCell w4 ⟨F, 4, none⟩ _ Tb (fun e => (HY.out.1.ne a5).1 e)).trans HY.out.1
      clear hw4 y1 a4 c0'
      go_upto_region 11 with fail
      rw [HW4.out]
      clear d0 d1 d2 d3 d4 d5 d6 d7 d8 d9 z1 b1 b2 b3 b4 b5 b6 b7 b8 b9 b10 b11 HW4
      go_wp2_with fail
      go_ret
      exact ⟨fun y => absurd y HBN.out, fun _ => ⟨rfl, HE.out⟩⟩
    | false =>
      have HR : Hid (Calls Try.prog 38 #[.pointer (some ⟨F, 9, none⟩), .int .i64 1] w3 _) := raise_fn HFM.out.b.losses.2.2.2.2.1 (HFM.out.b.frozen 9) HH.out.2.1.m.lg (k := 1) (by decide)
      have ht : STo F B Tb V ⟨{ f.m with lg := raise f.m.lg 1 }, f.nm, f.ck, f.k.feed b⟩ w (w3.setCell ⟨F, 9, none⟩ (.int .i64 (raise f.m.lg 1))).drew := ((HT3.out.st (T := Tb)).setF (f' := ⟨{ f.m with lg := raise f.m.lg 1 }, f.nm, f.ck, f.k.feed b⟩) 9 (.int .i64 (raise f.m.lg 1)) rfl rfl).after (drew_below _ 1)
      obtain ⟨w4, hw4⟩ : ∃ w4, (w3.setCell ⟨F, 9, none⟩ (.int .i64 (raise f.m.lg 1))).drew = w4 := ⟨_, rfl⟩
      have htu : TuC w4 Tb (tuC Bd none) := by rw [← hw4]; exact (Below.heap_setCell w3 ⟨F, 9, none⟩ _ Tb (fun e => (HTU.out.ne HFM.out).1 e)).trans HTU.out
      rw [hw4] at ht
      have HW4 : Hid ((w3.setCell ⟨F, 9, none⟩ (.int .i64 (raise f.m.lg 1))).drew = w4) := hw4
      have HY : Hid (TuC w4 Tb (tuC Bd none) ∧ STo F B Tb V ⟨{ f.m with lg := raise f.m.lg 1 }, f.nm, f.ck, f.k.feed b⟩ w w4) := ⟨htu, ht⟩
      obtain ⟨V4, a4, _⟩ := ht
      have n4 := a4.b.cells.2.2.2.2
      have q4 := a4.b.frozen 4
      have HE : Hid (STo F B Tb V (f.on b) w (w4.setCell ⟨F, 4, none⟩ (.int .i64 (sn + (tk : Int)))) ∧ TuC (w4.setCell ⟨F, 4, none⟩ (.int .i64 (sn + (tk : Int)))) Tb (tuC Bd (if f.k.whole b then some (f.m, f.k.text b) else none))) := by
        refine ⟨?_, ?_⟩
        · rw [HON.out, if_neg Bool.false_ne_true, HSN.out]
          exact HY.out.2.setF 4 _ rfl rfl
        · rw [HN.out.2.2, if_neg Bool.false_ne_true]
          obtain ⟨V5, a5, _⟩ := HY.out.2
          exact (Below.heap_setCell w4 ⟨F, 4, none⟩ _ Tb (fun e => (HY.out.1.ne a5).1 e)).trans HY.out.1
      clear hw4 a4 c0' htu
      go_wp2_with fail
      refine HR.out.mono ?_
      rintro e wx ⟨rfl, hwx⟩
      rw [hwx, HW4.out]
      clear hwx HR
      go_wp2_with fail
      go_ret
      exact ⟨fun y => absurd y HBN.out, fun _ => ⟨rfl, HE.out⟩⟩
  · have l0 : 0 < l2 := by rw [← HL2.out, feed_no hn, List.length_append, HM.out.2.2.2]; omega
    have l1 : (0 : Int) < (l2 : Int) := by omega
    have HE : Hid (STo F B Tb V (f.on b) w w3 ∧ TuC w3 Tb (tuC Bd (if f.k.whole b then some (f.m, f.k.text b) else none))) := by
      have e1 : f.on b = ⟨f.m, f.nm, f.ck, f.k.feed b⟩ := by unfold Fo.on; rw [if_neg hn]
      have e2 : f.k.whole b = false := by unfold Mk.whole; rw [decide_eq_false hn]; rfl
      rw [e1, e2, if_neg Bool.false_ne_true]
      exact ⟨HT3.out.st, HTU.out⟩
    clear hn l0
    go_wp2_with fail
    go_ret
    exact ⟨fun y => absurd y HBN.out, fun _ => ⟨rfl, HE.out⟩⟩
end Go.Proofs.Ytpikepifhnkmkaa
