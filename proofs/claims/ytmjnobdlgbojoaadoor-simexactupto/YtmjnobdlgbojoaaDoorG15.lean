/- heronref08's spread. -/
import Derived.Test.YtmjnobdlgbojoaaDoorG14
namespace Go.Proofs.YtmjnobdlgbojoaaDoor
open Go.RowKit
attribute [local go_sem ↓] Go.wp_at_zero Go.wp_at_succ

theorem wpList_append_bools {w : World} {ops : Array Oper} {rest : List Oper} {o : Oper} {a : Act} {Q : Exit → Act → World → Prop} (hgd : o.guard = none) (s y : Operand)
    (ho : o.op = .call { callee := .builtin .append, args := #[s, y], argTypes := #[79, 79] })
    (base n m : Nat) (V : Value) (rs ts : List Bool) (hs : a.eval s = V) (hlen : rs.length = n) (hn : RowB w base V rs) (b off : Nat) (cap : Nat) (hy : a.eval y = .slice (some ⟨b, off, none⟩) m cap) (hm : ts.length = m) (hm0 : 0 < m) (hc : ∀ j x, ts[j]? = some x → w.cell? ⟨b, off + j, none⟩ = some (.bool x)) (hl : n + m ≤ 35184372088832) (hb : base ≤ w.heap.size)
    (h : ∀ g cap' w', RowB w' base (.slice (some ⟨g, 0, none⟩) (n + m) cap') (rs ++ ts) → w.grownBy w' V.ownBlock → wpList Tryd.prog ops Q rest (a.put o.dst (.slice (some ⟨g, 0, none⟩) (n + m) cap')) w') : wpList Tryd.prog ops Q (o :: rest) a w := by
  refine wpList_plain hgd fun K hK => ?_
  subst hlen hm
  obtain ⟨i0, hi, hz0, hz1, hz2⟩ := info_parts infoB
  obtain ⟨g, cap', w', hr, ho2, hg, hgg, hlt⟩ := run_append_lies (P := Tryd.prog) w 79 o.type base 4 i0 _ 1 1 Tryd.underlying79 hi hz0 hz1 hz2 rfl (by decide) V rs.length _ hn ⟨b, off, none⟩ ts.length cap (bls ts) (by rw [bls_length, Nat.mul_one])
    (fun j v hj => by
      unfold bls at hj
      rw [List.getElem?_map] at hj
      cases hx : ts[j]? with
      | none => rw [hx] at hj; cases hj
      | some x =>
        rw [hx] at hj
        cases hj
        rw [Go.WideShapes.add_plain]
        exact hc j x hx) (fun v hv => by
      unfold bls at hv
      obtain ⟨x, _, rfl⟩ := List.mem_map.1 hv
      rfl) hm0 (by simp only [maxLen]; omega) (by omega) hb w.heap.size rfl
  unfold Oper.wp execOp
  simp only [ho, resolve, invoke, builtin, Sem.run_bind, Sem.run_pure, Result.andThen_ok, List.map_toArray, List.map_cons, List.map_nil, hs, hy, hr]
  refine hK _ _ (h g cap' w' ?_ hg)
  unfold RowB
  rw [List.length_append]
  have e : bls (rs ++ ts) = bls rs ++ bls ts := by simp [bls]
  rw [e]
  exact ho2
theorem rowB_nil (w : World) (base : Nat) : RowB w base (.slice none 0 0) [] := World.ownsRow_nil w base 4 1
/-- THE STATE of spread. -/
structure Rc (w : World) (ob n oc : Nat) (u : World) (cur : List Bool) : Prop where
  row : RowB u w.heap.size (.slice (some ⟨ob, 0, none⟩) n oc) cur
  fr : Below w.heap.size w u
theorem Rc.later {w : World} {ob n oc : Nat} {u u' : World} {cur : List Bool} (h : Rc w ob n oc u cur) (hb : Below u.heap.size u u') : Rc w ob n oc u' cur := ⟨h.row.later hb, below_step h.fr hb⟩
theorem Rc.put {w : World} {ob n oc : Nat} {u : World} {cur : List Bool} (h : Rc w ob n oc u cur) (i : Nat) (v : Bool) : Rc w ob n oc (u.setCell ⟨ob, i, none⟩ (.bool v)) (cur.set i v) := ⟨h.row.put i v, h.fr.setCell (p := ⟨ob, i, none⟩) h.row.lt.2.2 _⟩
set_option maxRecDepth 8000 in
set_option maxHeartbeats 32000000 in
theorem rspread_any {M : Ma} {x : Nf} {V : Value} {r0 : Nat} {f : Bool} {base : Nat} {bs : List Bool} (B gb n c : Nat) (w : World) (hM : MaAt (fun _ => True) w M x) (hB : RWB w B x V r0 f) (hR : RowB w base (.slice (some ⟨gb, 0, none⟩) n c) bs) (h0 : 0 < n) (hn2 : n ≤ 1048576) (hE : M.es.length ≤ 1048576) (hF : ∀ y ∈ M.es, 0 ≤ y.f ∧ y.f < n ∧ 0 ≤ y.t ∧ y.t < n) (b e : Bool) :
    Calls Tryd.prog 39 #[.pointer (some ⟨B, 0, none⟩), .slice (some ⟨gb, 0, none⟩) n c, .bool b, .bool e] w fun r w' => ∃ ob oc ms, r = .returned (.slice (some ⟨ob, 0, none⟩) n oc) ∧ Clo M.es b e bs ms ∧ RowB w' w.heap.size (.slice (some ⟨ob, 0, none⟩) n oc) ms ∧ Below w.heap.size w w' := by
  have HMA : Hid (MaAt (fun _ => True) w M x) := hM
  have HB : Hid (RWB w B x V r0 f) := hB
  have HRR : Hid (RowB w base (.slice (some ⟨gb, 0, none⟩) n c) bs) := hR
  have HRG : Hid (∀ y ∈ M.es, 0 ≤ y.f ∧ y.f < n ∧ 0 ≤ y.t ∧ y.t < n) := hF
  have HBN : Hid (bs.length = n) := hR.lt.2.1.symm
  clear hM hB hR hF
  obtain ⟨xS, xa, en, xc, xra, xrn, xrc⟩ := x
  have e3 : en = M.es.length := HMA.out.n
  have HEN : Hid (M.es.length = en) := e3.symm
  rw [← e3] at hE
  clear e3
  go_enter Tryd.func39, Tryd.ntmps39
  go_wp2_with (at_builtin; go_must (refine wpList_append_bools rfl _ _ rfl w.heap.size 0 n _ [] bs rfl rfl (rowB_nil _ _) gb 0 c rfl HBN.out h0 (fun j x hx => by rw [Nat.zero_add]; exact (HRR.out.cell hx).1) (by omega) (Nat.le_refl _) ?_; intro ob oc w9 hre9 hg9; have HRC : Hid (Rc w ob n oc w9 bs) := ⟨by have h := hre9; rw [Nat.zero_add] at h; exact h, (Below.refl _ _).grown hg9 (Nat.le_refl _) (fun q e => by cases e)⟩; clear hre9 hg9; rw [Nat.zero_add]))
  go_loopw [10] (fun mv u => ∃ (cur : List Bool) (more : Bool), mv = .bool more ∧ Hid (Rc w ob n oc u cur) ∧ Hid (Sub bs cur) ∧ Hid (∀ k, Sub bs k → Closed M.es b e k → Sub cur k) ∧ Hid (more = false → Closed M.es b e cur)) (fun mv u => 2 * cfw u ob n + tv mv)
  case atStart => exact ⟨bs, true, rfl, HRC, Sub.refl _, fun _ h _ => h, fun h => by cases h⟩
  case round =>
    clear HRC
    obtain ⟨cur0, more0, rfl, HRc0, HSb0, HLs0, HCl0⟩ := hrel
    cases more0 with
    | false =>
      have HF : Hid (∃ ob' oc' ms, (Value.slice (some ⟨ob, 0, none⟩) n oc) = .slice (some ⟨ob', 0, none⟩) n oc' ∧ Clo M.es b e bs ms ∧ RowB wr w.heap.size (.slice (some ⟨ob', 0, none⟩) n oc') ms ∧ Below w.heap.size w wr) := ⟨ob, oc, cur0, rfl, ⟨HSb0.out, HCl0.out rfl, HLs0.out⟩, HRc0.out.row, HRc0.out.fr⟩
      go_wp2
      go_ret
      obtain ⟨ob', oc', ms, h1, h2⟩ := HF.out
      exact ⟨ob', oc', by rw [← h1]; rfl, ms, h2⟩
    | true =>
      have HM0 : Hid (cfw wr ob n = cur0.count false) := HRc0.out.row.cf
      obtain ⟨v0, hv0⟩ : ∃ v0 : World, v0 = wr := ⟨_, rfl⟩
      subst hv0
      go_wp2_with fail
      go_loopw [10, 11] (fun mv i u => ∃ (k : Nat) (cur : List Bool) (more : Bool), mv = .bool more ∧ i = .int .i64 (k : Nat) ∧ k ≤ en ∧ Hid (Rc w ob n oc u cur) ∧ Hid (Sub bs cur) ∧ Hid (∀ k, Sub bs k → Closed M.es b e k → Sub cur k) ∧ Hid (more = false → cur = cur0 ∧ Closed (M.es.take k) b e cur) ∧ Hid (more = true → cur.count false < cur0.count false)) (fun _ i _ => en - (intOf i).toNat)
      case atStart => exact ⟨0, cur0, false, rfl, rfl, Nat.zero_le _, HRc0, HSb0, HLs0, fun _ => ⟨rfl, fun z hz => by simp at hz⟩, fun h => by cases h⟩
      case round =>
        clear HRc0 HSb0 HLs0
        obtain ⟨k, cur, more, rfl, rfl, hkn, HRc, HSb, HLs, HCl, HCt⟩ := hrel
        obtain ⟨x0, x1, x2, x3, x4, x5⟩ := (HB.out.later HRc.out.fr).cells
        simp only at x0 x1 x2
        by_cases hlt : k < en
        · have hlt' : (k : Int) < (en : Int) := by omega
          obtain ⟨y, hy⟩ : ∃ y, M.es[k]? = some y := ⟨_, List.getElem?_eq_getElem (by rw [HEN.out]; exact hlt)⟩
          obtain ⟨hf0, hf1, ht0, ht1⟩ := HRG.out y (List.mem_of_getElem? hy)
          have HE2 := HMA.out.e
          obtain ⟨b', off, rfl, p0, p1, p2, p3, p4, p5, p6⟩ := (HE2.keep (w' := wr) (Y := fun _ => True) (fun _ _ _ => trivial) (fun k hX hk => HRc.out.fr.block k hk)).nth hy
          have HYY : Hid (M.es[k]? = some y) := hy
          clear hy HE2
          have kk : Below wr.heap.size wr (wr.alloc (.cells #[.int .i64 y.k, .int .i64 y.f, .int .i64 y.t, .int .u64 (Oct.word y.s 0 : Nat), .int .u64 (Oct.word y.s 1 : Nat), .int .u64 (Oct.word y.s 2 : Nat), .int .u64 (Oct.word y.s 3 : Nat)] 34)) := (Below.refl _ _).alloc (Nat.le_refl _) _
          have HR1 : Hid (Rc w ob n oc (wr.alloc (.cells #[.int .i64 y.k, .int .i64 y.f, .int .i64 y.t, .int .u64 (Oct.word y.s 0 : Nat), .int .u64 (Oct.word y.s 1 : Nat), .int .u64 (Oct.word y.s 2 : Nat), .int .u64 (Oct.word y.s 3 : Nat)] 34)) cur) := HRc.out.later kk
          have HG4 : Hid ((wr.alloc (.cells #[.int .i64 y.k, .int .i64 y.f, .int .i64 y.t, .int .u64 (Oct.word y.s 0 : Nat), .int .u64 (Oct.word y.s 1 : Nat), .int .u64 (Oct.word y.s 2 : Nat), .int .u64 (Oct.word y.s 3 : Nat)] 34)).heap[wr.heap.size]? = some (.cells #[.int .i64 y.k, .int .i64 y.f, .int .i64 y.t, .int .u64 (Oct.word y.s 0 : Nat), .int .u64 (Oct.word y.s 1 : Nat), .int .u64 (Oct.word y.s 2 : Nat), .int .u64 (Oct.word y.s 3 : Nat)] 34 (0, 0))) := heap_alloc_new wr _
          clear kk
          go_upto_region 10 with fail
          obtain ⟨w4, hw4⟩ : ∃ w4, wr.alloc (.cells #[.int .i64 y.k, .int .i64 y.f, .int .i64 y.t, .int .u64 (Oct.word y.s 0 : Nat), .int .u64 (Oct.word y.s 1 : Nat), .int .u64 (Oct.word y.s 2 : Nat), .int .u64 (Oct.word y.s 3 : Nat)] 34) = w4 := ⟨_, rfl⟩
          obtain ⟨G, hG⟩ : ∃ G, wr.heap.size = G := ⟨_, rfl⟩
          rw [hw4] at HR1 HG4 ⊢
          rw [hG] at HG4 ⊢
          clear hw4 hG p0 p1 p2 p3 p4 p5 p6 HRc x0 x1 x2 x3 x4 x5
          have g0 : w4.cell? ⟨G, 0, none⟩ = some (.int .i64 y.k) := by simp [World.cell?, HG4.out]
          have g1 : w4.cell? ⟨G, 1, none⟩ = some (.int .i64 y.f) := by simp [World.cell?, HG4.out]
          have g2 : w4.cell? ⟨G, 2, none⟩ = some (.int .i64 y.t) := by simp [World.cell?, HG4.out]
          obtain ⟨fv, hfv⟩ : ∃ fv, moves b e y = fv := ⟨_, rfl⟩
          have HFV : Hid (moves b e y = fv) := hfv
          clear hfv
          go_cut [13] (fun v wx => v = .bool fv ∧ wx = w4)
          case first =>
            by_cases h1 : y.k = 1
            · have h1a : (y.k == 1) = true := by simp [h1]
              go_wp2_with fail
              go_meet
              case rel => exact ⟨by rw [← HFV.out]; unfold moves; simp [h1], rfl⟩
            have h1a : (y.k == 1) = false := by simp [h1]
            by_cases h3 : y.k = 3
            · have h3a : (y.k == 3) = true := by simp [h3]
              have h4a : (y.k == 4) = false := by simp [h3]
              cases b with
              | false =>
                go_wp2_with fail
                go_meet
                case rel => exact ⟨by rw [← HFV.out]; unfold moves; simp [h3], rfl⟩
              | true =>
                go_wp2_with fail
                go_meet
                case rel => exact ⟨by rw [← HFV.out]; unfold moves; simp [h3], rfl⟩
            have h3a : (y.k == 3) = false := by simp [h3]
            by_cases h4 : y.k = 4
            · have h4a : (y.k == 4) = true := by simp [h4]
              cases e with
              | false =>
                go_wp2_with fail
                go_meet
                case rel => exact ⟨by rw [← HFV.out]; unfold moves; simp [h4], rfl⟩
              | true =>
                go_wp2_with fail
                go_meet
                case rel => exact ⟨by rw [← HFV.out]; unfold moves; simp [h4], rfl⟩
            have h4a : (y.k == 4) = false := by simp [h4]
            go_wp2_with fail
            go_meet
            case rel => exact ⟨by rw [← HFV.out]; unfold moves; simp [h1, h3, h4], rfl⟩
          case rest =>
          obtain ⟨rfl, hwc⟩ := hcut
          subst hwc
          have HLC : Hid (cur.length = n) := HSb.out.1.symm.trans HBN.out
          obtain ⟨F, hF⟩ : ∃ F : Nat, y.f = (F : Nat) := ⟨y.f.toNat, by omega⟩
          obtain ⟨T, hT⟩ : ∃ T : Nat, y.t = (T : Nat) := ⟨y.t.toNat, by omega⟩
          have HFT : Hid (y.f = (F : Nat) ∧ y.t = (T : Nat)) := ⟨hF, hT⟩
          rw [hF] at g1 hf0 hf1
          rw [hT] at g2 ht0 ht1
          clear hF hT
          obtain ⟨p, hp⟩ : ∃ p, cur[F]? = some p := ⟨_, List.getElem?_eq_getElem (by rw [HLC.out]; omega)⟩
          obtain ⟨q, hq⟩ : ∃ q, cur[T]? = some q := ⟨_, List.getElem?_eq_getElem (by rw [HLC.out]; omega)⟩
          have HPQ : Hid (cur[F]? = some p ∧ cur[T]? = some q) := ⟨hp, hq⟩
          obtain ⟨c1, _⟩ := HR1.out.row.cell hp
          obtain ⟨c2, f2⟩ := HR1.out.row.cell hq
          have HAF : Hid (at_ cur y.f = p ∧ at_ cur y.t = q) := by
            unfold at_
            rw [HFT.out.1, HFT.out.2, Int.toNat_natCast, Int.toNat_natCast, hp, hq]
            exact ⟨rfl, rfl⟩
          clear hp hq
          cases fv with
          | false =>
            have HCn : Hid (more = false → cur = cur0 ∧ Closed (M.es.take (k + 1)) b e cur) := fun h => ⟨(HCl.out h).1, closed_snoc (HCl.out h).2 HYY.out (fun h2 => by rw [HFV.out] at h2; cases h2)⟩
            go_wp2_with fail
            go_roundw
            case rel => exact ⟨k + 1, cur, more, rfl, by go_num, by omega, HR1, HSb, HLs, HCn, HCt⟩
            case measure => simp [intOf]; omega
          | true =>
          cases p with
          | false =>
            have HCn : Hid (more = false → cur = cur0 ∧ Closed (M.es.take (k + 1)) b e cur) := fun h => ⟨(HCl.out h).1, closed_snoc (HCl.out h).2 HYY.out (fun _ h2 => by rw [HAF.out.1] at h2; cases h2)⟩
            go_wp2_with fail
            go_roundw
            case rel => exact ⟨k + 1, cur, more, rfl, by go_num, by omega, HR1, HSb, HLs, HCn, HCt⟩
            case measure => simp [intOf]; omega
          | true =>
          cases q with
          | true =>
            have HCn : Hid (more = false → cur = cur0 ∧ Closed (M.es.take (k + 1)) b e cur) := fun h => ⟨(HCl.out h).1, closed_snoc (HCl.out h).2 HYY.out (fun _ _ => HAF.out.2)⟩
            go_wp2_with fail
            go_roundw
            case rel => exact ⟨k + 1, cur, more, rfl, by go_num, by omega, HR1, HSb, HLs, HCn, HCt⟩
            case measure => simp [intOf]; omega
          | false =>
            have HR2 : Hid (Rc w ob n oc (wc.setCell ⟨ob, T, none⟩ (.bool true)) (cur.set T true)) := HR1.out.put T true
            have HS2 : Hid (Sub bs (cur.set T true)) := HSb.out.trans (sub_set cur T)
            have HL2 : Hid (∀ k, Sub bs k → Closed M.es b e k → Sub (cur.set T true) k) := fun k' h1 h2 => by
              have h3 := HLs.out k' h1 h2
              refine set_sub h3 ?_
              have h4 : at_ k' y.f = true := by
                unfold at_
                rw [HFT.out.1, Int.toNat_natCast]
                exact h3.2 F (by rw [HPQ.out.1]; rfl)
              have h5 := h2 y (List.mem_of_getElem? HYY.out) HFV.out h4
              unfold at_ at h5
              rw [HFT.out.2, Int.toNat_natCast] at h5
              exact h5
            have HT2 : Hid (true = true → (cur.set T true).count false < cur0.count false) := fun _ => by
              have h1 := count_set HPQ.out.2
              cases more with
              | false => have h2 := (HCl.out rfl).1; rw [h2] at h1 ⊢; omega
              | true => have h2 := HCt.out rfl; omega
            go_wp2_with fail
            go_roundw
            case rel => exact ⟨k + 1, cur.set T true, true, rfl, by go_num, by omega, HR2, HS2, HL2, (fun h => by cases h), HT2⟩
            case measure => simp [intOf]; omega
        · have hlt' : ¬ (k : Int) < (en : Int) := by omega
          have HC2 : Hid (more = false → Closed M.es b e cur) := fun h => by
            have h2 := (HCl.out h).2
            rw [List.take_of_length_le (by rw [HEN.out]; omega)] at h2
            exact h2
          have HM1 : Hid (cfw wr ob n = cur.count false) := HRc.out.row.cf
          have HM2 : Hid (2 * cur.count false + tv (.bool more) < 2 * cur0.count false + 1) := by
            show _ < _
            cases more with
            | false => rw [(HCl.out rfl).1]; simp [tv]
            | true => have := HCt.out rfl; simp [tv]; omega
          go_wp2_with fail
          go_roundw
          case rel => exact ⟨cur, more, rfl, HRc, HSb, HLs, HC2⟩
          case measure => rw [HM0.out, HM1.out]; exact HM2.out
end Go.Proofs.YtmjnobdlgbojoaaDoor
