/- table.Encode; sumIsRight. -/
import Derived.Test.YtdngileimmgdnaaDoorG11
import Derived.Deep.DeepAppendWide
import Derived.Deep.AppendSrc
import Derived.Test.YtdngileimmgdnaaDoorG05
import Derived.Test.YtdngileimmgdnaaDoorG01
namespace Go.Proofs.YtdngileimmgdnaaDoor
open Go.RowKit
attribute [local go_sem ↓] Go.wp_at_zero Go.wp_at_succ

theorem int_beq (x y : Nat) : ((x : Int) == (y : Int)) = decide (x = y) := by
  rw [Bool.eq_iff_iff]; simp; omega
def EncPost (d : Dt) (w : World) (e : Ending) (w' : World) : Prop := (∃ v, e = .returned (.tuple #[v, .int .i64 (if rightT d then 0 else 70)]) ∧ OwnsN w' w.heap.size v (if rightT d then imgT d else [])) ∧ Below w.heap.size w w'
set_option maxRecDepth 20000 in
set_option maxHeartbeats 4000000 in
theorem encode_any (d : Dt) (V1 V2 V3 : Value) (Us : List Value) (w : World) (hd : DfAt w d V1 V2 V3 Us) (hT : Tab w) (h0 : 0 < w.heap.size) :
    Calls Tryd.prog 8 #[.agg (dv d.cl V1 V2 V3)] w (EncPost d w) := by
  obtain ⟨w1, hw1⟩ : ∃ w1, w.alloc (.cells (dv d.cl V1 V2 V3) 26) = w1 := ⟨_, rfl⟩
  have k1 : Below w.heap.size w w1 := by rw [← hw1]; exact (Below.refl _ _).alloc (Nat.le_refl _) _
  have HD : Hid (DB w1 w.heap.size d.cl V1 V2 V3) := by rw [← hw1]; exact db_new w _ V1 V2 V3
  have HT1 : Hid (DfAt w1 d V1 V2 V3 Us) := hd.later k1
  have HTB : Hid (Tab w1) := tab_below k1 h0 hT
  have HC : Hid (Calls Tryd.prog 11 #[.agg (dv d.cl V1 V2 V3)] w1 fun e w' => e = .returned (.bool (rightT d)) ∧ Below w1.heap.size w1 w') := right_any d V1 V2 V3 Us w1 HT1.out
  have HW1 : Hid (w.alloc (.cells (dv d.cl V1 V2 V3) 26) = w1) := hw1
  have HK1 : Hid (Below w.heap.size w w1) := k1
  have HP : Hid (∀ e w', EncPost d w e w' ↔ EncPost d w e w') := fun _ _ => Iff.rfl
  clear hw1 k1 hd hT
  obtain ⟨r, hr⟩ : ∃ r, rightT d = r := ⟨_, rfl⟩
  have HR : Hid (rightT d = r) := hr
  rw [hr] at HC
  clear hr
  go_enter Tryd.func8, Tryd.ntmps8
  go_upto_region 1 with fail
  rw [HW1.out]
  clear HW1
  go_wp2_with (refine wpList_load_dfa rfl (.tmp 1) rfl HD.out rfl ?_)
  refine HC.out.mono ?_
  rintro e w2 ⟨rfl, k2⟩
  have HB : Hid (Below w.heap.size w w2) := below_step HK1.out k2
  have HD2 : Hid (DB w2 w.heap.size d.cl V1 V2 V3) := HD.out.later k2
  have HT2 : Hid (DfAt w2 d V1 V2 V3 Us) := HT1.out.later k2
  have HTB2 : Hid (Tab w2) := tab_below k2 (by have := HK1.out.size; omega) HTB.out
  clear k2 HC HK1 HD HT1 HTB
  cases r with
  | false =>
    go_wp2
    refine bodyPost_ret (v := .tuple #[.slice none 0 0, .int .i64 70]) (by simp [results, Tryd.results8, go_sem]) rfl ⟨⟨.slice none 0 0, ?_, ?_⟩, HB.out⟩
    · rw [HR.out]; rfl
    · rw [HR.out]; exact ownsN_nil _ _
  | true =>
    have HC : Hid (Calls Tryd.prog 22 #[.agg (dv d.cl V1 V2 V3)] w2 fun e w' => ∃ v, e = .returned v ∧ OwnsN w' w2.heap.size v (imgT d) ∧ Below w2.heap.size w2 w') := image_any d V1 V2 V3 Us w2 HT2.out HR.out HTB2.out (by have := HB.out.size; omega)
    go_wp2_with (refine wpList_load_dfa rfl (.tmp 1) rfl HD2.out rfl ?_)
    refine HC.out.mono ?_
    rintro e w3 ⟨v, rfl, ho, k3⟩
    have HO : Hid (OwnsN w3 w.heap.size v (imgT d)) := by
      have hz : w.heap.size ≤ w2.heap.size := HB.out.size
      obtain ⟨⟨h1, h2⟩, h3⟩ := ho
      refine ⟨⟨h1, ?_⟩, h3⟩
      rcases h2 with h2 | ⟨g, cap, cur, hv, hBg, hg, rest⟩
      · exact Or.inl h2
      · exact Or.inr ⟨g, cap, cur, hv, by omega, hg, rest⟩
    have HB3 : Hid (Below w.heap.size w w3) := below_step HB.out k3
    clear k3 ho HC
    go_wp2
    refine bodyPost_ret (v := .tuple #[v, .int .i64 0]) (by simp [results, Tryd.results8, go_sem]) rfl ⟨⟨v, ?_, ?_⟩, HB3.out⟩
    · rw [HR.out]; rfl
    · rw [HR.out]; exact HO.out
theorem sub_length {zs : List Int} {p n : Nat} (h : p + n ≤ zs.length) : ((zs.drop p).take n).length = n := by simp; omega
theorem bytesAt_drop {w : World} {b off : Nat} {zs : List Int} (h : BytesAt w (some ⟨b, off, none⟩) zs) (p : Nat) : BytesAt w (some ⟨b, off + p, none⟩) (zs.drop p) := by
  rcases h with rfl | ⟨b', off', e, hc⟩
  · exact Or.inl (by simp)
  · cases e
    refine Or.inr ⟨b, off + p, rfl, fun k hk => ?_⟩
    rw [List.length_drop] at hk
    rw [Nat.add_assoc, hc (p + k) (by omega)]
    simp
set_option maxHeartbeats 4000000 in
theorem sum_any (a : Option Addr) (n cap : Nat) (b : List Int) (w : World) (hn : n = b.length) (hc : n ≤ cap) (hm : n ≤ 140737488355328) (hb : BytesAt w a b) (hbs : Rec.Bs b) (hT : Tab w) (h0 : 0 < w.heap.size) :
    Calls Tryd.prog 23 #[.slice a n cap] w fun e w' => e = .returned (.bool (sumT b)) ∧ Below w.heap.size w w' := by
  by_cases h4 : n < 4
  · have HF : Hid (sumT b = false) := by show _ = _; unfold sumT; rw [← hn]; simp; omega
    clear hb hbs hT
    go_enter Tryd.func23, Tryd.ntmps23
    go_wp2
    go_ret
    exact ⟨by rw [HF.out]; rfl, Below.refl _ _⟩
  · obtain ⟨m, rfl⟩ : ∃ m, n = m + 4 := ⟨n - 4, by omega⟩
    have hne : b ≠ [] := fun e => by rw [e] at hn; simp at hn
    obtain ⟨g, off, rfl⟩ : ∃ g off, a = some ⟨g, off, none⟩ := by
      rcases hb with e | ⟨g, off, e, _⟩
      · exact absurd e hne
      · exact ⟨g, off, e⟩
    have hl : b.length - 4 = m := by omega
    have HX : Hid (sumT b = decide (Rec.val (b.drop m) = Crc.more 0 (b.take m))) := by show _ = _; unfold sumT; rw [hl, decide_eq_true (show 4 ≤ b.length by omega)]; rfl
    have HRD : Hid (Calls Tryd.prog 36 #[.slice (some ⟨g, off + m, none⟩) 4 (cap - m)] w fun e w' => ∃ P H, e = .returned (.pointer (some ⟨P, 0, none⟩)) ∧ w.heap.size ≤ P ∧ w.heap.size ≤ H ∧ Rd w' P H 0 (b.drop m) ∧ Below w.heap.size w w' ∧ H < w'.heap.size ∧ P < w'.heap.size) :=
      read_any _ 4 (cap - m) (b.drop m) w (by rw [List.length_drop]; omega) (bytesAt_drop hb m) (by omega)
    have HBT : Hid (BytesAt w (some ⟨g, off, none⟩) (b.take m)) := bytesAt_take m hb
    have HBS : Hid (Rec.Bs b) := hbs
    have HT : Hid (Tab w) := hT
    have HLD : Hid ((b.drop m).length = 4) := by show _ = _; rw [List.length_drop]; omega
    have HLT : Hid ((b.take m).length = m) := by show _ = _; rw [List.length_take]; omega
    have hcm : ¬ cap = m := by omega
    have hvl : Rec.val (b.drop m) < 4294967296 := by
      have := Rec.val_lt (Rec.bs_drop hbs m)
      rw [HLD.out, Rec.pow4] at this
      exact this
    have hcl : Crc.more 0 (b.take m) < 4294967296 := Crc.more_lt (by decide) (Rec.bs_take hbs m)
    obtain ⟨x, hx⟩ : ∃ x, Rec.val (b.drop m) = x := ⟨_, rfl⟩
    obtain ⟨y, hy⟩ : ∃ y, Crc.more 0 (b.take m) = y := ⟨_, rfl⟩
    rw [hx, hy] at HX
    rw [hx] at hvl
    rw [hy] at hcl
    have HXV : Hid (Rec.val (b.drop m) = x) := hx
    have HYV : Hid (Crc.more 0 (b.take m) = y) := hy
    obtain ⟨r, hr⟩ : ∃ r, sumT b = r := ⟨_, rfl⟩
    rw [hr] at HX ⊢
    clear hn hb hbs hT hne hl hx hy hr h4
    have hm0 : (0 : Int) ≤ (m : Int) := by omega
    go_enter Tryd.func23, Tryd.ntmps23
    go_wp2_with fail
    refine HRD.out.mono ?_
    rintro e w2 ⟨P, H, rfl, hPw, _, hrd, k2, _, _⟩
    have HRD2 : Hid (Rd w2 P H 0 (b.drop m)) := hrd
    have HK2 : Hid (Below w.heap.size w w2) := k2
    have HPW : Hid (w.heap.size ≤ P) := hPw
    clear hrd k2 HRD hPw
    go_wp2_with fail
    refine (rnum_ok P H 0 4 (b.drop m) _ HRD2.out (by decide) (by decide) (by rw [HLD.out]; omega) (by rw [HLD.out]; omega) (Rec.bs_drop HBS.out m)).mono ?_
    rintro e w3 ⟨rfl, _, hg3⟩
    have HK3 : Hid (Below w.heap.size w w3) := HK2.out.grown hg3 HK2.out.size (fun k e => by cases e; exact HPW.out)
    rw [List.take_of_length_le (by rw [HLD.out]; omega), HXV.out]
    have HTB : Hid (Tab w3) := tab_below HK3.out h0 HT.out
    have HOF : Hid (Calls Tryd.prog 35 #[.slice (some ⟨g, off, none⟩) m cap] w3 fun e w' => e = .returned (.int .u32 (y : Nat)) ∧ w' = w3) := by
      have := of_any (some ⟨g, off, none⟩) cap (b.take m) w3 HTB.out (by rw [HLT.out]; simp only [maxLen]; omega) (bytesAt_later HK3.out HBT.out) (Rec.bs_take HBS.out m)
      rw [HLT.out, HYV.out] at this
      exact this
    clear hg3 HRD2 HK2
    go_wp2_with fail
    refine HOF.out.mono ?_
    rintro e w4 ⟨rfl, rfl⟩
    clear HOF
    go_wp2
    go_ret
    exact ⟨by rw [HX.out]; simp [int_beq], HK3.out⟩
end Go.Proofs.YtdngileimmgdnaaDoor

/- append of a slice of one-cell things, whatever lies behind it: from nil on, in place or moved; the block that it is in then. -/
namespace Go.Proofs.YtdngileimmgdnaaDoor
open Go.RowKit

def Here (w : World) (V V' : Value) : Prop := ∀ b, V'.ownBlock = some b → V.ownBlock = some b ∨ w.heap.size ≤ b
theorem run_append_lat (w : World) (t e ty : TypeId) (z : Value) (bts : Nat) (ht : Tryd.prog.underlying t = some (.slice e)) (hin : (Tryd.prog.info? e).map (fun i => (i.zero, i.size, i.bytes)) = some (some z, 1, bts)) (hzc : z.cells.size = 1)
    (B : Nat) (V : Value) (n : Nat) (xs : List Value) (hown : w.ownsRow B e 1 V n xs) (Y : Value) (ys : List Value) (hY : LAt w Y ys) (h1 : ∀ u ∈ ys, u.oneCell' = true)
    (h63 : n + ys.length ≤ maxLen) (hb : ((n + ys.length) + (n + ys.length) / 4 + 192) * bts ≤ 281474976710656) (hB : B ≤ w.heap.size) :
    ∃ V' w', (Builtin.append_ #[t, t] ty #[V, Y]).run Tryd.prog w = .ok V' w' ∧ w'.ownsRow B e 1 V' (n + ys.length) (xs ++ ys) ∧ w.grownBy w' V.ownBlock ∧ (V' = .slice none 0 0 ↔ V = .slice none 0 0 ∧ ys.length = 0) ∧ Here w V V' := by
  obtain ⟨i0, hi, hz0, hz1, hz2⟩ := info_parts hin
  obtain ⟨a, c, rfl, _, _, h3⟩ := hY
  have rf : w.grownBy w V.ownBlock := ⟨rfl, rfl, rfl, Nat.le_refl _, fun _ _ _ => rfl⟩
  by_cases hys : ys = []
  · subst hys
    rcases hown.2 with ⟨rfl, hn0⟩ | ⟨g, cap, cur, rfl, hBg, hg, hc, rest⟩
    · subst hn0
      refine ⟨.slice none 0 0, w, ?_, by simpa using hown, rf, by simp, fun b hb => by simp [Value.ownBlock] at hb⟩
      cases a with
      | none => simp [Builtin.append_, run_underlying ht, sizeOf, typeInfo, hi, Builtin.lenOf, Builtin.firstCells]
      | some ad => simp [Builtin.append_, run_underlying ht, sizeOf, typeInfo, hi, Builtin.lenOf, Builtin.firstCells, loadCells, loadCellsFrom]
    · have hs : Src Tryd.prog i0.size t (.slice a 0 c) 0 [] w := by
        cases a with
        | none => exact Src.ofNil w ht c
        | some ad => exact Src.ofSlice w ht ad 0 c [] (by simp) (fun j u hj => by simp at hj) (fun u hu => by cases hu)
      have hr := run_append_room_src (P := Tryd.prog) w t t ty e i0 ht hi g 0 n cap (.slice a 0 c) 0 [] hs (by omega) (fun j hj => by simp at hj) (fun j hj => by simp at hj)
      exact ⟨_, _, hr, by simpa [World.setCells] using hown, by simpa [World.setCells] using rf, by simp, fun b hb => .inl hb⟩
  · obtain ⟨b, off, rfl, hc⟩ : ∃ b off, a = some ⟨b, off, none⟩ ∧ ∀ k v, ys[k]? = some v → w.cell? ⟨b, off + k, none⟩ = some v := by
      rcases h3 with h3 | h3
      · exact absurd h3 hys
      · exact h3
    have hnews : ∀ j u, ys[j]? = some u → w.cell? ((⟨b, off, none⟩ : Addr).add j) = some u := fun j u hj => by
      rw [Go.WideShapes.add_plain]
      exact hc j u hj
    obtain ⟨V', w', hr, ho, hg, hn⟩ := run_append_own_wide (P := Tryd.prog) w B t ty e i0 z 1 bts ht hi hz0 hz1 hz2 hzc (by decide) V n xs hown ⟨b, off, none⟩ ys.length c ys (by simp) hnews h1 h63 hb hB
    refine ⟨V', w', hr, ho, hg, hn, fun bb hbb => ?_⟩
    rcases hown.2 with ⟨rfl, hn0⟩ | ⟨g, cap, cur, rfl, hBg, hgc, hcc, hm, hcs, htk⟩
    · obtain ⟨V2, w2, hr2, ho2, _⟩ := run_append_own_wide (P := Tryd.prog) w w.heap.size t ty e i0 z 1 bts ht hi hz0 hz1 hz2 hzc (by decide) (.slice none 0 0) n xs ⟨hown.1, .inl ⟨rfl, hn0⟩⟩ ⟨b, off, none⟩ ys.length c ys (by simp) hnews h1 h63 hb (Nat.le_refl _)
      rw [hr] at hr2
      cases hr2
      rcases ho2.2 with ⟨rfl, _⟩ | ⟨g2, cap2, cur2, rfl, hBg2, _⟩
      · simp [Value.ownBlock] at hbb
      · simp [Value.ownBlock] at hbb
        subst hbb
        exact .inr hBg2
    · by_cases hroom : n + ys.length ≤ cap
      · have hr2 := run_append_room (P := Tryd.prog) w t ty e i0 ht hi g n cap cur hgc ⟨b, off, none⟩ ys.length c ys (by rw [hz1]; simp) hnews h1 hroom (by rw [hz1, hcs]; omega)
        rw [hr] at hr2
        cases hr2
        exact .inl hbb
      · have holds : ∀ j u, xs[j]? = some u → w.cell? ((⟨g, 0, none⟩ : Addr).add j) = some u := hown.cells (g := g) rfl
        have hr2 := run_append_grow (P := Tryd.prog) w t ty e i0 z ht hi hz0 ⟨g, 0, none⟩ n cap xs (by rw [hz1]; exact hown.1) holds ⟨b, off, none⟩ ys.length c ys (by rw [hz1]; simp) hnews (by omega) (by simp only [maxLen] at h63; omega) (growslice_fits_wide (by omega) (by rw [hz2]; exact hb))
        rw [hr] at hr2
        cases hr2
        simp [Value.ownBlock] at hbb
        subst hbb
        exact .inr (Nat.le_refl _)
theorem wpList_append_lat {w : World} {ops : Array Oper} {rest : List Oper} {o : Oper} {a : Act} {Q : Exit → Act → World → Prop} (hgd : o.guard = none) (s x : Operand) {t e : TypeId}
    (ho : o.op = .call { callee := .builtin .append, args := #[s, x], argTypes := #[t, t] }) (z : Value) (bts : Nat) (ht : Tryd.prog.underlying t = some (.slice e)) (hin : (Tryd.prog.info? e).map (fun i => (i.zero, i.size, i.bytes)) = some (some z, 1, bts)) (hzc : z.cells.size = 1)
    (B : Nat) (V : Value) (n : Nat) (xs : List Value) (hs : a.eval s = V) (hown : w.ownsRow B e 1 V n xs) (Y : Value) (ys : List Value) (hx : a.eval x = Y) (hY : LAt w Y ys) (h1 : ∀ u ∈ ys, u.oneCell' = true)
    (h63 : n + ys.length ≤ maxLen) (hb : ((n + ys.length) + (n + ys.length) / 4 + 192) * bts ≤ 281474976710656) (hB : B ≤ w.heap.size)
    (h : ∀ V' w', w'.ownsRow B e 1 V' (n + ys.length) (xs ++ ys) → w.grownBy w' V.ownBlock → (V' = .slice none 0 0 ↔ V = .slice none 0 0 ∧ ys.length = 0) → Here w V V' → wpList Tryd.prog ops Q rest (a.put o.dst V') w') : wpList Tryd.prog ops Q (o :: rest) a w := by
  refine wpList_plain hgd fun K hK => ?_
  obtain ⟨V', w', hr, h2, h3, h4, h5⟩ := run_append_lat w t e o.type z bts ht hin hzc B V n xs hown Y ys hY h1 h63 hb hB
  unfold Oper.wp execOp
  simp only [ho, resolve, invoke, builtin, Sem.run_bind, Sem.run_pure, Result.andThen_ok, List.map_toArray, List.map_cons, List.map_nil, hs, hx, hr]
  exact hK _ _ (h V' w' h2 h3 h4 h5)
/-- the things that are appended here -/
theorem infI : (Tryd.prog.info? 3).map (fun i => (i.zero, i.size, i.bytes)) = some (some (.int .i64 0), 1, 8) := by kernel_rfl
theorem infU : (Tryd.prog.info? 27).map (fun i => (i.zero, i.size, i.bytes)) = some (some (.int .u32 0), 1, 4) := by kernel_rfl
theorem infR : (Tryd.prog.info? 41).map (fun i => (i.zero, i.size, i.bytes)) = some (some (.slice none 0 0), 1, 24) := by kernel_rfl
theorem ints_one (r : List Int) : ∀ u ∈ ints r, u.oneCell' = true := fun u hu => by obtain ⟨z, _, rfl⟩ := List.mem_map.1 hu; rfl
theorem u32s_one (r : List Nat) : ∀ u ∈ u32s r, u.oneCell' = true := fun u hu => by obtain ⟨z, _, rfl⟩ := List.mem_map.1 hu; rfl
/-- a slice that was just built of one thing -/
theorem lat_lit (w : World) (v : Value) (t : TypeId) (fr : Nat × Nat) : LAt (w.alloc (.cells #[v] t fr)) (.slice (some ⟨w.heap.size, 0, none⟩) 1 1) [v] := by
  refine ⟨_, 1, rfl, Nat.le_refl _, by omega, .inr ⟨w.heap.size, 0, rfl, fun k x hx => ?_⟩⟩
  rw [World.cell?_alloc_mark]
  simpa using hx
/-- what is owned is read so -/
theorem owns_lat {w : World} {B : Nat} {e : TypeId} {V : Value} {n : Nat} {xs : List Value} (h : w.ownsRow B e 1 V n xs): LAt w V xs := by
  have hl : xs.length = n := by have := h.1; omega
  rcases h.2 with ⟨rfl, h0⟩ | ⟨g, cap, cur, rfl, hBg, hg, h1, h2, h3, h4⟩
  · exact ⟨none, 0, by rw [hl, h0], by omega, by omega, .inl (List.eq_nil_of_length_eq_zero (by omega))⟩
  · refine ⟨some ⟨g, 0, none⟩, cap, by rw [hl], by omega, by simp only [maxLen] at h2; omega, .inr ⟨g, 0, rfl, fun k v hv => ?_⟩⟩
    have hk : k < n := by have := (List.getElem?_eq_some_iff.1 hv).1; omega
    have := h.cellAt k (by omega)
    rw [Nat.zero_add, this]
    exact hv
end Go.Proofs.YtdngileimmgdnaaDoor

/- Plain mathematics of spoilt images: the sum is right just if the run over all bytes ends in one word; bursts, cuts and more bytes. -/
namespace Go.Proofs.YtdngileimmgdnaaDoor

theorem split256 (w : Nat) : w = (256 * (w / 256)) ^^^ (w % 256) := by
  apply Nat.eq_of_testBit_eq
  intro j
  have hlt : w % 256 < 2 ^ 8 := Nat.mod_lt _ (by decide)
  have h1 := Nat.testBit_two_pow_mul_add (w / 256) hlt j
  have h2 : 2 ^ 8 * (w / 256) + w % 256 = w := by omega
  rw [h2] at h1
  rw [Nat.testBit_xor, h1, show 256 * (w / 256) = 2 ^ 8 * (w / 256) from rfl, Nat.testBit_two_pow_mul]
  by_cases hj : j < 8
  · have hj' : ¬ 8 ≤ j := by omega
    simp [hj, hj']
  · have : (w % 256).testBit j = false := Nat.testBit_lt_two_pow (Nat.lt_of_lt_of_le hlt (Nat.pow_le_pow_right (by decide) (by omega)))
    simp [hj, this]
    omega
theorem it_256 (q : Nat) : Crc.it 8 (256 * q) = q := by
  simp only [Crc.it]
  rw [show 256 * q = 2 * (2 * (2 * (2 * (2 * (2 * (2 * (2 * q))))))) from by omega]
  simp only [Crc.st_two]
theorem run_num (n : Nat) : ∀ (w v : Nat), v < 256 ^ n → Crc.run w (Rec.num v n) = Crc.it (8 * n) (w ^^^ v) := by
  induction n with
  | zero =>
    intro w v hv
    have : v = 0 := by simp at hv; exact hv
    subst this
    simp [Rec.num, Crc.run_nil, Crc.it]
  | succ k ih =>
    intro w v hv
    rw [Nat.pow_succ] at hv
    rw [Rec.num_cons, Crc.run_cons, Int.toNat_natCast, ih _ _ (by omega), Crc.up_eq]
    have e : Crc.it 8 (w ^^^ v % 256) ^^^ v / 256 = Crc.it 8 (w ^^^ v) := by
      conv => rhs; rw [split256 v, Nat.xor_comm (256 * (v / 256)), ← Nat.xor_assoc, Crc.it_xor, it_256]
    rw [e, ← Crc.it_add]
    congr 1
    omega
theorem it_inj {n x y : Nat} (hx : x < 4294967296) (hy : y < 4294967296) (h : Crc.it n x = Crc.it n y) : x = y := by
  have e : Crc.it n (x ^^^ y) = 0 := by rw [Crc.it_xor, h, Nat.xor_self]
  exact Crc.xor_eq_zero (Crc.it_eq_zero n (Crc.xor_lt hx hy) e)
/-- THE SUM IS RIGHT -/
theorem sum_run {b : List Int} (hb : Rec.Bs b) (h4 : 4 ≤ b.length) : sumT b = true ↔ Crc.run 4294967295 b = Crc.it 32 4294967295 := by
  have hF : Rec.Bs (b.take (b.length - 4)) := Rec.bs_take hb _
  have hl : (b.drop (b.length - 4)).length = 4 := by rw [List.length_drop]; omega
  have hv : Rec.val (b.drop (b.length - 4)) < 4294967296 := by
    have := Rec.val_lt (Rec.bs_drop hb (b.length - 4))
    rwa [hl, Rec.pow4] at this
  have hR : Crc.run 4294967295 (b.take (b.length - 4)) < 4294967296 := Crc.run_lt (by decide) hF
  have e : b = b.take (b.length - 4) ++ Rec.num (Rec.val (b.drop (b.length - 4))) 4 := by
    have := num_val (Rec.bs_drop hb (b.length - 4))
    rw [hl] at this
    rw [this, List.take_append_drop]
  have e2 : Crc.run 4294967295 b = Crc.it 32 (Crc.run 4294967295 (b.take (b.length - 4)) ^^^ Rec.val (b.drop (b.length - 4))) := by
    conv => lhs; rw [e, Crc.run_append, run_num 4 _ _ (by rw [Rec.pow4]; exact hv)]
  have em : Crc.more 0 (b.take (b.length - 4)) = Crc.run 4294967295 (b.take (b.length - 4)) ^^^ 4294967295 := by unfold Crc.more; rw [Nat.zero_xor]
  unfold sumT
  rw [e2, em, decide_eq_true h4, Bool.true_and, decide_eq_true_eq]
  generalize Crc.run 4294967295 (b.take (b.length - 4)) = R at *
  generalize Rec.val (b.drop (b.length - 4)) = V at *
  constructor
  · intro h
    rw [h, Crc.xcan]
  · intro h
    have := it_inj (Crc.xor_lt hR hv) (by decide) h
    rw [← this, Crc.xcan]
theorem burst_bad {zb ys : List Int} {n a M : Nat} (hz : Rec.Bs zb) (hy : Rec.Bs ys) (lz : zb.length = n) (ly : ys.length = n) (h4 : 4 ≤ n) (hM : M ≠ 0) (hM2 : M < 4294967296) (hs : sumT zb = true) (hR : Crc.run 4294967295 ys = Crc.run 4294967295 zb ^^^ Crc.it (8 * n - a) M) : okT ys = false := by
  have h1 := (sum_run hz (by omega)).1 hs
  unfold okT
  cases h2 : sumT ys
  · rfl
  · exfalso
    have h3 := (sum_run hy (by omega)).1 h2
    rw [h3, h1] at hR
    refine hM (Crc.it_eq_zero (8 * n - a) hM2 ?_)
    have := congrArg (Crc.it 32 4294967295 ^^^ ·) hR
    simpa [Crc.xcan] using this.symm
theorem vl_take {xs zs : List Int} {p n k : Nat} (h : p + n ≤ k) (e : xs.take k = zs.take k) : vl xs p n = vl zs p n := by
  have key : ∀ l : List Int, (l.drop p).take n = ((l.take k).drop p).take n := fun l => by
    rw [List.drop_take, List.take_take]
    congr 1
    omega
  unfold vl
  rw [key xs, key zs, e]
theorem front_bad {d : Dt} (h : Fits d) {zs : List Int} (e : zs.take 14 = (bodyB d).take 14) (hl : zs.length ≠ (bodyB d).length) : wholeT zs = false := by
  cases hw : wholeT zs
  · rfl
  · exfalso
    obtain ⟨_, _, _, h4⟩ := whole_parts hw
    have e1 : rdS zs = d.S := (vl_take (p := 8) (n := 4) (by omega) e).trans h.rdS
    have e2 : rdC zs = d.C := (vl_take (p := 12) (n := 2) (by omega) e).trans h.rdC
    rw [e1, show rdL zs = 8 + 2 * d.C by unfold rdL; rw [e2]] at h4
    rw [h.bodyB_len] at hl
    omega
theorem img_len4 (d : Dt) : (imgT d).length = (bodyB d).length + 4 := by unfold imgT sumB; rw [List.length_append, Rec.num_length]
theorem img_take (d : Dt) {k : Nat} (h : k ≤ (bodyB d).length) : (imgT d).take k = (bodyB d).take k := by unfold imgT; exact List.take_append_of_le_length h
theorem cut_bad {d : Dt} (h : Fits d) {n : Nat} (hn : n < (imgT d).length) : okT ((imgT d).take n) = false := by
  have hL := img_len4 d
  have hB := h.bodyB_len
  have hl : ((imgT d).take n).length = n := by rw [List.length_take]; omega
  unfold okT
  cases hs : sumT ((imgT d).take n)
  · rfl
  rw [hl, List.take_take, Nat.min_eq_left (by omega), img_take d (by omega)]
  have hw : wholeT ((bodyB d).take (n - 4)) = false := by
    by_cases h14 : 14 ≤ n - 4
    · refine front_bad h ?_ ?_
      · rw [List.take_take, Nat.min_eq_left h14]
      · rw [List.length_take]; omega
    · cases hw : wholeT ((bodyB d).take (n - 4))
      · rfl
      · exfalso
        have := (whole_parts hw).2.2.2
        rw [List.length_take] at this
        omega
  rw [hw]
  rfl
theorem more_bad {d : Dt} (h : Fits d) {zs : List Int} (hz : zs ≠ []) : okT (imgT d ++ zs) = false := by
  have hL := img_len4 d
  have hB := h.bodyB_len
  have h1 : 1 ≤ zs.length := by cases zs with
    | nil => exact absurd rfl hz
    | cons x l => simp
  have hl : (imgT d ++ zs).length = (imgT d).length + zs.length := List.length_append
  unfold okT
  have hw : wholeT ((imgT d ++ zs).take ((imgT d ++ zs).length - 4)) = false := by
    refine front_bad h ?_ ?_
    · rw [List.take_take, Nat.min_eq_left (by omega), List.take_append_of_le_length (by omega), img_take d (by omega)]
    · rw [List.length_take]; omega
  rw [hw]
  simp
end Go.Proofs.YtdngileimmgdnaaDoor

/- heronlaw12.one: the table of the chapter's first example. -/
namespace Go.Proofs.YtdngileimmgdnaaDoor
open Go.RowKit
attribute [local go_sem ↓] Go.wp_at_zero Go.wp_at_succ

def oneT : Dt := ⟨fun _ => 0, [[0]], [1], [1]⟩
set_option maxRecDepth 20000 in
theorem built3 (a1 a2 a3 : Option Addr) (n1 c1 n2 c2 n3 c3 : Nat) (w : World) : (Instr.build 26 #[(1, .slice a1 n1 c1), (2, .slice a2 n2 c2), (3, .slice a3 n3 c3)]).run Tryd.prog w = .ok (.agg (dv (fun _ => 0) (.slice a1 n1 c1) (.slice a2 n2 c2) (.slice a3 n3 c3))) w := run_build w _ _ _ (by kernel_rfl)
theorem wpList_build_three {ops : Array Oper} {rest : List Oper} {o : Oper} {a : Act} {w : World} {Q : Exit → Act → World → Prop} (hgd : o.guard = none) (x y z : Operand) (ho : o.op = .build 26 #[(1, x), (2, y), (3, z)]) {a1 a2 a3 : Option Addr} {n1 c1 n2 c2 n3 c3 : Nat} (hx : a.eval x = .slice a1 n1 c1) (hy : a.eval y = .slice a2 n2 c2) (hz : a.eval z = .slice a3 n3 c3)
    (hk : wpList Tryd.prog ops Q rest (a.put o.dst (.agg (dv (fun _ => 0) (.slice a1 n1 c1) (.slice a2 n2 c2) (.slice a3 n3 c3)))) w) : wpList Tryd.prog ops Q (o :: rest) a w := by
  refine wpList_plain hgd fun K hK => ?_
  unfold Oper.wp execOp
  simp only [ho, List.map_toArray, List.map_cons, List.map_nil, hx, hy, hz, Sem.run_bind, built3]
  exact hK _ _ hk
theorem results_dfa1 {fn : Func} {p : Tmp} (h : fn.results = #[.cell p 26]) (tmps : Array Value) (w : World) {D : Nat} {f : Nat → Int} {V1 V2 V3 : Value} (hA : DB w D f V1 V2 V3) (hp : tmps.getD p undef = .pointer (some ⟨D, 0, none⟩)) :
    (results fn tmps).run Tryd.prog w = .ok (.agg (dv f V1 V2 V3)) w := by
  have hp' : tmps[p]?.getD undef = .pointer (some ⟨D, 0, none⟩) := by simpa using hp
  obtain ⟨fs, hu⟩ := underD
  have hl := run_loadVar_row w D _ _ _ (0, 0) _ hA hu rfl (by rw [dv_size]; exact sizeD)
  simp [results, h, hp', asAddr, hl]
theorem lat_one {w : World} {b : Nat} {v : Value} {t : TypeId} (h : w.heap[b]? = some (.cells #[v] t (0, 0))) : LAt w (.slice (some ⟨b, 0, none⟩) 1 1) [v] := by
  refine ⟨_, _, rfl, Nat.le_refl _, by simp, .inr ⟨b, 0, rfl, fun k x hx => ?_⟩⟩
  cases k with
  | zero => simp at hx; subst hx; simp [World.cell?, h]
  | succ k => simp at hx
/-- A table of the call's own, as it is answered. -/
def OnePost (w : World) (v : Value) (w' : World) : Prop := ∃ V1 V2 V3 Us, v = .agg (dv (fun _ => 0) V1 V2 V3) ∧ DfAt w' oneT V1 V2 V3 Us ∧ Below w.heap.size w w'
set_option maxRecDepth 20000 in
set_option maxHeartbeats 4000000 in
theorem one_any (w : World) : Calls Tryd.prog 9 #[] w fun e w' => ∃ v, e = .returned v ∧ OnePost w v w' := by
  obtain ⟨A, hA⟩ : ∃ A, w.heap.size = A := ⟨_, rfl⟩
  obtain ⟨w1, hw1⟩ : ∃ w1, w.alloc (.cells (dv (fun _ => 0) nilV nilV nilV) 26) = w1 := ⟨_, rfl⟩
  have k1 : Below w.heap.size w w1 := by rw [← hw1]; exact (Below.refl _ _).alloc (Nat.le_refl _) _
  have d1 : DB w1 A (fun _ => 0) nilV nilV nilV := by rw [← hw1, ← hA]; exact db_new w _ _ _ _
  have HW1 : Hid (w.alloc (.cells (dv (fun _ => 0) nilV nilV nilV) 26) = w1) := hw1
  have HAA : Hid (w.heap.size = A) := hA
  have HK1 : Hid (Below w.heap.size w w1) := k1
  have HD1 : Hid (DB w1 A (fun _ => 0) nilV nilV nilV) := d1
  clear hA hw1 k1 d1
  have hz := zeroDfa
  go_enter Tryd.func9, Tryd.ntmps9
  go_upto_region 1 with fail
  rw [HW1.out, HAA.out]
  clear HW1 hz
  have HBL : Hid (∀ o1 o2 o3 o4 : Obj, Below w1.heap.size w1 ((((w1.alloc o1).alloc o2).alloc o3).alloc o4)) := fun o1 o2 o3 o4 => ((((Below.refl _ _).alloc (Nat.le_refl _) _).alloc (by simp) _).alloc (by simp; omega) _).alloc (by simp; omega) _
  go_wp2_with (first
    | refine wpList_build_three rfl (.tmp 2) (.tmp 3) (.tmp 4) rfl rfl rfl rfl ?_
    | refine wpList_store_dfa rfl (.tmp 0) (.tmp 5) rfl (HD1.out.later (HBL.out _ _ _ _)) ⟨rfl, rfl, rfl⟩ rfl rfl ?_)
  refine bodyPost_ret (results_dfa1 rfl _ _ ((HD1.out.later (HBL.out _ _ _ _)).row _ _ _ _) rfl) rfl ⟨_, rfl, ?_⟩
  have hAw : A < w1.heap.size := HD1.out.lt
  obtain ⟨N, hN⟩ : ∃ N, w1.heap.size = N := ⟨_, rfl⟩
  rw [hN] at hAw ⊢
  have z1 : ∀ o1 : Obj, (w1.alloc o1).heap.size = N + 1 := fun _ => by simp [hN]
  have z2 : ∀ o1 o2 : Obj, ((w1.alloc o1).alloc o2).heap.size = N + 1 + 1 := fun _ _ => by simp [hN]
  have z3 : ∀ o1 o2 o3 : Obj, (((w1.alloc o1).alloc o2).alloc o3).heap.size = N + 1 + 1 + 1 := fun _ _ _ => by simp [hN]
  have e1 : ∀ o1 o2 o3 o4 : Obj, ((((w1.alloc o1).alloc o2).alloc o3).alloc o4).heap[N]? = some o1 := fun o1 o2 o3 o4 => by
    rw [Below.heap_alloc _ _ _ (by rw [z3]; omega), Below.heap_alloc _ _ _ (by rw [z2]; omega), Below.heap_alloc _ _ _ (by rw [z1]; omega), ← hN]
    exact heap_alloc_new _ _
  have e2 : ∀ o1 o2 o3 o4 : Obj, ((((w1.alloc o1).alloc o2).alloc o3).alloc o4).heap[N + 1]? = some o2 := fun o1 o2 o3 o4 => by
    rw [Below.heap_alloc _ _ _ (by rw [z3]; omega), Below.heap_alloc _ _ _ (by rw [z2]; omega), ← z1 o1]
    exact heap_alloc_new _ _
  have e3 : ∀ o1 o2 o3 o4 : Obj, ((((w1.alloc o1).alloc o2).alloc o3).alloc o4).heap[N + 1 + 1]? = some o3 := fun o1 o2 o3 o4 => by
    rw [Below.heap_alloc _ _ _ (by rw [z3]; omega), ← z2 o1 o2]
    exact heap_alloc_new _ _
  have e4 : ∀ o1 o2 o3 o4 : Obj, ((((w1.alloc o1).alloc o2).alloc o3).alloc o4).heap[N + 1 + 1 + 1]? = some o4 := fun o1 o2 o3 o4 => by
    rw [← z3 o1 o2 o3]
    exact heap_alloc_new _ _
  refine ⟨_, _, _, [.slice (some ⟨N, 0, none⟩) 1 1], rfl, ⟨lat_one (by rw [heap_row _ _ _ _ (by omega), e2]), rfl, ?_, lat_one (v := .int .u32 1) (by rw [heap_row _ _ _ _ (by omega), e3]), lat_one (v := .int .u32 1) (by rw [heap_row _ _ _ _ (by omega), e4]), by simp [oneT], by simp [oneT]⟩, below_row (below_step HK1.out (HBL.out _ _ _ _)) (by have := HAA.out; omega) _⟩
  intro s U hU
  cases s with
  | zero =>
    simp at hU
    subst hU
    exact lat_one (v := .int .i64 0) (by rw [heap_row _ _ _ _ (by omega), e1])
  | succ s => simp at hU
end Go.Proofs.YtdngileimmgdnaaDoor

/- Laid by ext.py: what this seat takes of stages 4 and 7. -/
namespace Go.Proofs.YtdngileimmgdnaaDoor
open Go.RowKit
attribute [local go_sem ↓] Go.wp_at_zero Go.wp_at_succ
section
variable {P : Program} {ops : Array Oper} {md : Region.Mode} {Q : Exit → Act → World → Prop}
/-- **EACH OPERATION ONCE.** -/
theorem wpAny_each (Fr : Act → World → Prop) (G : Nat → Act → World → Prop)
    (hwf : ∀ i o e, ops[i]? = some o → e ∈ o.after → Region.binds md e = true → e.on < i)
    (hstep : ∀ i o, ops[i]? = some o → ∀ a w, Fr a w → (∀ e ∈ o.after, Region.binds md e = true → G e.on a w) → wpOp P ops Q i (fun a' w' => Fr a' w' ∧ G i a' w' ∧ ∀ j, j ≠ i → G j a w → G j a' w') a w)
    (hend : ∀ a w, Fr a w → (∀ i, i < ops.size → G i a w) → Q .normal a w) :
    ∀ (fuel : Nat) (listed : Array Bool) (a : Act) (w : World), listed.size = ops.size → left ops listed ≤ fuel → Fr a w → (∀ i, i < ops.size → listed.getD i true = true → G i a w) → wpAny P md ops Q fuel listed a w := by
  intro fuel
  induction fuel with
  | zero =>
    intro listed a w hsz hl hf hg
    have hall := left_zero (Nat.le_zero.1 hl)
    refine ⟨?_, hend a w hf (fun i hi => hg i hi (hall i hi))⟩
    apply List.eq_nil_iff_forall_not_mem.2
    intro i hi
    obtain ⟨h0, o, ho, _⟩ := mem_ready.1 hi
    have hlt := (Array.getElem?_eq_some_iff.1 ho).1
    rw [hall i hlt] at h0
    cases h0
  | succ fuel ih =>
    intro listed a w hsz hl hf hg
    refine ⟨fun h => hend a w hf (fun i hi => hg i hi (all_of_ready hwf hsz h i hi)), fun i hi => ?_⟩
    obtain ⟨h0, o, ho, hafter⟩ := mem_ready.1 hi
    have hlt := (Array.getElem?_eq_some_iff.1 ho).1
    refine wpOp_mono (fun a' w' h => ?_) (hstep i o ho a w hf (fun e he hb => ?_))
    · obtain ⟨h1, h2, h3⟩ := h
      refine ih _ a' w' (by simpa using hsz) (by have := left_set hlt h0 hsz; omega) h1 (fun j hj hlj => ?_)
      by_cases e : j = i
      · subst e; exact h2
      · rw [getD_set_ne true (Ne.symm e)] at hlj
        exact h3 j e (hg j hj hlj)
    · have h4 := hafter e he hb
      have h5 := hwf i o e ho he hb
      refine hg e.on (by omega) ?_
      have hs : e.on < listed.size := by omega
      simp [hs] at h4 ⊢
      exact h4
theorem wp_region_each {id : Nat} {a : Act} {w : World} (hm : P.follows .mixedOrders = true) (Fr : Act → World → Prop) (G : Nat → Act → World → Prop)
    (hwf : ∀ i o e, ops[i]? = some o → e ∈ o.after → Region.binds .any e = true → e.on < i)
    (hstep : ∀ i o, ops[i]? = some o → ∀ a w, Fr a w → (∀ e ∈ o.after, Region.binds .any e = true → G e.on a w) → wpOp P ops Q i (fun a' w' => Fr a' w' ∧ G i a' w' ∧ ∀ j, j ≠ i → G j a w → G j a' w') a w)
    (hend : ∀ a w, Fr a w → (∀ i, i < ops.size → G i a w) → Q .normal a w)
    (h0 : Fr a w.drew) : (Code.region id ops true).wp P Q a w := by
  refine wp_region_any hm (wpAny_each Fr G hwf hstep hend ops.size _ a _ (by simp) ?_ h0 (fun i hi h => ?_))
  · unfold left
    have := List.length_filter_le (fun i => !(Array.replicate ops.size false).getD i true) (List.range ops.size)
    simpa using this
  · simp [hi] at h
end
section
variable {P : Program} {ops : Array Oper} {Q : Exit → Act → World → Prop}
/-- an operation that yields a value -/
theorem ob_value {o : Oper} {a : Act} {w w' : World} {R : Value → World → Prop} {v : Value} (h : (execOp a.eval o).run P w = .ok (.value v) w') (hb : Below w.heap.size w w') (hR : R v w') : o.wp P a w (Leaves R o a w) Q := by
  unfold Oper.wp
  rw [h]
  exact ⟨v, rfl, hb, hR⟩
/-- a call by its contract -/
theorem ob_enter {o : Oper} {a : Act} {w : World} {R : Value → World → Prop} {f : FuncId} {args : Array Value} (h : (execOp a.eval o).run P w = .ok (.enter f args) w) (hc : Calls P f args w fun e w' => ∃ v, e = .returned v ∧ Below w.heap.size w w' ∧ R v w') : o.wp P a w (Leaves R o a w) Q := by
  unfold Oper.wp
  rw [h]
  refine hc.mono ?_
  rintro e w' ⟨v, rfl, hb, hR⟩
  exact ⟨v, rfl, hb, hR⟩
end
section
variable {P : Program} {ops : Array Oper} {Q : Exit → Act → World → Prop}
theorem wp_region_slots {id : Nat} {a : Act} {w0 : World} (hm : P.follows .mixedOrders = true) (D : Nat → Nat) (R : Nat → Value → World → Prop) (F0 : Act → Prop)
    (hup : ∀ i v w w', R i v w → Below w.heap.size w w' → R i v w')
    (hF0 : ∀ a i v, i < ops.size → F0 a → F0 (a.put (some (D i)) v)) (hsz : ∀ a i, i < ops.size → F0 a → D i < a.tmps.size)
    (hinj : ∀ i j, i < ops.size → j < ops.size → D i = D j → i = j)
    (hduty : AllFrom (Duty P ops w0 D R F0) 0 ops.toList)
    (hend : ∀ a w, F0 a → Below w0.heap.size w0 w → (∀ i, i < ops.size → R i (T a (D i)) w) → Q .normal a w)
    (h0 : F0 a) : (Code.region id ops true).wp P Q a w0 := by
  have hd : ∀ i o, ops[i]? = some o → Duty P ops w0 D R F0 i o := fun i o ho => by
    have := allFrom_at hduty i o (by simpa using ho)
    rwa [Nat.zero_add] at this
  refine wp_region_each hm (fun a w => F0 a ∧ Below w0.heap.size w0 w) (fun i a w => i < ops.size → R i (T a (D i)) w) (fun i o e ho he _ => (hd i o ho).2.1 e he) (fun i o ho a w hf hg => ?_) (fun a w hf hg => hend a w hf.1 hf.2 (fun i hi => hg i hi hi)) ⟨h0, (Below.refl _ _).drew⟩
  obtain ⟨hdst, hlt, hst⟩ := hd i o ho
  have hi := (Array.getElem?_eq_some_iff.1 ho).1
  obtain ⟨hw, hn⟩ := hst a w hf.1 hf.2 (fun e he hb => hg e he hb (Nat.lt_trans (hlt e he) hi))
  have hs := hsz a i hi hf.1
  unfold wpOp
  simp only [ho]
  split
  · rename_i hwt
    refine .inl (Oper.wp_mono (fun a' w' h => ?_) (hw hwt Q))
    obtain ⟨v, rfl, hb, hr⟩ := h
    rw [hdst]
    refine ⟨⟨hF0 a i v hi hf.1, below_step hf.2 hb⟩, fun _ => ?_, fun j hj hgj hjs => ?_⟩
    · show R i _ _
      unfold T
      rw [put_same hs]
      exact hr
    · show R j _ _
      unfold T
      rw [put_other (fun e => hj (hinj i j hi hjs e).symm)]
      exact hup j _ _ _ (hgj hjs) hb
  · rename_i hwt
    rw [hdst]
    refine ⟨⟨hF0 a i undef hi hf.1, hf.2⟩, fun _ => ?_, fun j hj hgj hjs => ?_⟩
    · show R i _ _
      unfold T
      rw [put_same hs]
      exact hn (by simpa using hwt)
    · show R j _ _
      unfold T
      rw [put_other (fun e => hj (hinj i j hi hjs e).symm)]
      exact hgj hjs
theorem T_lt {a : Act} {k : Nat} {b : Bool} (h : T a k = .bool b) : a.tmps[k]? = some (.bool b) := by
  unfold T at h
  cases e : a.tmps[k]? with
  | none => rw [e] at h; exact absurd h (by simp [undef])
  | some v => rw [e] at h; simp at h; rw [h]
theorem wanted_met {o : Oper} {a : Act} {j d : Nat} {b : Bool} (h : o.guard = some (j, b)) (hd : (ops[j]?).bind (·.dst) = some d) (hT : T a d = .bool b) : Region.wanted o (yielded ops a.tmps) = true := by
  unfold Region.wanted
  rw [h]
  simp [yielded, hd, T_lt hT]
variable {w0 : World} {D : Nat → Nat} {R : Nat → Value → World → Prop} {F0 : Act → Prop} {i : Nat} {o : Oper}
theorem duty_free (hd : o.dst = some (D i)) (ha : ∀ e ∈ o.after, e.on < i) (hg : o.guard = none)
    (h : ∀ a w, F0 a → Below w0.heap.size w0 w → (∀ e ∈ o.after, Region.binds .any e = true → R e.on (T a (D e.on)) w) → ∀ Q, o.wp P a w (Leaves (R i) o a w) Q) : Duty P ops w0 D R F0 i o :=
  ⟨hd, ha, fun a w hF hB hE => ⟨fun _ => h a w hF hB hE, fun hw => by rw [wanted_free hg] at hw; cases hw⟩⟩
theorem duty_met {j : Nat} {b : Bool} (hd : o.dst = some (D i)) (ha : ∀ e ∈ o.after, e.on < i) (hg : o.guard = some (j, b)) (hj : (ops[j]?).bind (·.dst) = some (D j)) (he : ⟨j, .guard⟩ ∈ o.after) (hR : ∀ v w, R j v w → v = .bool b)
    (h : ∀ a w, F0 a → Below w0.heap.size w0 w → (∀ e ∈ o.after, Region.binds .any e = true → R e.on (T a (D e.on)) w) → ∀ Q, o.wp P a w (Leaves (R i) o a w) Q) : Duty P ops w0 D R F0 i o :=
  ⟨hd, ha, fun a w hF hB hE => ⟨fun _ => h a w hF hB hE, fun hw => by rw [wanted_met hg hj (hR _ _ (hE _ he rfl))] at hw; cases hw⟩⟩
variable {a : Act} {w : World} {r : Value → World → Prop}
/-- a function with a body -/
def Enters (f : Nat) : Prop := ∀ (args : Array Value) (w : World), (callFunc f args).run Tryd.prog w = .ok (.enter f args) w
theorem ob_call1 {p f : Nat} {ts : Array TypeId} (ho : o.op = .call { callee := .value (.func f), args := #[.tmp p], argTypes := ts }) (hf : Enters f) {v : Value} (hx : T a p = v) (hc : Calls Tryd.prog f #[v] w fun e w' => ∃ v, e = .returned v ∧ Below w.heap.size w w' ∧ r v w') : o.wp Tryd.prog a w (Leaves r o a w) Q := by
  obtain ⟨dst, op, type, pos, after, guard⟩ := o
  simp only at ho
  subst ho
  refine ob_enter (args := #[v]) ?_ hc
  simp [Act.eval, hx, go_sem]
  exact hf _ _
theorem ob_call2 {p q f : Nat} {ts : Array TypeId} (ho : o.op = .call { callee := .value (.func f), args := #[.tmp p, .tmp q], argTypes := ts }) (hf : Enters f) {v u : Value} (hx : T a p = v) (hy : T a q = u) (hc : Calls Tryd.prog f #[v, u] w fun e w' => ∃ v, e = .returned v ∧ Below w.heap.size w w' ∧ r v w') : o.wp Tryd.prog a w (Leaves r o a w) Q := by
  obtain ⟨dst, op, type, pos, after, guard⟩ := o
  simp only at ho
  subst ho
  refine ob_enter (args := #[v, u]) ?_ hc
  simp [Act.eval, hx, hy, go_sem]
  exact hf _ _
theorem ob_move {p : Nat} {v : Value} (ho : o.op = .move (.tmp p)) (hx : T a p = v) (hr : r v w) : o.wp Tryd.prog a w (Leaves r o a w) Q := by
  obtain ⟨dst, op, type, pos, after, guard⟩ := o
  simp only at ho
  subst ho
  refine ob_value (v := v) (w' := w) ?_ (Below.refl _ _) hr
  simp [execOp, Act.eval, hx, go_sem]
theorem ob_assign {p : Nat} {v : Value} (ho : o.op = .assign (.tmp p)) (hx : T a p = v) (hr : r v w) : o.wp Tryd.prog a w (Leaves r o a w) Q := by
  obtain ⟨dst, op, type, pos, after, guard⟩ := o
  simp only at ho
  subst ho
  refine ob_value (v := v) (w' := w) ?_ (Below.refl _ _) hr
  simp [execOp, Act.eval, hx, go_sem]
theorem ob_pick_or {p q : Nat} {x : Value} {v : Value} (ho : o.op = .pick (.tmp p) (.const x) (.tmp q)) (hx : T a p = .bool false) (hy : T a q = v) (hr : r v w) : o.wp Tryd.prog a w (Leaves r o a w) Q := by
  obtain ⟨dst, op, type, pos, after, guard⟩ := o
  simp only at ho
  subst ho
  refine ob_value (v := v) (w' := w) ?_ (Below.refl _ _) hr
  simp [execOp, Act.eval, hx, hy, go_sem]
theorem ob_pick_and {p q : Nat} {x : Value} {v : Value} (ho : o.op = .pick (.tmp p) (.tmp q) (.const x)) (hx : T a p = .bool true) (hy : T a q = v) (hr : r v w) : o.wp Tryd.prog a w (Leaves r o a w) Q := by
  obtain ⟨dst, op, type, pos, after, guard⟩ := o
  simp only at ho
  subst ho
  refine ob_value (v := v) (w' := w) ?_ (Below.refl _ _) hr
  simp [execOp, Act.eval, hx, hy, go_sem]
end
/-- THE FRAME OF THE READER's METHODS: all stands but the reader's block and, from a place on, blocks of numbers. -/
structure Fr (b0 B : Nat) (w w' : World) : Prop where
  os : w'.os = w.os
  tape : w'.tape = w.tape
  output : w'.output = w.output
  size : w.heap.size ≤ w'.heap.size
  block : ∀ k, k < w.heap.size → k ≠ B → (b0 ≤ k → ¬ TyB w 3 k) → w'.heap[k]? = w.heap[k]?
section
variable {b0 B : Nat} {w u w' : World}
theorem Fr.refl (b0 B : Nat) (w : World) : Fr b0 B w w := ⟨rfl, rfl, rfl, Nat.le_refl _, fun _ _ _ _ => rfl⟩
end
end Go.Proofs.YtdngileimmgdnaaDoor
