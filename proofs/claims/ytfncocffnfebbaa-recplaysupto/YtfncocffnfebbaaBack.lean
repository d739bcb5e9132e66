/- The walk of heronlaw02.RecBack: whatever is laid, one behind the other, is taken out again; of all the bytes but the last one the last item that has a byte is not to be had. -/
import Derived.Test.YtfncocffnfebbaaTaken
namespace Go.Proofs.Ytfncocffnfebbaa
open Go.RowKit
attribute [local go_sem ↓] Go.wp_at_zero Go.wp_at_succ

/-- ITEMS OF A SLICE: there are none, or they lie from the address on, four cells each. -/
def ItemsAt (w : World) (a : Option Addr) (its : List It) : Prop :=
  its = [] ∨ ∃ b off, a = some ⟨b, off, none⟩ ∧ ∀ k it, its[k]? = some it →
    w.cell? ⟨b, off + k * 4, none⟩ = some (.int .i64 it.k) ∧ w.cell? ⟨b, off + k * 4 + 1, none⟩ = some (.int .i64 it.n) ∧ w.cell? ⟨b, off + k * 4 + 2, none⟩ = some (.int .u64 it.x) ∧ w.cell? ⟨b, off + k * 4 + 3, none⟩ = some (.string it.s)
theorem itemsAt_cells {w w' : World} {a : Option Addr} {its : List It} (h : ItemsAt w a its) (hb : Below w.heap.size w w') {k : Nat} {it : It} (hk : its[k]? = some it) :
    ∃ b off, a = some ⟨b, off, none⟩ ∧ w'.cell? ⟨b, off + k * 4, none⟩ = some (.int .i64 it.k) ∧ w'.cell? ⟨b, off + k * 4 + 1, none⟩ = some (.int .i64 it.n) ∧ w'.cell? ⟨b, off + k * 4 + 2, none⟩ = some (.int .u64 it.x) ∧ w'.cell? ⟨b, off + k * 4 + 3, none⟩ = some (.string it.s) := by
  rcases h with rfl | ⟨b, off, rfl, hc⟩
  · simp at hk
  · obtain ⟨h0, h1, h2, h3⟩ := hc k it hk
    have hlt : b < w.heap.size := World.block_lt_of_cell? w _ h0
    exact ⟨b, off, rfl, (hb.cell (p := ⟨b, _, none⟩) hlt).trans h0, (hb.cell (p := ⟨b, _, none⟩) hlt).trans h1, (hb.cell (p := ⟨b, _, none⟩) hlt).trans h2, (hb.cell (p := ⟨b, _, none⟩) hlt).trans h3⟩

/-- the last item that has a byte -/
def LastOf (ps : List It) (l : Int) : Prop := (l = -1 ∧ cat ps = []) ∨ ∃ (pre : List It) (it : It) (post : List It), ps = pre ++ it :: post ∧ l = (pre.length : Int) ∧ it.enc ≠ [] ∧ cat post = []
theorem cat_append (a b : List It) : cat (a ++ b) = cat a ++ cat b := by simp [cat]
theorem cat_cons (i : It) (b : List It) : cat (i :: b) = i.enc ++ cat b := by simp [cat]
theorem cat_one (i : It) : cat [i] = i.enc := by simp [cat]
theorem lastOf_same {ps : List It} {l : Int} {it : It} (h : LastOf ps l) (he : it.enc = []) : LastOf (ps ++ [it]) l := by
  rcases h with ⟨h1, h2⟩ | ⟨pre, i, post, rfl, h2, h3, h4⟩
  · exact Or.inl ⟨h1, by rw [cat_append, h2, cat_one, he]; rfl⟩
  · exact Or.inr ⟨pre, i, post ++ [it], by simp, h2, h3, by rw [cat_append, h4, cat_one, he]; rfl⟩
theorem lastOf_new (ps : List It) {it : It} (he : it.enc ≠ []) : LastOf (ps ++ [it]) (ps.length : Int) := Or.inr ⟨ps, it, [], by simp, rfl, he, rfl⟩
theorem take_item {its : List It} {k : Nat} {it : It} (h : its[k]? = some it) : its.take (k + 1) = its.take k ++ [it] := by
  obtain ⟨hk, rfl⟩ := List.getElem?_eq_some_iff.1 h
  rw [List.take_succ_eq_append_getElem hk]
theorem drop_item {its : List It} {k : Nat} {it : It} (h : its[k]? = some it) : its.drop k = it :: its.drop (k + 1) := by
  obtain ⟨hk, rfl⟩ := List.getElem?_eq_some_iff.1 h
  exact List.drop_eq_getElem_cons hk
theorem cat_take_le (its : List It) (k : Nat) : (cat (its.take k)).length ≤ (cat its).length := by
  have h := congrArg List.length (congrArg cat (List.take_append_drop k its))
  rw [cat_append, List.length_append] at h
  omega

theorem cat_short {pre post : List It} {it : It} (hpo : cat post = []) (hne : it.enc ≠ []) : (cat (pre ++ it :: post)).take ((cat (pre ++ it :: post)).length - 1) = cat pre ++ it.enc.take (it.enc.length - 1) := by
  have hp := List.length_pos_iff.2 hne
  rw [cat_append, cat_cons, hpo, List.append_nil, List.length_append, List.take_append]
  rw [List.take_of_length_le (by omega)]
  congr 2
  omega

set_option maxHeartbeats 2000000 in
set_option maxRecDepth 8000 in
theorem back_any (a : Option Addr) (n cap : Nat) (its : List It) (w : World) (hn : its.length = n) (hm : n ≤ 1048576) (hat : ItemsAt w a its) (hok : ∀ i ∈ its, i.Ok) (hl : (cat its).length ≤ 2097152) :
    Calls Try.prog 4 #[.slice a n cap] w fun e w' => e = .returned (.bool true) ∧ Below w.heap.size w w' := by
  have HN : Hid (its.length = n) := hn
  have HAT : Hid (ItemsAt w a its) := hat
  have HOK : Hid (∀ i ∈ its, i.Ok) := hok
  have HL : Hid ((cat its).length ≤ 2097152) := hl
  clear hn hat hok hl
  go_enter Try.func4, Try.ntmps4
  go_wp2_with fail
  refine (fixed_any _).mono ?_
  rintro e w1 ⟨rfl, hb1⟩
  have HB1 : Hid (Below w.heap.size w w1) := hb1
  clear hb1
  go_wp2_with fail
  go_loopw [3, 4, 5] (fun b l i wr => ∃ (k : Nat) (L : Int), k ≤ n ∧ i = .int .i64 k ∧ l = .int .i64 L ∧ -1 ≤ L ∧ L < n ∧ Hid (LastOf (its.take k) L) ∧ Hid (OwnsN wr w.heap.size b (cat (its.take k))) ∧ Hid (Below w.heap.size w wr)) (fun _ _ i _ => n - (intOf i).toNat)
  case atStart => exact ⟨0, -1, Nat.zero_le _, rfl, rfl, by omega, by omega, Or.inl ⟨rfl, rfl⟩, ownsN_nil _ _, HB1⟩
  case round =>
    obtain ⟨k, L, hk, rfl, rfl, hL1, hL2, hla, ho, hb⟩ := hrel
    by_cases hlt : k < n
    · obtain ⟨it, hit⟩ : ∃ it, its[k]? = some it := ⟨its[k]'(by rw [HN.out]; exact hlt), List.getElem?_eq_getElem _⟩
      have HIT : Hid (its[k]? = some it) := hit
      obtain ⟨bb, off, rfl, c0, c1, c2, c3⟩ := itemsAt_cells HAT.out hb.out hit
      have HO : Hid (it.Ok) := HOK.out it (List.mem_of_getElem? hit)
      clear hit
      have HTK : Hid (its.take (k + 1) = its.take k ++ [it]) := take_item HIT.out
      have HTL : Hid ((its.take k).length = k) := by show _ = _; rw [List.length_take, HN.out]; omega
      have hcl : (cat (its.take k)).length + it.enc.length ≤ 2097152 := by
        have h1 := cat_take_le its (k + 1)
        rw [HTK.out, cat_append, cat_one, List.length_append] at h1
        have h2 := HL.out
        omega
      have HC := laid_any it wr HO.out
      obtain ⟨E, hE⟩ : ∃ E, E = it.enc.length := ⟨_, rfl⟩
      rw [← hE] at HC hcl
      have HE : Hid (E = it.enc.length) := hE
      obtain ⟨ab, cb, rfl, hbb, hcb, _, _, _⟩ := ho.out.form
      have HBB : Hid (BytesAt wr ab (cat (its.take k))) := hbb
      obtain ⟨Lb, hLb⟩ : ∃ Lb, Lb = (cat (its.take k)).length := ⟨_, rfl⟩
      rw [← hLb] at ho hcl
      have HLB : Hid (Lb = (cat (its.take k)).length) := hLb
      rw [← hLb]
      have HCC : Hid (Calls Try.prog 11 #[.agg #[.int .i64 it.k, .int .i64 it.n, .int .u64 it.x, .string it.s]] wr fun e w' => ∃ a c, e = .returned (.tuple #[.slice a E c, .bool true]) ∧ BytesAt w' a it.enc ∧ Below wr.heap.size wr w') := HC
      clear HC hE hLb hbb hcb
      by_cases hE0 : E = 0
      · subst hE0
        have HEN : Hid (it.enc = []) := List.eq_nil_of_length_eq_zero HE.out.symm
        go_wp2_with fail
        refine Calls.mono HCC.out ?_
        rintro e w5 ⟨a5, c5, rfl, hb5, hbel5⟩
        have HO5 : Hid (OwnsN w5 w.heap.size (.slice ab Lb cb) (cat (its.take k))) := ho.out.later hbel5
        have HB5 : Hid (Below w.heap.size w w5) := below_trans hb.out hbel5 hb.out.size
        have HY5 : Hid (BytesAt w5 a5 it.enc) := hb5
        clear hb5 hbel5 c0 c1 c2 c3
        go_wp2_with (at_builtin; go_must (refine wpList_append_bytesN rfl (.tmp 35) (.tmp 36) rfl w _ _ rfl HO5.out HB5.out a5 c5 0 it.enc HE.out rfl HY5.out (by rw [← HLB.out, ← HE.out]; omega) ?_; intro v6 w6 ho6 hb6; have HO6 : Hid (OwnsN w6 w.heap.size v6 (cat (its.take k) ++ it.enc)) := ho6; have HB6 : Hid (Below w.heap.size w w6) := hb6; clear ho6 hb6))
        go_roundw
        case rel => exact ⟨k + 1, L, by omega, by go_num, rfl, hL1, hL2, by rw [HTK.out]; exact lastOf_same hla.out HEN.out, by rw [HTK.out, cat_append, cat_one]; exact HO6, HB6⟩
        case measure => simp [intOf]; omega
      · have HEN : Hid (it.enc ≠ []) := fun e => hE0 (by rw [HE.out, e]; rfl)
        have hE1 : 0 < E := by omega
        go_wp2_with fail
        refine Calls.mono HCC.out ?_
        rintro e w5 ⟨a5, c5, rfl, hb5, hbel5⟩
        have HO5 : Hid (OwnsN w5 w.heap.size (.slice ab Lb cb) (cat (its.take k))) := ho.out.later hbel5
        have HB5 : Hid (Below w.heap.size w w5) := below_trans hb.out hbel5 hb.out.size
        have HY5 : Hid (BytesAt w5 a5 it.enc) := hb5
        clear hb5 hbel5 c0 c1 c2 c3
        go_wp2_with (at_builtin; go_must (refine wpList_append_bytesN rfl (.tmp 35) (.tmp 36) rfl w _ _ rfl HO5.out HB5.out a5 c5 E it.enc HE.out rfl HY5.out (by rw [← HLB.out, ← HE.out]; omega) ?_; intro v6 w6 ho6 hb6; have HO6 : Hid (OwnsN w6 w.heap.size v6 (cat (its.take k) ++ it.enc)) := ho6; have HB6 : Hid (Below w.heap.size w w6) := hb6; clear ho6 hb6))
        go_roundw
        case rel => exact ⟨k + 1, k, by omega, by go_num, rfl, by omega, by omega, by rw [HTK.out]; have h := lastOf_new (its.take k) HEN.out; rw [HTL.out] at h; exact h, by rw [HTK.out, cat_append, cat_one]; exact HO6, HB6⟩
        case measure => simp [intOf]; omega
    · obtain rfl : k = n := by omega
      have ht : its.take k = its := List.take_of_length_le (by rw [HN.out]; exact Nat.le_refl _)
      rw [ht] at hla ho
      obtain ⟨ab, cb, rfl, hbb, hcb, hcm, _, _⟩ := ho.out.form
      obtain ⟨Lb, hLb⟩ : ∃ Lb, Lb = (cat its).length := ⟨_, rfl⟩
      have HLB : Hid (Lb = (cat its).length) := hLb
      have HBB : Hid (BytesAt wr ab (cat its)) := hbb
      have hLm : Lb ≤ 2097152 := by rw [hLb]; exact HL.out
      rw [← hLb] at hcb ⊢
      clear hLb hbb hk hlt ht ho
      unfold maxLen at hcm
      have HZ : Hid (w.heap.size ≤ wr.heap.size) := hb.out.size
      go_wp2_with (at_builtin; go_must (refine wpList_append_fresh rfl (.tmp 38) (.tmp 39) rfl rfl ab cb Lb (cat its) rfl HLB.out HBB.out (by omega) ?_; intro g c w2 ho2 hb2 hc2; have HO2 : Hid (Owns w2 wr.heap.size (.slice (some ⟨g, 0, none⟩) Lb c) (cat its)) := ho2; have HB2 : Hid (Below wr.heap.size wr w2) := hb2; clear ho2 hb2 hc2))
      have hzw : w.heap.size ≤ w2.heap.size := Nat.le_trans HZ.out HB2.out.size
      have HBW2 : Hid (Below w.heap.size w w2) := below_trans hb.out HB2.out HZ.out
      have HBB2 : Hid (BytesAt w2 ab (cat its)) := bytesAt_later HB2.out HBB.out
      have HY2 : Hid (BytesAt w2 (some ⟨g, 0, none⟩) (cat its)) := HO2.out.bytes.1
      clear HO2 HB2 HBB hb HZ
      refine (read_any _ Lb c (cat its) _ HLB.out HY2.out (by omega)).mono ?_
      rintro e w3 ⟨P, H, rfl, hP, hH, hr3, hb3, _, _⟩
      have HR3 : Hid (Rd w3 P H 0 (cat its)) := hr3
      have HB3 : Hid (Below w2.heap.size w2 w3) := hb3
      clear hr3 hb3 HY2
      go_wp2_with fail
      refine (left_any P H 0 (cat its) _ HR3.out).mono ?_
      rintro e w4 ⟨rfl, rfl⟩
      rw [← HLB.out]
      go_wp2_with fail
      go_loopw [9] (fun i wq => ∃ (j o : Nat), j ≤ k ∧ i = .int .i64 j ∧ Hid (Rd wq P H o (cat (its.drop j))) ∧ Hid (Below w2.heap.size w2 wq)) (fun i _ => k - (intOf i).toNat)
      case atStart => exact ⟨0, 0, Nat.zero_le _, rfl, HR3, HB3⟩
      case round =>
        clear HR3 HB3
        obtain ⟨j, o, hj, rfl, hr, hq⟩ := hrel
        by_cases hlt : j < k
        · obtain ⟨it, hit⟩ : ∃ it, its[j]? = some it := ⟨its[j]'(by rw [HN.out]; exact hlt), List.getElem?_eq_getElem _⟩
          have HIT : Hid (its[j]? = some it) := hit
          obtain ⟨bb, off, rfl, c0, c1, c2, c3⟩ := itemsAt_cells HAT.out (below_trans HBW2.out hq.out hzw) hit
          have HO : Hid (it.Ok) := HOK.out it (List.mem_of_getElem? hit)
          clear hit
          have HDR : Hid (cat (its.drop j) = it.enc ++ cat (its.drop (j + 1))) := by show _ = _; rw [drop_item HIT.out, cat_cons]
          have HLD : Hid ((cat (its.drop j)).length ≤ 16777216) := by
            have h := congrArg List.length (congrArg cat (List.take_append_drop j its))
            rw [cat_append, List.length_append] at h
            have h2 := HL.out
            show _ ≤ _
            omega
          have HCC : Hid (Calls Try.prog 14 #[.agg #[.int .i64 it.k, .int .i64 it.n, .int .u64 it.x, .string it.s], .pointer (some ⟨P, 0, none⟩)] _ fun e w' => e = .returned (.bool true) ∧ Rd w' P H (o + it.enc.length) (cat (its.drop (j + 1))) ∧ Below w2.heap.size _ w') :=
            taken_yes it P H o w2.heap.size (cat (its.drop (j + 1))) _ HO.out hP (by rw [← HDR.out]; exact hr.out) (by rw [← HDR.out]; exact HLD.out) (cat_bs _)
          go_wp2_with fail
          refine Calls.mono HCC.out ?_
          rintro e w5 ⟨rfl, hr5, hb5⟩
          have HR5 : Hid (Rd w5 P H (o + it.enc.length) (cat (its.drop (j + 1)))) := hr5
          have HB5 : Hid (Below w2.heap.size w2 w5) := hq.out.trans hb5
          clear hr5 hb5 c0 c1 c2 c3
          go_wp2_with fail
          go_roundw
          case rel => exact ⟨j + 1, _, by omega, by go_num, HR5, HB5⟩
          case measure => simp [intOf]; omega
        · obtain rfl : j = k := by omega
          have hd : its.drop j = [] := List.drop_of_length_le (by rw [HN.out]; exact Nat.le_refl _)
          rw [hd] at hr
          have HR6 : Hid (Rd wr P H o []) := hr
          clear hd hlt hj
          go_wp2_with fail
          refine (left_any P H o [] _ HR6.out).mono ?_
          rintro e w6 ⟨rfl, rfl⟩
          have HBW6 : Hid (Below w.heap.size w w6) := below_trans HBW2.out hq.out hzw
          have HBB6 : Hid (BytesAt w6 ab (cat its)) := bytesAt_later hq.out HBB2.out
          have hz6 : w.heap.size ≤ w6.heap.size := HBW6.out.size
          clear HR6 hr hq HBB2
          rcases hla.out with ⟨hl0, _⟩ | ⟨pre, it, post, hits, hlp, hne, hpo⟩
          · subst hl0
            go_wp2
            go_ret
            exact ⟨rfl, HBW6.out⟩
          · have hE : 0 < it.enc.length := List.length_pos_iff.2 hne
            obtain ⟨E, hEE⟩ : ∃ E, E = it.enc.length := ⟨_, rfl⟩
            have HE : Hid (E = it.enc.length) := hEE
            have HNE : Hid (it.enc ≠ []) := hne
            have HPO : Hid (cat post = []) := hpo
            have HITS : Hid (its = pre ++ it :: post) := hits
            have hLE : Lb = (cat pre).length + E := by rw [HLB.out, hits, cat_append, cat_cons, hpo, List.append_nil, List.length_append, hEE]
            have hLB1 : 1 ≤ Lb := by omega
            obtain ⟨p, hp⟩ : ∃ p : Nat, p = pre.length := ⟨_, rfl⟩
            have HPL : Hid (p = pre.length) := hp
            have hLp : L = (p : Int) := by rw [hlp, hp]
            subst hLp
            have HSH : Hid ((cat its).take (Lb - 1) = cat pre ++ it.enc.take (E - 1)) := by show _ = _; rw [HLB.out, hits, cat_short hpo hne, hEE]
            have HLN : Hid (Lb - 1 = (cat pre ++ it.enc.take (E - 1)).length) := by show _ = _; rw [← HSH.out, List.length_take, ← HLB.out]; omega
            have hpj : p < j := by omega
            have HIP : Hid (∀ q, q < p → its[q]? = pre[q]?) := fun q hq => by rw [hits, List.getElem?_append_left (by omega)]
            have HIL : Hid (its[p]? = some it) := by show _ = _; rw [hits, hp]; simp
            clear hla hlp hits hne hpo hp hE hEE hLE
            have hLi : (1 : Int) ≤ (Lb : Int) := by omega
            have hti : ((Lb : Int) - 1).toNat = Lb - 1 := by omega
            go_wp2_with (at_builtin; go_must (refine wpList_append_fresh rfl (.tmp 69) (.tmp 74) rfl rfl ab cb (Lb - 1) (cat pre ++ it.enc.take (E - 1)) rfl HLN.out (by rw [← HSH.out]; exact bytesAt_take _ HBB6.out) (by omega) ?_; intro g7 c7 w7 ho7 hb7 hc7; have HO7 : Hid (Owns w7 w6.heap.size (.slice (some ⟨g7, 0, none⟩) (Lb - 1) c7) (cat pre ++ it.enc.take (E - 1))) := ho7; have HB7 : Hid (Below w6.heap.size w6 w7) := hb7; clear ho7 hb7 hc7))
            have hz7 : w.heap.size ≤ w7.heap.size := Nat.le_trans hz6 HB7.out.size
            have HBW7 : Hid (Below w.heap.size w w7) := below_trans HBW6.out HB7.out hz6
            have HY7 : Hid (BytesAt w7 (some ⟨g7, 0, none⟩) (cat pre ++ it.enc.take (E - 1))) := HO7.out.bytes.1
            have HBS : Hid (Rec.Bs (it.enc.take (E - 1))) := Rec.bs_take (It.enc_bs it) _
            clear HO7 HB7 HBW6 HBB6
            refine (read_any _ (Lb - 1) c7 (cat pre ++ it.enc.take (E - 1)) _ HLN.out HY7.out (by omega)).mono ?_
            rintro e w8 ⟨P2, H2, rfl, hP2, hH2, hr8, hb8, _, _⟩
            have HR8 : Hid (Rd w8 P2 H2 0 (cat pre ++ it.enc.take (E - 1))) := hr8
            have HB8 : Hid (Below w7.heap.size w7 w8) := hb8
            clear hr8 hb8 HY7
            go_wp2_with fail
            go_loopw [11] (fun i wq => ∃ (q o : Nat), q ≤ p ∧ i = .int .i64 q ∧ Hid (Rd wq P2 H2 o (cat (pre.drop q) ++ it.enc.take (E - 1))) ∧ Hid (Below w7.heap.size w7 wq)) (fun i _ => p - (intOf i).toNat)
            case atStart => exact ⟨0, 0, Nat.zero_le _, rfl, HR8, HB8⟩
            case round =>
              clear HR8 HB8
              obtain ⟨q, o, hq, rfl, hr, hbq⟩ := hrel
              by_cases hlt : q < p
              · obtain ⟨iq, hiq⟩ : ∃ iq, pre[q]? = some iq := ⟨pre[q]'(by rw [← HPL.out]; exact hlt), List.getElem?_eq_getElem _⟩
                have HIQ : Hid (its[q]? = some iq) := (HIP.out q hlt).trans hiq
                obtain ⟨bb, off, rfl, c0, c1, c2, c3⟩ := itemsAt_cells HAT.out (below_trans HBW7.out hbq.out hz7) HIQ.out
                have HO : Hid (iq.Ok) := HOK.out iq (List.mem_of_getElem? HIQ.out)
                have HDR : Hid (cat (pre.drop q) ++ it.enc.take (E - 1) = iq.enc ++ (cat (pre.drop (q + 1)) ++ it.enc.take (E - 1))) := by show _ = _; rw [drop_item hiq, cat_cons, List.append_assoc]
                have HLD : Hid ((cat (pre.drop q) ++ it.enc.take (E - 1)).length ≤ 16777216) := by
                  have h := congrArg List.length (congrArg cat (List.take_append_drop q pre))
                  rw [cat_append, List.length_append] at h
                  have h2 := HLN.out
                  rw [List.length_append] at h2
                  show _ ≤ _
                  rw [List.length_append]
                  omega
                clear hiq
                have HCC : Hid (Calls Try.prog 14 #[.agg #[.int .i64 iq.k, .int .i64 iq.n, .int .u64 iq.x, .string iq.s], .pointer (some ⟨P2, 0, none⟩)] _ fun e w' => e = .returned (.bool true) ∧ Rd w' P2 H2 (o + iq.enc.length) (cat (pre.drop (q + 1)) ++ it.enc.take (E - 1)) ∧ Below w7.heap.size _ w') :=
                  taken_yes iq P2 H2 o w7.heap.size (cat (pre.drop (q + 1)) ++ it.enc.take (E - 1)) _ HO.out hP2 (by rw [← HDR.out]; exact hr.out) (by rw [← HDR.out]; exact HLD.out) (Rec.bs_append (cat_bs _) HBS.out)
                go_wp2_with fail
                refine Calls.mono HCC.out ?_
                rintro e w9 ⟨rfl, hr9, hb9⟩
                have HR9 : Hid (Rd w9 P2 H2 (o + iq.enc.length) (cat (pre.drop (q + 1)) ++ it.enc.take (E - 1))) := hr9
                have HB9 : Hid (Below w7.heap.size w7 w9) := hbq.out.trans hb9
                clear hr9 hb9 c0 c1 c2 c3
                go_wp2_with fail
                go_roundw
                case rel => exact ⟨q + 1, _, by omega, by go_num, HR9, HB9⟩
                case measure => simp [intOf]; omega
              · obtain rfl : q = p := by omega
                have hd : pre.drop q = [] := List.drop_of_length_le (by rw [← HPL.out]; exact Nat.le_refl _)
                rw [hd] at hr
                have HR10 : Hid (Rd wr P2 H2 o (it.enc.take (E - 1))) := hr
                obtain ⟨bb, off, rfl, c0, c1, c2, c3⟩ := itemsAt_cells HAT.out (below_trans HBW7.out hbq.out hz7) HIL.out
                have HO : Hid (it.Ok) := HOK.out it (List.mem_of_getElem? HIL.out)
                have hE1 : E - 1 < E := by
                  have h1 := List.length_pos_iff.2 HNE.out
                  rw [← HE.out] at h1
                  omega
                have hE2 : E ≤ 16777216 := by
                  have h1 := it.enc_length
                  have h2 := HO.out.2
                  rw [← HE.out] at h1
                  omega
                have HCC : Hid (Calls Try.prog 14 #[.agg #[.int .i64 it.k, .int .i64 it.n, .int .u64 it.x, .string it.s], .pointer (some ⟨P2, 0, none⟩)] _ fun e w' => e = .returned (.bool false) ∧ Rd w' P2 H2 o (it.enc.take (E - 1)) ∧ Below w7.heap.size _ w') :=
                  taken_no it P2 H2 o w7.heap.size (E - 1) _ HO.out hP2 (by rw [← HE.out]; exact hE1) HR10.out (by omega)
                clear hd hlt hq hr
                go_wp2_with fail
                refine (left_any P2 H2 o _ _ HR10.out).mono ?_
                rintro e w10 ⟨rfl, rfl⟩
                go_wp2_with fail
                refine Calls.mono HCC.out ?_
                rintro e w11 ⟨rfl, hr11, hb11⟩
                have HR11 : Hid (Rd w11 P2 H2 o (it.enc.take (E - 1))) := hr11
                have HB11 : Hid (Below w.heap.size w w11) := below_trans HBW7.out (hbq.out.trans hb11) hz7
                clear hr11 hb11 c0 c1 c2 c3
                go_wp2_with fail
                refine (left_any P2 H2 o _ _ HR11.out).mono ?_
                rintro e w12 ⟨rfl, rfl⟩
                go_wp2
                go_ret
                exact ⟨ret_bool (by simp), HB11.out⟩
end Go.Proofs.Ytfncocffnfebbaa
