/- The walk of heronlaw01.CrcPieces. -/
import Derived.Test.YtejjnhaadoafpaaDoorGrow
import Derived.Deep.DeepMust
import Derived.Deep.QuietTactic
import Derived.BigQuiet
namespace Go.Proofs.YtejjnhaadoafpaaDoor
open Go.RowKit

theorem piecesAt_later {w w' : World} {a : Option Addr} {ps : List Piece} (h : Below w.heap.size w w') (hT : PiecesAt w a ps) : PiecesAt w' a ps := by
  rcases hT with h0 | ⟨b, off, rfl, hc⟩
  · exact Or.inl h0
  · exact Or.inr ⟨b, off, rfl, fun k hk => by rw [h.cell (p := ⟨b, off + k, none⟩) (World.block_lt_of_cell? w _ (hc k hk))]; exact hc k hk⟩
theorem all_n (a : Option Addr) (cap n : Nat) (ps : List Piece) (w : World) (U : Nat) (hn : n = ps.length) (hU : U = Crc.more 0 (cat ps)) (hT : Tab w) (hl : n ≤ maxLen) (hc : PiecesAt w a ps) (hok : ∀ p ∈ ps, p.Ok w) :
    Calls Tryd.prog 10 #[.slice a n cap] w fun e w' => e = .returned (.int .u32 U) ∧ w' = w := by
  subst hn hU; exact all_any a cap ps w hT hl hc hok
theorem cat_length_le (ps : List Piece) (k : Nat) : (cat (ps.take k)).length ≤ (cat ps).length := by
  have h : cat ps = cat (ps.take k) ++ cat (ps.drop k) := by simp only [cat]; rw [← List.flatMap_append, List.take_append_drop]
  rw [h, List.length_append]; omega
/-- one byte of a piece -/
theorem ok_byte {w : World} {b off cap c : Nat} {zs : List Int} (h : Piece.Ok w ⟨some ⟨b, off, none⟩, cap, zs⟩) {i : Nat} (hi : i < zs.length) : Piece.Ok w ⟨some ⟨b, off + i, none⟩, c, [zs.getD i 0]⟩ := by
  refine ⟨by simp [maxLen], Or.inr ⟨b, off + i, rfl, fun k hk => ?_⟩, ?_⟩
  · have hk0 : k = 0 := by simp at hk; omega
    subst hk0
    rcases h.2.1 with h0 | ⟨b', off', e, hc⟩
    · simp only at h0; rw [h0] at hi; simp at hi
    · cases e
      rw [Nat.add_zero]
      exact hc i hi
  · intro z hz
    simp only [List.mem_singleton] at hz
    rw [hz]
    exact bs_at h.2.2 hi

theorem ok_take {w : World} {a : Option Addr} {cap c : Nat} {zs : List Int} (n : Nat) (h : Piece.Ok w ⟨a, cap, zs⟩) : Piece.Ok w ⟨a, c, zs.take n⟩ :=
  ⟨by have := h.1; simp only [List.length_take] at this ⊢; omega, bytesAt_take n h.2.1, bs_take h.2.2 n⟩
theorem ok_drop {w : World} {g cap c : Nat} {zs : List Int} (n : Nat) (h : Piece.Ok w ⟨some ⟨g, 0, none⟩, cap, zs⟩) : Piece.Ok w ⟨some ⟨g, n, none⟩, c, zs.drop n⟩ := by
  refine ⟨by have := h.1; simp only [List.length_drop] at this ⊢; omega, ?_, fun z hz => h.2.2 z (List.mem_of_mem_drop hz)⟩
  rcases h.2.1 with h0 | ⟨b, off, e, hc⟩
  · exact Or.inl (by simp only at h0 ⊢; rw [h0]; simp)
  · cases e
    refine Or.inr ⟨g, n, rfl, fun k hk => ?_⟩
    have hk' : n + k < zs.length := by simp only [List.length_drop] at hk; omega
    have := hc (n + k) hk'
    rw [Nat.zero_add] at this
    rw [this]
    simp [hk']

set_option maxHeartbeats 2000000 in
theorem pieces_any (ap : Option Addr) (np cp : Nat) (ps : List Piece) (w : World) (hT : Tab w) (h0 : 0 < w.heap.size)
    (hp : PiecesAt w ap ps) (hok : ∀ p ∈ ps, p.Ok w) (hfit : ∀ p ∈ ps, p.zs.length ≤ p.cap ∧ p.cap ≤ maxLen) (hnp : ps.length = np) (hmp : np ≤ maxLen) (hbulk : (cat ps).length ≤ 1048576) :
    Calls Tryd.prog 3 #[.slice ap np cp] w fun e w' => e = .returned (.bool true) ∧ Below w.heap.size w w' := by
  have HT : Hid (Tab w) := hT
  have HP : Hid (PiecesAt w ap ps) := hp
  have HOK : Hid (∀ p ∈ ps, p.Ok w) := hok
  have HFIT : Hid (∀ p ∈ ps, p.zs.length ≤ p.cap ∧ p.cap ≤ maxLen) := hfit
  have HNP : Hid (ps.length = np) := hnp
  have HBK : Hid ((cat ps).length ≤ 1048576) := hbulk
  have hmp' : np ≤ 9223372036854775807 := by unfold maxLen at hmp; omega
  clear hT hp hok hfit hnp hbulk hmp
  go_enter Tryd.func3, Tryd.ntmps3
  go_wp2_with fail
  refine (known_any _ HT.out h0).mono ?_
  rintro e w1 ⟨rfl, hb1⟩
  have HB1 : Hid (Below w.heap.size w w1) := hb1
  clear hb1
  go_wp2_with fail
  go_loopw [3, 4, 5, 15] (fun v s t i wr => ∃ k : Nat, k ≤ np ∧ i = .int .i64 k ∧ s = .int .u32 (Crc.more 0 (cat (ps.take k)) : Nat) ∧ t = .int .u32 (Crc.more 0 (cat (ps.take k)) : Nat) ∧ OwnsN wr w.heap.size v (cat (ps.take k)) ∧ Below w.heap.size w wr)
    (fun _ _ _ i _ => np - (intOf i).toNat)
  case atStart => exact ⟨0, Nat.zero_le _, rfl, by simp [cat, Crc.more_nil], by simp [cat, Crc.more_nil], ownsN_nil _ _, HB1.out⟩
  case round =>
    obtain ⟨k, hk, rfl, rfl, rfl, hov, hbel⟩ := hrel
    have HOV : Hid (OwnsN wr w.heap.size u3 (cat (ps.take k))) := hov
    have HBL : Hid (Below w.heap.size w wr) := hbel
    clear hov hbel HB1
    by_cases hlt : k < np
    · have hltp : k < ps.length := by rw [HNP.out]; exact hlt
      have hcat := cat_snoc ps k hltp
      have hlen := cat_length_le ps (k + 1)
      have hpk : ps.getD k Piece.nil ∈ ps := by
        have e : ps.getD k Piece.nil = ps[k] := by simp [List.getD, hltp]
        rw [e]; exact List.getElem_mem hltp
      have hokp := HOK.out _ hpk
      have hfp := HFIT.out _ hpk
      obtain ⟨b, off, e, hcell⟩ : ∃ b off, ap = some ⟨b, off, none⟩ ∧ wr.cell? ⟨b, off + k, none⟩ = some (ps.getD k Piece.nil).val := by
        rcases piecesAt_later HBL.out HP.out with h | ⟨b, off, e, hc⟩
        · rw [h] at hltp; simp at hltp
        · exact ⟨b, off, e, hc k hltp⟩
      subst e
      obtain ⟨q, hq⟩ : ∃ q, q = ps.getD k Piece.nil := ⟨_, rfl⟩
      rw [← hq] at hcell hokp hfp hcat
      clear hq hpk hltp
      obtain ⟨a, cq, zs⟩ := q
      simp only [Piece.val] at hcell
      simp only at hfp hcat
      obtain ⟨L, hL⟩ : ∃ L, zs.length = L := ⟨_, rfl⟩
      rw [hL] at hcell hfp
      obtain ⟨X, hX⟩ : ∃ X, X = cat (ps.take k) := ⟨_, rfl⟩
      have hbk := HBK.out
      rw [← hX] at hcat HOV
      rw [hcat, List.length_append, hL] at hlen
      have hcap : cq ≤ 9223372036854775807 := by have := hfp.2; unfold maxLen at this; omega
      have hLc : L ≤ cq := hfp.1
      have hu : Crc.more 0 X < 4294967296 := by rw [hX]; exact Crc.more_lt (by decide) (bs_cat (fun p hp => HOK.out p (List.mem_of_mem_take hp)))
      rw [← hX]
      have HCAT : Hid (cat (ps.take (k + 1)) = X ++ zs) := hcat
      have HL : Hid (zs.length = L) := hL
      have HOKP : Hid (Piece.Ok w ⟨a, cq, zs⟩) := hokp
      have hXL : X.length + L ≤ 1048576 := by omega
      clear hcat hL hokp hfp hX hlen hbk
      go_wp2_with (at_builtin; go_must (refine wpList_append_bytesN rfl (.tmp 19) (.tmp 20) rfl w _ X rfl HOV.out HBL.out a cq L zs HL.out.symm rfl (bytesAt_later HBL.out HOKP.out.2.1) (by rw [HL.out]; omega) ?_; intro v2 w2 hov2 hbel2; have HOV2 : Hid (OwnsN w2 w.heap.size v2 (X ++ zs)) := hov2; have HBL2 : Hid (Below w.heap.size w w2) := hbel2; clear hov2 hbel2 HOV HBL hcell))
      have HT2 : Hid (Tab w2) := tab_below HBL2.out h0 HT.out
      have HOK2 : Hid (Piece.Ok w2 ⟨a, cq, zs⟩) := ok_later HBL2.out HOKP.out
      refine (more_n _ a cq L zs _ hu HL.out.symm HT2.out HOK2.out).mono ?_
      rintro e w' ⟨rfl, rfl⟩
      have HUU : Hid (Crc.more (Crc.more 0 X) zs = Crc.more 0 (X ++ zs)) := (Crc.more_append 0 X zs).symm
      obtain ⟨U, hU⟩ : ∃ U, U = Crc.more 0 X := ⟨_, rfl⟩
      rw [← hU] at hu HUU
      rw [← hU]
      clear hU
      go_wp2
      go_loop [5, 27] (fun t i => ∃ j : Nat, j ≤ L ∧ i = .int .i64 j ∧ t = .int .u32 (Crc.more U (zs.take j) : Nat)) (fun _ i => L - (intOf i).toNat)
      case atStart => exact ⟨0, Nat.zero_le _, rfl, by rw [List.take_zero, Crc.more_nil]⟩
      case round =>
        obtain ⟨j, hj, rfl, rfl⟩ := hrel
        have hr : Crc.more U (zs.take j) < 4294967296 := Crc.more_lt hu (bs_take HOKP.out.2.2 j)
        by_cases hjl : j < L
        · obtain ⟨b2, off2, e⟩ : ∃ b off, a = some ⟨b, off, none⟩ := by
            rcases HOKP.out.2.1 with h | ⟨b, off, e, _⟩
            · have := HL.out; simp only at h; rw [h] at this; simp at this; omega
            · exact ⟨b, off, e⟩
          subst e
          have HBY : Hid (Piece.Ok w' ⟨some ⟨b2, off2 + j, none⟩, cq - j, [zs.getD j 0]⟩) := ok_byte HOK2.out (by rw [HL.out]; exact hjl)
          have HJ : Hid (Crc.more U (zs.take (j + 1)) = Crc.more (Crc.more U (zs.take j)) [zs.getD j 0]) := by show _ = _; rw [take_snoc zs j (by rw [HL.out]; exact hjl), Crc.more_append]
          go_wp2_with fail
          refine (more_n _ _ (cq - j) 1 [zs.getD j 0] _ hr rfl HT2.out HBY.out).mono ?_
          rintro e w'' ⟨rfl, rfl⟩
          go_wp2
          go_round
          case rel => exact ⟨j + 1, by omega, by go_num, by rw [HJ.out]; rfl⟩
          case measure => simp [intOf]; omega
        · have hjL : zs.take j = zs := List.take_of_length_le (by rw [HL.out]; omega)
          rw [hjL]
          clear hr hjL
          go_wp2
          go_roundw
          case rel => exact ⟨k + 1, by omega, by go_num, by rw [HCAT.out, HUU.out], by rw [HCAT.out, HUU.out], by rw [HCAT.out]; exact HOV2.out, HBL2.out⟩
          case measure => simp [intOf]; omega
    · have ht : ps.take k = ps := List.take_of_length_le (by rw [HNP.out]; omega)
      rw [ht] at HOV ⊢
      clear ht
      obtain ⟨X, hX⟩ : ∃ X, X = cat ps := ⟨_, rfl⟩
      have hbs : Crc.Bs X := by rw [hX]; exact bs_cat HOK.out
      have hxl : X.length ≤ 1048576 := by rw [hX]; exact HBK.out
      have HX : Hid (X = cat ps) := hX
      rw [← hX] at HOV ⊢
      clear hX
      have HBS : Hid (Crc.Bs X) := hbs
      have HTr : Hid (Tab wr) := tab_below HBL.out h0 HT.out
      have hU : Crc.more 0 X < 4294967296 := Crc.more_lt (by decide) hbs
      clear hbs
      obtain ⟨a, c, rfl, hbt, hcl, hcm, hg, hn⟩ := HOV.out.form
      obtain ⟨n, hn'⟩ : ∃ n, n = X.length := ⟨_, rfl⟩
      have HN : Hid (n = X.length) := hn'
      rw [← hn'] at hxl hcl ⊢
      have HKX : Hid (Piece.Ok wr ⟨a, c, X⟩) := ⟨by rw [← hn']; unfold maxLen; omega, hbt, HBS.out⟩
      have hcm' : c ≤ 9223372036854775807 := by unfold maxLen at hcm; omega
      clear hn' hbt hcm
      have HPA : Hid (PiecesAt wr ap ps) := piecesAt_later HBL.out HP.out
      have HPO : Hid (∀ p ∈ ps, p.Ok wr) := fun p hp => ok_later HBL.out (HOK.out p hp)
      go_wp2_with fail
      refine (of_n a c n X _ HN.out HTr.out HKX.out).mono ?_
      rintro e w' ⟨rfl, rfl⟩
      have HMORE : Hid (Crc.more (Crc.more 0 (X.take (n / 2))) (X.drop (n / 2)) = Crc.more 0 X) := by show _ = _; rw [← Crc.more_append, List.take_append_drop]
      obtain ⟨U, hUU⟩ : ∃ U, U = Crc.more 0 X := ⟨_, rfl⟩
      obtain ⟨V, hV⟩ : ∃ V, V = Crc.more 0 (X.take (n / 2)) := ⟨_, rfl⟩
      have hVl : V < 4294967296 := by rw [hV]; exact Crc.more_lt (by decide) (bs_take HBS.out _)
      rw [← hV, ← hUU] at HMORE
      have HBD : Hid (∀ nq, Below w'.heap.size w' (w'.drewN nq)) := fun nq => below_drewN (Below.refl _ _) nq
      have C10 : Hid (∀ nq, Calls Tryd.prog 10 #[.slice ap np cp] (w'.drewN nq) fun e w2 => e = .returned (.int .u32 U) ∧ w2 = w'.drewN nq) := fun nq =>
        all_n ap cp np ps _ U HNP.out.symm (by rw [hUU, HX.out]) (tab_below (HBD.out nq) (by have := HBL.out.size; omega) HTr.out) (by unfold maxLen; omega) (piecesAt_later (HBD.out nq) HPA.out) (fun p hp => ok_later (HBD.out nq) (HPO.out p hp))
      have C8 : Hid (∀ nq, Calls Tryd.prog 8 #[.int .u32 U, .slice none 0 0] (w'.drewN nq) fun e w2 => e = .returned (.int .u32 U) ∧ w2 = w'.drewN nq) := fun nq => by
        have h := more_n U none 0 0 [] (w'.drewN nq) (by rw [hUU]; exact hU) rfl (tab_below (HBD.out nq) (by have := HBL.out.size; omega) HTr.out) (ok_nil _)
        rw [Crc.more_nil] at h
        exact h
      rw [← hUU] at hU ⊢
      by_cases hX0 : X = []
      · obtain ⟨rfl, rfl⟩ := hn hX0
        have hn0 : n = 0 := by rw [HN.out, hX0]; rfl
        have hU0 : U = 0 := by rw [hUU, hX0, Crc.more_nil]
        clear hUU hg hn HMORE hV hVl hU HKX HN hX0
        subst hn0 hU0
        have C9 : Hid (∀ nq, Calls Tryd.prog 9 #[.slice none 0 0] (w'.drewN nq) fun e w2 => e = .returned (.int .u32 0) ∧ w2 = w'.drewN nq) := fun nq => by
          have h := of_n none 0 0 [] (w'.drewN nq) rfl (tab_below (HBD.out nq) (by have := HBL.out.size; omega) HTr.out) (ok_nil _)
          rw [Crc.more_nil] at h
          exact h
        have C8' : Hid (∀ nq, Calls Tryd.prog 8 #[.int .u32 0, .slice none 0 0] (w'.drewN nq) fun e w2 => e = .returned (.int .u32 0) ∧ w2 = w'.drewN nq) := C8.out
        have C10' : Hid (∀ nq, Calls Tryd.prog 10 #[.slice ap np cp] (w'.drewN nq) fun e w2 => e = .returned (.int .u32 0) ∧ w2 = w'.drewN nq) := C10.out
        go_wp2
        go_quiet ((first | (go_at_call 10; exact Calls.quiet_of_same (C10'.out _)) | (go_at_call 9; exact Calls.quiet_of_same (C9.out _)) | (go_at_call 8; exact Calls.quiet_of_same (C8'.out _))))
        go_wp2
        go_ret
        exact ⟨rfl, below_drewN HBL.out _⟩
      · obtain ⟨g, rfl⟩ := hg hX0
        have hnpos : 0 < n := by rw [HN.out]; exact List.length_pos_iff.2 hX0
        clear hX0 hg hn hUU
        have C9 : Hid (∀ nq, Calls Tryd.prog 9 #[.slice (some ⟨g, 0, none⟩) (n / 2) c] (w'.drewN nq) fun e w2 => e = .returned (.int .u32 V) ∧ w2 = w'.drewN nq) := fun nq => by
          rw [hV]
          exact of_n _ c (n / 2) (X.take (n / 2)) _ (by rw [List.length_take, ← HN.out]; omega) (tab_below (HBD.out nq) (by have := HBL.out.size; omega) HTr.out) (ok_take (n / 2) (ok_later (HBD.out nq) HKX.out))
        have C8a : Hid (∀ nq, Calls Tryd.prog 8 #[.int .u32 V, .slice (some ⟨g, n / 2, none⟩) (n - n / 2) (c - n / 2)] (w'.drewN nq) fun e w2 => e = .returned (.int .u32 U) ∧ w2 = w'.drewN nq) := fun nq => by
          have h := more_n V _ (c - n / 2) (n - n / 2) (X.drop (n / 2)) (w'.drewN nq) hVl (by rw [List.length_drop, ← HN.out]) (tab_below (HBD.out nq) (by have := HBL.out.size; omega) HTr.out) (ok_drop (n / 2) (ok_later (HBD.out nq) HKX.out))
          rw [HMORE.out] at h
          exact h
        clear hV
        go_wp2
        go_quiet ((first | (go_at_call 10; exact Calls.quiet_of_same (C10.out _)) | (go_at_call 9; exact Calls.quiet_of_same (C9.out _)) | (go_at_call_of 8 (Value.int IntKind.u32 V); exact Calls.quiet_of_same (C8a.out _)) | (go_at_call_of 8 (Value.int IntKind.u32 U); exact Calls.quiet_of_same (C8.out _))))
        go_wp2
        go_ret
        exact ⟨rfl, below_drewN HBL.out _⟩
end Go.Proofs.YtejjnhaadoafpaaDoor
