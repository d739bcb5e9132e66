/- The contracts of heronref01.All and heronlaw01.roomy. -/
import Derived.Test.YtejjnhaadoafpaaDoorRef
import Derived.Test.YtejjnhaadoafpaaDoorPieces
namespace Go.Proofs.YtejjnhaadoafpaaDoor
open Go.RowKit

set_option maxHeartbeats 1000000 in
theorem refAll_n (ap : Option Addr) (np cp : Nat) (ps : List Piece) (w : World)
    (hp : PiecesAt w ap ps) (hok : ∀ p ∈ ps, p.Ok w) (hnp : ps.length = np) (hmp : np ≤ maxLen) (hbulk : (cat ps).length ≤ 1048576) :
    Calls Tryd.prog 15 #[.slice ap np cp] w fun e w' => e = .returned (.int .u32 (Crc.more 0 (cat ps) : Nat)) ∧ Below w.heap.size w w' := by
  have HP : Hid (PiecesAt w ap ps) := hp
  have HOK : Hid (∀ p ∈ ps, p.Ok w) := hok
  have HNP : Hid (ps.length = np) := hnp
  have HBK : Hid ((cat ps).length ≤ 1048576) := hbulk
  have hmp' : np ≤ 9223372036854775807 := by unfold maxLen at hmp; omega
  clear hp hok hnp hbulk hmp
  go_enter Tryd.func15, Tryd.ntmps15
  go_wp2_with fail
  go_loopw [3, 4] (fun v i wr => ∃ k : Nat, k ≤ np ∧ i = .int .i64 k ∧ OwnsN wr w.heap.size v (cat (ps.take k)) ∧ Below w.heap.size w wr)
    (fun _ i _ => np - (intOf i).toNat)
  case atStart => exact ⟨0, Nat.zero_le _, rfl, ownsN_nil _ _, Below.refl _ _⟩
  case round =>
    obtain ⟨k, hk, rfl, hov, hbel⟩ := hrel
    have HOV : Hid (OwnsN wr w.heap.size u3 (cat (ps.take k))) := hov
    have HBL : Hid (Below w.heap.size w wr) := hbel
    clear hov hbel
    by_cases hlt : k < np
    · have hltp : k < ps.length := by rw [HNP.out]; exact hlt
      have hcat := cat_snoc ps k hltp
      have hlen := cat_length_le ps (k + 1)
      have hpk : ps.getD k Piece.nil ∈ ps := by
        have e : ps.getD k Piece.nil = ps[k] := by simp [List.getD, hltp]
        rw [e]; exact List.getElem_mem hltp
      have hokp := HOK.out _ hpk
      obtain ⟨b, off, e, hcell⟩ : ∃ b off, ap = some ⟨b, off, none⟩ ∧ wr.cell? ⟨b, off + k, none⟩ = some (ps.getD k Piece.nil).val := by
        rcases piecesAt_later HBL.out HP.out with h | ⟨b, off, e, hc⟩
        · rw [h] at hltp; simp at hltp
        · exact ⟨b, off, e, hc k hltp⟩
      subst e
      obtain ⟨q, hq⟩ : ∃ q, q = ps.getD k Piece.nil := ⟨_, rfl⟩
      rw [← hq] at hcell hokp hcat
      clear hq hpk hltp
      obtain ⟨a, cq, zs⟩ := q
      simp only [Piece.val] at hcell
      simp only at hcat
      obtain ⟨L, hL⟩ : ∃ L, zs.length = L := ⟨_, rfl⟩
      rw [hL] at hcell
      obtain ⟨X, hX⟩ : ∃ X, X = cat (ps.take k) := ⟨_, rfl⟩
      have hbk := HBK.out
      rw [← hX] at hcat HOV
      rw [hcat, List.length_append, hL] at hlen
      have HCAT : Hid (cat (ps.take (k + 1)) = X ++ zs) := hcat
      have HL : Hid (zs.length = L) := hL
      have HOKP : Hid (Piece.Ok w ⟨a, cq, zs⟩) := hokp
      have hXL : X.length + L ≤ 1048576 := by omega
      clear hcat hL hokp hX hlen hbk
      go_wp2_with (at_builtin; go_must (refine wpList_append_bytesN rfl (.tmp 11) (.tmp 15) rfl w _ X rfl HOV.out HBL.out a cq L zs HL.out.symm rfl (bytesAt_later HBL.out HOKP.out.2.1) (by rw [HL.out]; omega) ?_; intro v2 w2 hov2 hbel2; have HOV2 : Hid (OwnsN w2 w.heap.size v2 (X ++ zs)) := hov2; have HBL2 : Hid (Below w.heap.size w w2) := hbel2; clear hov2 hbel2 HOV HBL hcell))
      go_roundw
      case rel => exact ⟨k + 1, by omega, by go_num, by rw [HCAT.out]; exact HOV2.out, HBL2.out⟩
      case measure => simp [intOf]; omega
    · have ht : ps.take k = ps := List.take_of_length_le (by rw [HNP.out]; omega)
      rw [ht] at HOV
      clear ht
      have hbs : Crc.Bs (cat ps) := bs_cat HOK.out
      obtain ⟨a, c, rfl, hbt, hcl, hcm, _, _⟩ := HOV.out.form
      obtain ⟨n, hn'⟩ : ∃ n, n = (cat ps).length := ⟨_, rfl⟩
      have HN : Hid (n = (cat ps).length) := hn'
      have HKX : Hid (Piece.Ok wr ⟨a, c, cat ps⟩) := ⟨by have := HBK.out; unfold maxLen; simp only; omega, hbt, hbs⟩
      rw [← hn']
      clear hn' hbt hcm hcl hbs
      go_wp2_with fail
      refine (refOf_n a c n (cat ps) _ HN.out HKX.out).mono ?_
      rintro e w' ⟨rfl, rfl⟩
      go_wp2
      go_ret
      exact ⟨rfl, HBL.out⟩

/-- A ROOM: bytes, and the two marks behind them. -/
def Room (w : World) (B g c : Nat) (zs : List Int) : Prop := Owns w B (.slice (some ⟨g, 0, none⟩) (zs.length + 2) c) (zs ++ [209, 210])

/-- append onto a row of the call's own: the slice written out -/
theorem wpList_append_more {w0 w : World} {ops : Array Oper} {rest : List Oper} {o : Oper} {a : Act} {Q : Exit → Act → World → Prop} (hgd : o.guard = none) (s x : Operand)
    (ho : o.op = .call { callee := .builtin .append, args := #[s, x], argTypes := #[24, 24] })
    (v : Value) (xs : List Int) (hs : a.eval s = v) (hown : Owns w w0.heap.size v xs) (hbel : Below w0.heap.size w0 w) (p : Option Addr) (cap n m : Nat) (zs : List Int) (hn : n = zs.length) (hm : m = xs.length + zs.length) (hx : a.eval x = .slice p n cap) (hb : BytesAt w p zs)
    (hl : m ≤ 140737488355328)
    (h : ∀ g c w', Owns w' w0.heap.size (.slice (some ⟨g, 0, none⟩) m c) (xs ++ zs) → Below w0.heap.size w0 w' → m ≤ c → c ≤ maxLen → wpList Tryd.prog ops Q rest (a.put o.dst (.slice (some ⟨g, 0, none⟩) m c)) w') : wpList Tryd.prog ops Q (o :: rest) a w := by
  refine wpList_append_bytes hgd s x ho w0.heap.size v xs hs hown p cap n zs hn hx hb (by omega) hbel.size ?_
  intro v' w' h1 h2
  obtain ⟨g, c, e, _, _, _, hc, hcm, _⟩ := h1.form
  have hlen : (xs ++ zs).length = m := by rw [List.length_append]; exact hm.symm
  rw [hlen] at e hc
  subst e
  obtain ⟨g0, c0, e0, hB0, _, _, _, _, hob⟩ := hown.form
  exact h g c w' h1 (hbel.grown h2 hbel.size (fun k hk => by rw [hob] at hk; cases hk; exact hB0)) hc hcm

set_option maxHeartbeats 1000000 in
theorem roomy_n (a : Option Addr) (cap n : Nat) (zs : List Int) (w : World) (hn : n = zs.length) (hl : n ≤ 1048576) (hok : Piece.Ok w ⟨a, cap, zs⟩) :
    Calls Tryd.prog 11 #[.slice a n cap] w fun e w' => ∃ g c, e = .returned (.slice (some ⟨g, 0, none⟩) n c) ∧ Room w' w.heap.size g c zs ∧ Below w.heap.size w w' ∧ n + 2 ≤ c ∧ c ≤ maxLen := by
  have HN : Hid (n = zs.length) := hn
  have HOK : Hid (Piece.Ok w ⟨a, cap, zs⟩) := hok
  clear hn hok
  go_enter Tryd.func11, Tryd.ntmps11
  have HBS : Hid (BytesAt w a zs) := HOK.out.2.1
  go_wp2_with (first | (at_builtin; refine wpList_append_fresh rfl (.tmp 4) (.tmp 5) rfl rfl a cap n zs rfl HN.out HBS.out (by omega) ?_; intro g c w1 ho1 hb1 hc1; have HO1 : Hid (Owns w1 w.heap.size (.slice (some ⟨g, 0, none⟩) n c) zs) := ho1; have HB1 : Hid (Below w.heap.size w w1) := hb1; have hz1 : w.heap.size ≤ w1.heap.size := HB1.out.size; clear ho1 hb1) | (at_builtin; go_must (refine wpList_append_more (w0 := w) rfl (.tmp 7) (.tmp 8) rfl _ zs rfl (HO1.out.later ((Below.refl _ _).alloc (Nat.le_refl _) _)) (HB1.out.alloc hz1 _) (some ⟨w1.heap.size, 0, none⟩) 2 2 (n + 2) [209, 210] rfl (by rw [← HN.out]; rfl) rfl (bytesAt_new w1 [209, 210] 5 _) (by omega) ?_; intro g2 c2 w2 ho2 hb2 hc2 hm2; have HO2 : Hid (Owns w2 w.heap.size (.slice (some ⟨g2, 0, none⟩) (n + 2) c2) (zs ++ [209, 210])) := ho2; have HB2 : Hid (Below w.heap.size w w2) := hb2; have HM2 : Hid (c2 ≤ maxLen) := hm2; have hcm2 : c2 ≤ 9223372036854775807 := hm2; clear ho2 hb2 hm2)))
  go_ret
  exact ⟨g2, c2, rfl, by unfold Room; rw [← HN.out]; exact HO2.out, HB2.out, by omega, HM2.out⟩
end Go.Proofs.YtejjnhaadoafpaaDoor
