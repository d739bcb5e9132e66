/- The contracts of package crc's functions, by walking their bodies: fourPlaces, More, Of, All. -/
import Derived.Test.YtejjnhaadoafpaaDoorRows
import Derived.Test.YtejjnhaadoafpaaDoorMath
import Derived.WalkKit
import Derived.WalkLawsBesides
import Derived.WalkSpells
import Derived.Laws.BitsAllLaws
namespace Go.Proofs.YtejjnhaadoafpaaDoor
open Go.RowKit

/-- the table lies in block 0 -/
def Tab (w : World) : Prop := ∀ i : Nat, i < 16 → w.cell? ⟨0, i, none⟩ = some (.int .u32 (Crc.tabL.getD i 0 : Nat))

theorem tabL_lt : ∀ i, i < 16 → Crc.tabL.getD i 0 < 4294967296 := by decide

set_option maxHeartbeats 400000 in
theorem four_core (x t : Nat) (w : World) (_hx : x < 4294967296) (hi0 : 0 ≤ bits .and .u32 (x : Int) 15) (hi1 : bits .and .u32 (x : Int) 15 < 16) (hT : w.cell? ⟨0, (bits .and .u32 (x : Int) 15).toNat, none⟩ = some (.int .u32 (t : Int))) :
    Calls Tryd.prog 16 #[.int .u32 x] w fun e w' => e = .returned (.int .u32 (bits .xor .u32 ((x : Int) / 16) (t : Int))) ∧ w' = w := by
  go_enter Tryd.func16, Tryd.ntmps16
  go_wp2
  go_ret
  exact ⟨rfl, rfl⟩
theorem four_any (x : Nat) (w : World) (hx : x < 4294967296) (hT : Tab w) :
    Calls Tryd.prog 16 #[.int .u32 x] w fun e w' => e = .returned (.int .u32 (Crc.four x : Nat)) ∧ w' = w := by
  have e : bits .and .u32 (x : Int) 15 = ((x % 16 : Nat) : Int) := by
    have := u32_and_nat x 15 hx (by decide)
    rw [nat_mask4] at this
    exact this
  have h := hT (x % 16) (Nat.mod_lt _ (by decide))
  have hl := tabL_lt (x % 16) (Nat.mod_lt _ (by decide))
  refine (four_core x (Crc.tabL.getD (x % 16) 0) w hx (by rw [e]; omega) (by rw [e]; omega) (by rw [e]; exact h)).mono ?_
  rintro e w' ⟨rfl, rfl⟩
  refine ⟨?_, rfl⟩
  have h2 := u32_xor_nat (x / 16) (Crc.tabL.getD (x % 16) 0) (by omega) hl
  rw [show ((x : Int) / 16) = ((x / 16 : Nat) : Int) from by omega, h2]
  rfl

theorem ret_int {k : IntKind} {a b : Int} (h : a = b) : Ending.returned (.int k a) = .returned (.int k b) := by rw [h]
theorem max_u32 : IntKind.u32.max = 4294967295 := by decide
theorem turn_u32 {s : Nat} (hs : s < 4294967296) : bits .xor .u32 IntKind.u32.max (s : Int) = ((s ^^^ 4294967295 : Nat) : Int) := by
  have := u32_xor_nat 4294967295 s (by decide) hs
  rw [Nat.xor_comm] at this
  rw [max_u32]
  exact this
theorem take_snoc (zs : List Int) (k : Nat) (h : k < zs.length) : zs.take (k + 1) = zs.take k ++ [zs.getD k 0] := by
  rw [List.take_succ_eq_append_getElem h]; simp [List.getD, h]
theorem bs_take {zs : List Int} (h : Crc.Bs zs) (k : Nat) : Crc.Bs (zs.take k) := fun z hz => h z (List.mem_of_mem_take hz)
theorem bs_at {zs : List Int} (h : Crc.Bs zs) {k : Nat} (hk : k < zs.length) : 0 ≤ zs.getD k 0 ∧ zs.getD k 0 < 256 := by
  have e : zs.getD k 0 = zs[k] := by simp [List.getD, hk]
  rw [e]; exact h _ (List.getElem_mem hk)

set_option maxHeartbeats 400000 in
theorem more_core (s : Nat) (b off cap : Nat) (zs : List Int) (w : World) (hs : s < 4294967296) (hT : Tab w) (hn : zs.length ≤ maxLen)
    (hc : ∀ k, k < zs.length → w.cell? ⟨b, off + k, none⟩ = some (.int .u8 (zs.getD k 0))) (hb : Crc.Bs zs) :
    Calls Tryd.prog 8 #[.int .u32 s, .slice (some ⟨b, off, none⟩) zs.length cap] w fun e w' => e = .returned (.int .u32 (Crc.more s zs : Nat)) ∧ w' = w := by
  unfold maxLen at hn
  have hturn := turn_u32 hs
  have hs' : s ^^^ 4294967295 < 4294967296 := Crc.xor_lt hs (by decide)
  obtain ⟨s1, hs1⟩ : ∃ s1, s1 = s ^^^ 4294967295 := ⟨_, rfl⟩
  have HM : Hid (Crc.more s zs = Crc.run s1 zs ^^^ 4294967295) := by rw [hs1]; rfl
  rw [← hs1] at hs' hturn
  clear hs1
  have HT : Hid (Tab w) := hT
  have HC : Hid (∀ k, k < zs.length → w.cell? ⟨b, off + k, none⟩ = some (.int .u8 (zs.getD k 0))) := hc
  have HB : Hid (Crc.Bs zs) := hb
  clear hT hc hb
  go_enter Tryd.func8, Tryd.ntmps8
  go_wp2
  go_loop [5, 12] (fun n i => ∃ k : Nat, k ≤ zs.length ∧ i = .int .i64 k ∧ n = .int .u32 (Crc.run s1 (zs.take k) : Nat)) (fun _ i => zs.length - (intOf i).toNat)
  case atStart => exact ⟨0, Nat.zero_le _, rfl, rfl⟩
  case round =>
    obtain ⟨k, hk, rfl, rfl⟩ := hrel
    have hr := Crc.run_lt hs' (bs_take HB.out k)
    by_cases hlt : k < zs.length
    · have hcell := HC.out k hlt
      have hbd := bs_at HB.out hlt
      have hR : Crc.run s1 (zs.take (k + 1)) = Crc.up (Crc.run s1 (zs.take k)) (zs.getD k 0).toNat := by rw [take_snoc zs k hlt, Crc.run_snoc]
      have HR : Hid (Crc.run s1 (zs.take (k + 1)) = Crc.up (Crc.run s1 (zs.take k)) (zs.getD k 0).toNat) := hR
      clear hR
      obtain ⟨c, hcc⟩ : ∃ c : Nat, zs.getD k 0 = (c : Int) := ⟨(zs.getD k 0).toNat, by omega⟩
      obtain ⟨r, hrr⟩ : ∃ r, r = Crc.run s1 (zs.take k) := ⟨_, rfl⟩
      rw [hcc] at hcell hbd HR
      rw [← hrr] at hr HR
      have hx := u32_xor_nat r c hr (by omega)
      have hx' := Crc.xor_lt hr (show c < 4294967296 by omega)
      rw [← hrr]
      clear hrr hcc
      go_wp2_with fail
      refine (four_any _ _ hx' HT.out).mono ?_
      rintro e w' ⟨rfl, rfl⟩
      go_wp2_with fail
      refine (four_any _ _ (Crc.four_lt hx') HT.out).mono ?_
      rintro e w' ⟨rfl, rfl⟩
      go_wp2
      go_round
      case rel => exact ⟨k + 1, by omega, by go_num, by rw [HR.out]; rfl⟩
      case measure => simp [intOf]; omega
    · have hke : k = zs.length := by omega
      have ht : zs.take k = zs := by rw [hke]; exact List.take_length
      rw [ht] at hr
      have hturn2 := turn_u32 hr
      rw [ht]
      clear ht
      go_wp2
      go_ret
      exact ⟨ret_int (by rw [HM.out]), rfl⟩

set_option maxHeartbeats 400000 in
theorem more_none (s : Nat) (a : Option Addr) (cap : Nat) (w : World) (hs : s < 4294967296) :
    Calls Tryd.prog 8 #[.int .u32 s, .slice a 0 cap] w fun e w' => e = .returned (.int .u32 s) ∧ w' = w := by
  have hturn := turn_u32 hs
  have hs' : s ^^^ 4294967295 < 4294967296 := Crc.xor_lt hs (by decide)
  have hM : (s ^^^ 4294967295) ^^^ 4294967295 = s := by simp [Nat.xor_assoc]
  obtain ⟨s1, hs1⟩ : ∃ s1, s1 = s ^^^ 4294967295 := ⟨_, rfl⟩
  rw [← hs1] at hs' hturn hM
  have HM : Hid (s1 ^^^ 4294967295 = s) := hM
  clear hs1 hM
  have hturn2 := turn_u32 hs'
  go_enter Tryd.func8, Tryd.ntmps8
  go_wp2
  go_loop [5, 12] (fun n i => i = .int .i64 0 ∧ n = .int .u32 s1) (fun _ _ => 0)
  case atStart => exact ⟨rfl, rfl⟩
  case round =>
    obtain ⟨rfl, rfl⟩ := hrel
    go_wp2
    go_ret
    exact ⟨ret_int (by rw [HM.out]), rfl⟩

/-- bytes behind a slice's address -/
def BytesAt (w : World) (a : Option Addr) (zs : List Int) : Prop :=
  zs = [] ∨ ∃ b off, a = some ⟨b, off, none⟩ ∧ ∀ k, k < zs.length → w.cell? ⟨b, off + k, none⟩ = some (.int .u8 (zs.getD k 0))

theorem more_any (s : Nat) (a : Option Addr) (cap : Nat) (zs : List Int) (w : World) (hs : s < 4294967296) (hT : Tab w) (hn : zs.length ≤ maxLen)
    (hc : BytesAt w a zs) (hb : Crc.Bs zs) :
    Calls Tryd.prog 8 #[.int .u32 s, .slice a zs.length cap] w fun e w' => e = .returned (.int .u32 (Crc.more s zs : Nat)) ∧ w' = w := by
  rcases hc with rfl | ⟨b, off, rfl, hc⟩
  · refine (more_none s a cap w hs).mono ?_
    rintro e w' ⟨rfl, rfl⟩
    exact ⟨by rw [Crc.more_nil], rfl⟩
  · exact more_core s b off cap zs w hs hT hn hc hb

theorem of_any (a : Option Addr) (cap : Nat) (zs : List Int) (w : World) (hT : Tab w) (hn : zs.length ≤ maxLen)
    (hc : BytesAt w a zs) (hb : Crc.Bs zs) :
    Calls Tryd.prog 9 #[.slice a zs.length cap] w fun e w' => e = .returned (.int .u32 (Crc.more 0 zs : Nat)) ∧ w' = w := by
  have H : Calls Tryd.prog 8 #[.int .u32 0, .slice a zs.length cap] w fun e w' => e = .returned (.int .u32 (Crc.more 0 zs : Nat)) ∧ w' = w := more_any 0 a cap zs w (by decide) hT hn hc hb
  have HH : Hid _ := H
  clear H hT hn hc hb
  go_enter Tryd.func9, Tryd.ntmps9
  go_wp2_with fail
  refine Calls.mono HH.out ?_
  rintro e w' ⟨rfl, rfl⟩
  go_wp2
  go_ret
  exact ⟨rfl, rfl⟩

/-- a piece: its slice's address and capacity, its bytes -/
structure Piece where
  a : Option Addr
  cap : Nat
  zs : List Int
def Piece.nil : Piece := ⟨none, 0, []⟩
def Piece.val (p : Piece) : Value := .slice p.a p.zs.length p.cap
def Piece.Ok (w : World) (p : Piece) : Prop := p.zs.length ≤ maxLen ∧ BytesAt w p.a p.zs ∧ Crc.Bs p.zs
/-- all bytes of pieces -/
def cat (ps : List Piece) : List Int := ps.flatMap (·.zs)
def PiecesAt (w : World) (a : Option Addr) (ps : List Piece) : Prop :=
  ps = [] ∨ ∃ b off, a = some ⟨b, off, none⟩ ∧ ∀ k, k < ps.length → w.cell? ⟨b, off + k, none⟩ = some (ps.getD k Piece.nil).val
theorem cat_snoc (ps : List Piece) (k : Nat) (h : k < ps.length) : cat (ps.take (k + 1)) = cat (ps.take k) ++ (ps.getD k Piece.nil).zs := by
  rw [List.take_succ_eq_append_getElem h]
  simp only [cat, List.flatMap_append, List.flatMap_cons, List.flatMap_nil, List.append_nil]
  simp [List.getD, h]
theorem ok_at {w : World} {ps : List Piece} (h : ∀ p ∈ ps, p.Ok w) {k : Nat} (hk : k < ps.length) : (ps.getD k Piece.nil).Ok w := by
  have e : ps.getD k Piece.nil = ps[k] := by simp [List.getD, hk]
  rw [e]; exact h _ (List.getElem_mem hk)
theorem bs_cat {w : World} {ps : List Piece} (h : ∀ p ∈ ps, p.Ok w) : Crc.Bs (cat ps) := by
  intro z hz
  obtain ⟨p, hp, hzp⟩ := List.mem_flatMap.1 hz
  exact (h p hp).2.2 z hzp

set_option maxHeartbeats 400000 in
theorem all_core (b off cap : Nat) (ps : List Piece) (w : World) (hT : Tab w) (hn : ps.length ≤ maxLen)
    (hc : ∀ k, k < ps.length → w.cell? ⟨b, off + k, none⟩ = some (ps.getD k Piece.nil).val) (hok : ∀ p ∈ ps, p.Ok w) :
    Calls Tryd.prog 10 #[.slice (some ⟨b, off, none⟩) ps.length cap] w fun e w' => e = .returned (.int .u32 (Crc.more 0 (cat ps) : Nat)) ∧ w' = w := by
  unfold maxLen at hn
  have HT : Hid (Tab w) := hT
  have HC : Hid (∀ k, k < ps.length → w.cell? ⟨b, off + k, none⟩ = some (ps.getD k Piece.nil).val) := hc
  have HB : Hid (∀ p ∈ ps, p.Ok w) := hok
  clear hT hc hok
  go_enter Tryd.func10, Tryd.ntmps10
  go_wp2_with fail
  refine (of_any none 0 [] _ HT.out (by decide) (Or.inl rfl) (fun z hz => by cases hz)).mono ?_
  rintro e w' ⟨rfl, rfl⟩
  rw [Crc.more_nil]
  go_wp2
  go_loop [3, 9] (fun n i => ∃ k : Nat, k ≤ ps.length ∧ i = .int .i64 k ∧ n = .int .u32 (Crc.more 0 (cat (ps.take k)) : Nat)) (fun _ i => ps.length - (intOf i).toNat)
  case atStart => exact ⟨0, Nat.zero_le _, rfl, by simp [cat, Crc.more_nil]⟩
  case round =>
    obtain ⟨k, hk, rfl, rfl⟩ := hrel
    have hr : Crc.more 0 (cat (ps.take k)) < 4294967296 := Crc.more_lt (by decide) (bs_cat (fun p hp => HB.out p (List.mem_of_mem_take hp)))
    by_cases hlt : k < ps.length
    · have hcell := HC.out k hlt
      have hbd := ok_at HB.out hlt
      have hR : Crc.more 0 (cat (ps.take (k + 1))) = Crc.more (Crc.more 0 (cat (ps.take k))) (ps.getD k Piece.nil).zs := by rw [cat_snoc ps k hlt, Crc.more_append]
      obtain ⟨p, hp⟩ : ∃ p, p = ps.getD k Piece.nil := ⟨_, rfl⟩
      obtain ⟨r, hrr⟩ : ∃ r, r = Crc.more 0 (cat (ps.take k)) := ⟨_, rfl⟩
      rw [← hp] at hcell hbd hR
      rw [← hrr] at hr hR
      rw [← hrr]
      have HR : Hid _ := hR
      have HO : Hid _ := hbd
      obtain ⟨a, cp, zs⟩ := p
      simp only [Piece.val] at hcell
      clear hrr hR hp hbd
      go_wp2_with fail
      refine (more_any r a cp zs _ hr HT.out HO.out.1 HO.out.2.1 HO.out.2.2).mono ?_
      rintro e w' ⟨rfl, rfl⟩
      go_wp2
      go_round
      case rel => exact ⟨k + 1, by omega, by go_num, by rw [HR.out]⟩
      case measure => simp [intOf]; omega
    · have hke : k = ps.length := by omega
      have ht : ps.take k = ps := by rw [hke]; exact List.take_length
      rw [ht]
      clear ht hr
      go_wp2
      go_ret
      exact ⟨rfl, rfl⟩
end Go.Proofs.YtejjnhaadoafpaaDoor
