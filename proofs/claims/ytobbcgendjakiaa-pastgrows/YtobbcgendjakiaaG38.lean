/- past: begins, stands, Stood. -/
import Derived.Test.YtobbcgendjakiaaG37
import Derived.Test.YtobbcgendjakiaaG09
namespace Go.Proofs.Ytobbcgendjakiaa
open Go.RowKit Go.Maps Sf
attribute [local go_sem ↓] Go.wp_at_zero Go.wp_at_succ

/-- does a line begin there? -/
def begB (t : List UInt8) (pl : Int) : Bool := decide (pl = 0) || (decide (0 < pl) && decide (pl ≤ (t.length : Int)) && decide (t[pl.toNat - 1]? = some 10))
/-- is it a whole line there? -/
def stB (t : List UInt8) (pl : Int) (s : ByteArray) : Bool := begB t pl && !(s.data.toList.contains 10) && (decide (s.size < t.length - pl.toNat) && decide (t[pl.toNat + s.size]? = some 10) && decide ((t.drop pl.toNat).take s.size = s.data.toList))
theorem own_cell {w : World} {va : Option Addr} {n c : Nat} {t : List UInt8} (h : OwnB w (.slice va n c) t) {k : Nat} (hk : k < n) : ∃ g x, va = some ⟨g, 0, none⟩ ∧ t[k]? = some x ∧ w.cell? ⟨g, k, none⟩ = some (.int .u8 (x.toNat : Nat)) ∧ n ≤ c := by
  rcases h.2 with ⟨e, h0⟩ | ⟨g, cap, cur, e, _⟩
  · cases e; omega
  · have hl := owns_lat h
    cases e
    obtain ⟨a', c', e', h1, h2, h3⟩ := hl
    rw [uv_len] at e' h1
    cases e'
    rcases h3 with h3 | ⟨b', off, e2, hc⟩
    · have : (uv t).length = 0 := by rw [h3]; rfl
      rw [uv_len] at this
      omega
    · cases e2
      refine ⟨g, t[k], rfl, List.getElem?_eq_getElem hk, ?_, h1⟩
      have := hc k _ (by unfold uv; rw [List.getElem?_map, List.getElem?_eq_getElem hk]; rfl)
      rw [Nat.zero_add] at this
      exact this
theorem u8_eq (x : UInt8) : (((x.toNat : Nat) : Int) == (10 : Int)) = decide (x = 10) := by
  rw [Bool.eq_iff_iff]
  simp only [beq_iff_eq, decide_eq_true_eq]
  constructor
  · intro h
    apply UInt8.toNat_inj.1
    have : x.toNat = 10 := by omega
    rw [this]; rfl
  · intro h
    subst h
    rfl
set_option maxRecDepth 8000 in
set_option maxHeartbeats 400000 in
theorem begins_any {w : World} {va : Option Addr} {n c : Nat} {t : List UInt8} (h : OwnB w (.slice va n c) t) (hn : t.length = n) (hn2 : n ≤ 1048576) (pl : Int) (hp : goodI pl) : Calls Try.prog 53 #[.slice va n c, .int .i64 pl] w fun e w' => e = .returned (.bool (begB t pl)) ∧ w' = w := by
  unfold goodI at hp
  by_cases h0 : pl = 0
  · subst h0
    have HE : Hid (begB t 0 = true) := by show _ = _; unfold begB; simp
    clear h
    go_enter Try.func53, Try.ntmps53
    go_wp2
    go_ret
    exact ⟨by rw [HE.out]; rfl, rfl⟩
  · have t0 : (pl == (0 : Int)) = false := by simp; exact h0
    by_cases h1 : 0 < pl
    · by_cases h2 : pl ≤ (n : Int)
      · obtain ⟨k, rfl⟩ : ∃ k : Nat, pl = ((k + 1 : Nat) : Int) := ⟨(pl - 1).toNat, by omega⟩
        obtain ⟨g, x, rfl, hx, hc, hnc⟩ := own_cell h (k := k) (by omega)
        have HE : Hid (begB t ((k + 1 : Nat) : Int) = decide (x = 10)) := by
          show _ = _
          unfold begB
          rw [show ((k + 1 : Nat) : Int).toNat - 1 = k by omega, hx, hn, decide_eq_false h0, decide_eq_true h1, decide_eq_true h2]
          simp
        have t5 := u8_eq x
        have t1 : (0 : Int) < (k : Int) + 1 := by omega
        have t2 : (k : Int) + 1 ≤ (n : Int) := by omega
        have t0' : ((k : Int) + 1 == (0 : Int)) = false := by simp; omega
        have t3 : (k : Int) < (n : Int) := by omega
        clear h h0 t0 h1 h2 hx
        go_enter Try.func53, Try.ntmps53
        go_wp2
        go_ret
        exact ⟨by rw [HE.out]; rfl, rfl⟩
      · have HE : Hid (begB t pl = false) := by show _ = _; unfold begB; rw [hn, decide_eq_false h0, decide_eq_false h2]; simp
        clear h
        go_enter Try.func53, Try.ntmps53
        go_wp2
        go_ret
        exact ⟨by rw [HE.out]; rfl, rfl⟩
    · have HE : Hid (begB t pl = false) := by show _ = _; unfold begB; rw [decide_eq_false h0, decide_eq_false h1]; simp
      clear h
      go_enter Try.func53, Try.ntmps53
      go_wp2
      go_ret
      exact ⟨by rw [HE.out]; rfl, rfl⟩
theorem conv_uvt {w : World} {V : Value} {l : List UInt8} (tt : TypeId) (ht : Try.prog.underlying tt = some (.slice 5)) (h : LAt w V (uv l)) : (convert tt 9 V).run Try.prog w = .ok (.string ⟨l.toArray⟩) w := by
  obtain ⟨a, c, rfl, _, _, h3⟩ := h
  rw [uv_len]
  have es : strOfNums (l.map fun b => ((b.toNat : Nat) : Int)) = ⟨l.toArray⟩ := by unfold strOfNums; simp [List.map_map, Function.comp_def]
  rcases h3 with h3 | ⟨b, off, rfl, hc⟩
  · have hl : l = [] := by unfold uv at h3; exact List.map_eq_nil_iff.1 h3
    subst hl
    cases a with
    | none => exact run_convert_bytes_nil w tt 5 ht Try.underlying5 0 c 9 Try.underlying9
    | some ad =>
      rw [show ([] : List UInt8).length = 0 from rfl, run_convert_bytes_string w tt 9 5 _ _ _ ht Try.underlying5 Try.underlying9]
      have hl : (loadCells ad 0).run Try.prog w = .ok (([] : List Int).map (Value.int .u8)).toArray w := run_loadCells_list (P := Try.prog) w ad [] (fun j v hj => by simp at hj)
      exact run_bytesToString w ad 0 c [] hl
  · rw [← es]
    exact run_convert_bytes_arg w tt 5 ht Try.underlying5 b off l.length c (l.map fun b => ((b.toNat : Nat) : Int)) (by simp) (fun i hi => by rw [hc i (.int .u8 (l[i].toNat : Nat)) (by simp [uv, hi])]; simp [hi]) 9 Try.underlying9
theorem beq_bytes' (a b : ByteArray) : (a.toList == b.toList) = decide (a = b) := by
  rw [Bool.eq_iff_iff]
  simp only [beq_iff_eq, decide_eq_true_eq]
  constructor
  · intro h
    apply ByteArray.ext
    rw [← Array.toList_inj, ← Lib.toList_data, ← Lib.toList_data]
    exact h
  · intro h; rw [h]
set_option maxRecDepth 8000 in
set_option maxHeartbeats 4000000 in
theorem stands_any {w : World} {va : Option Addr} {n c : Nat} {t : List UInt8} (h : OwnB w (.slice va n c) t) (hn : t.length = n) (hn2 : n ≤ 1048576) (pl : Int) (hp : goodI pl) (s : ByteArray) (hs : s.size ≤ maxLen) : Calls Try.prog 37 #[.slice va n c, .int .i64 pl, .string s] w fun e w' => e = .returned (.bool (stB t pl s)) ∧ w' = w := by
  have HB : Hid (Calls Try.prog 53 #[.slice va n c, .int .i64 pl] w fun e w' => e = .returned (.bool (begB t pl)) ∧ w' = w) := begins_any h hn hn2 pl hp
  have HI : Hid (Calls Try.prog 54 #[.string s, .int .u8 10] w fun e w' => e = .returned (.int .i64 (Lib.indexByte s.data.toList 10)) ∧ w' = w) := Try.strings_IndexByte s 10 w
  unfold maxLen at hs
  cases hb : begB t pl with
  | false =>
    have HE : Hid (stB t pl s = false) := by show _ = _; unfold stB; rw [hb]; rfl
    rw [hb] at HB
    clear h hb
    go_enter Try.func37, Try.ntmps37
    go_wp2_with fail
    refine HB.out.mono ?_
    rintro e w1 ⟨rfl, rfl⟩
    go_wp2_with fail
    go_ret
    exact ⟨by rw [HE.out]; rfl, rfl⟩
  | true =>
    rw [hb] at HB
    obtain ⟨i, hi⟩ : ∃ i, Lib.indexByte s.data.toList 10 = i := ⟨_, rfl⟩
    rw [hi] at HI
    rcases idx_spec s.data.toList with ⟨hno, hix⟩ | ⟨a, r, hdr, _, hix⟩
    · have hi1 : i = -1 := hi.symm.trans hix
      subst hi1
      obtain ⟨k, hk0, hk⟩ : ∃ k : Nat, pl = (k : Int) ∧ k ≤ n := by
        unfold begB at hb
        simp only [Bool.or_eq_true, Bool.and_eq_true, decide_eq_true_eq] at hb
        exact ⟨pl.toNat, by omega, by omega⟩
      subst hk0
      have HST : Hid (stB t (k : Int) s = (decide (s.size < n - k) && decide (t[k + s.size]? = some 10) && decide ((t.drop k).take s.size = s.data.toList))) := by
        show _ = _
        unfold stB
        rw [hb, hno, Int.toNat_natCast, hn]
        rfl
      obtain ⟨m, hm⟩ : ∃ m, s.size = m := ⟨_, rfl⟩
      by_cases hlt : m < n - k
      · have hlt2 : (m : Int) < ((n - k : Nat) : Int) := by omega
        obtain ⟨g, x, rfl, hx, hc, hnc⟩ := own_cell h (k := k + m) (by omega)
        have hck : ¬ c = k := by omega
        have t5 := u8_eq x
        by_cases hx10 : x = 10
        · have hla : LAt w (.slice (some ⟨g, k, none⟩) m (c - k)) (uv ((t.drop k).take m)) := by
            have q := lat_at (M := k) (T := m) (x := k) (owns_lat h) hk (.inr rfl) (by omega)
            rw [← uv_drop, ← uv_take] at q
            exact q
          have hcv : (convert 72 9 (.slice (some ⟨g, k, none⟩) m (c - k))).run Try.prog w = .ok (.string ⟨((t.drop k).take m).toArray⟩) w := conv_uvt 72 (by kernel_rfl) hla
          have HE : Hid (stB t (k : Int) s = (List.take m (List.drop k t) == s.toList)) := by
            show _ = _
            rw [HST.out, hm, decide_eq_true hlt, hx, hx10, Lib.toList_data]
            simp only [decide_true, Bool.true_and]
            rw [Bool.eq_iff_iff]
            simp
          clear h hb hi hno hix hla
          go_enter Try.func37, Try.ntmps37
          go_wp2_with fail
          refine HB.out.mono ?_
          rintro e w1 ⟨rfl, rfl⟩
          go_wp2_with fail
          refine HI.out.mono ?_
          rintro e w2 ⟨rfl, rfl⟩
          go_wp2_with fail
          go_ret
          exact ⟨by rw [HE.out]; rfl, rfl⟩
        · have t5' : (((x.toNat : Nat) : Int) == (10 : Int)) = false := by rw [t5]; exact decide_eq_false hx10
          have HE : Hid (stB t (k : Int) s = false) := by
            show _ = _
            rw [HST.out, hm, hx]
            have : decide (some x = some (10 : UInt8)) = false := decide_eq_false (fun e => hx10 (Option.some.inj e))
            rw [this]
            simp
          clear h hb hi hno hix t5
          go_enter Try.func37, Try.ntmps37
          go_wp2_with fail
          refine HB.out.mono ?_
          rintro e w1 ⟨rfl, rfl⟩
          go_wp2_with fail
          refine HI.out.mono ?_
          rintro e w2 ⟨rfl, rfl⟩
          go_wp2_with fail
          go_ret
          exact ⟨by rw [HE.out]; rfl, rfl⟩
      · have HE : Hid (stB t (k : Int) s = false) := by
          show _ = _
          rw [HST.out, hm, decide_eq_false hlt]
          rfl
        rcases h.2 with ⟨e, h0⟩ | ⟨g, cap, cur, e, _⟩
        · cases e
          obtain rfl : k = 0 := by omega
          have hlt2 : ¬ (m : Int) < 0 := by omega
          have HE0 : Hid (stB t 0 s = false) := HE.out
          clear h hb hi hno hix HST HE
          go_enter Try.func37, Try.ntmps37
          go_wp2_with fail
          refine HB.out.mono ?_
          rintro e w1 ⟨rfl, rfl⟩
          go_wp2_with fail
          refine HI.out.mono ?_
          rintro e w2 ⟨rfl, rfl⟩
          go_wp2_with fail
          go_ret
          exact ⟨by rw [HE0.out]; rfl, rfl⟩
        · have hva := (Value.slice.inj e).1
          subst hva
          have hnc : n ≤ c := by
            obtain ⟨_, _, e2, h2, _⟩ := owns_lat h
            rw [uv_len] at h2 e2
            obtain ⟨_, _, e3⟩ := Value.slice.inj e2
            omega
          have hlt2 : ¬ (m : Int) < ((n - k : Nat) : Int) := by omega
          clear e
          by_cases hck : c = k
          · subst hck
            clear h hb hi hno hix HST
            go_enter Try.func37, Try.ntmps37
            go_wp2_with fail
            refine HB.out.mono ?_
            rintro e w1 ⟨rfl, rfl⟩
            go_wp2_with fail
            refine HI.out.mono ?_
            rintro e w2 ⟨rfl, rfl⟩
            go_wp2_with fail
            go_ret
            exact ⟨by rw [HE.out]; rfl, rfl⟩
          · clear h hb hi hno hix HST
            go_enter Try.func37, Try.ntmps37
            go_wp2_with fail
            refine HB.out.mono ?_
            rintro e w1 ⟨rfl, rfl⟩
            go_wp2_with fail
            refine HI.out.mono ?_
            rintro e w2 ⟨rfl, rfl⟩
            go_wp2_with fail
            go_ret
            exact ⟨by rw [HE.out]; rfl, rfl⟩
    · have hi1 : i = ((a.length : Nat) : Int) := hi.symm.trans hix
      subst hi1
      have HE : Hid (stB t pl s = false) := by
        show _ = _
        unfold stB
        have : s.data.toList.contains 10 = true := by rw [hdr]; simp
        rw [this]
        simp
      obtain ⟨q, hq⟩ : ∃ q, a.length = q := ⟨_, rfl⟩
      rw [hq] at HI
      have hq0 : (0 : Int) ≤ (q : Int) := by omega
      clear h hb hi hix hdr hq
      go_enter Try.func37, Try.ntmps37
      go_wp2_with fail
      refine HB.out.mono ?_
      rintro e w1 ⟨rfl, rfl⟩
      go_wp2_with fail
      refine HI.out.mono ?_
      rintro e w2 ⟨rfl, rfl⟩
      go_wp2_with fail
      go_ret
      exact ⟨by rw [HE.out]; rfl, rfl⟩
set_option maxRecDepth 8000 in
theorem stood_any {P : Nat → Prop} {w : World} {B C : Nat} {p : Pv} (h : Pst P w B p C) (x y pl : Int) (hx : goodI x) (hy : goodI y) (hp : goodI pl) (s : ByteArray) (hs : s.size ≤ maxLen) : Calls Try.prog 17 #[.pointer (some ⟨B, 0, none⟩), .int .i64 x, .int .i64 y, .int .i64 pl, .string s] w fun e w' => e = .returned (.bool (stB (p.sh (x, y)) pl s)) ∧ w' = w := by
  obtain ⟨L, hL, _⟩ := h.m
  obtain ⟨c0, _, _⟩ := hL.cells
  obtain ⟨V, hV0, hV, _⟩ := hL.textAt (x, y)
  have hgG : goodG (x, y) := ⟨hx, hy⟩
  have hlk := hL.shm.get lawG (mt := 73) (e := 72) (by kernel_rfl) (by kernel_rfl) hgG (keyG _ hgG)
  rw [hV0] at hlk
  have hlk : (Instr.lookup 73 (.map (some L.ms)) (.agg #[.int .i64 x, .int .i64 y]) false).run Try.prog w = .ok V w := hlk
  obtain ⟨va, vc, rfl, _⟩ := hV.form
  have HC : Hid (Calls Try.prog 37 #[.slice va (p.sh (x, y)).length vc, .int .i64 pl, .string s] w _) := stands_any hV rfl (h.ok.sh _) pl hp s hs
  clear hL h hV0 hV
  go_enter Try.func17, Try.ntmps17
  go_wp2_with fail
  refine HC.out.mono ?_
  rintro e w1 ⟨rfl, rfl⟩
  go_wp2_with fail
  go_ret
  exact ⟨rfl, rfl⟩
end Go.Proofs.Ytobbcgendjakiaa
