/- heronlaw14: seen. -/
import Derived.Test.YtjlfhaehdllmcaaG31
import Derived.Laws.BytesArg
namespace Go.Proofs.Ytjlfhaehdllmcaa
open Go.RowKit Go.Maps Sf
attribute [local go_sem ↓] Go.wp_at_zero Go.wp_at_succ

theorem conv_uv {w : World} {V : Value} {l : List UInt8} (h : LAt w V (uv l)) : (convert 50 9 V).run Try.prog w = .ok (.string ⟨l.toArray⟩) w := by
  obtain ⟨a, c, rfl, _, _, h3⟩ := h
  rw [uv_len]
  have es : strOfNums (l.map fun b => ((b.toNat : Nat) : Int)) = ⟨l.toArray⟩ := by unfold strOfNums; simp [List.map_map, Function.comp_def]
  rcases h3 with h3 | ⟨b, off, rfl, hc⟩
  · have hl : l = [] := by unfold uv at h3; exact List.map_eq_nil_iff.1 h3
    subst hl
    cases a with
    | none => exact run_convert_bytes_nil w 50 5 (by kernel_rfl) Try.underlying5 0 c 9 Try.underlying9
    | some ad =>
      rw [show ([] : List UInt8).length = 0 from rfl, run_convert_bytes_string w 50 9 5 _ _ _ (by kernel_rfl) Try.underlying5 Try.underlying9]
      have hl : (loadCells ad 0).run Try.prog w = .ok (([] : List Int).map (Value.int .u8)).toArray w := run_loadCells_list (P := Try.prog) w ad [] (fun j v hj => by simp at hj)
      exact run_bytesToString w ad 0 c [] hl
  · rw [← es]
    exact run_convert_bytes_arg w 50 5 (by kernel_rfl) Try.underlying5 b off l.length c (l.map fun b => ((b.toNat : Nat) : Int)) (by simp) (fun i hi => by rw [hc i (.int .u8 (l[i].toNat : Nat)) (by simp [uv, hi])]; simp [hi]) 9 Try.underlying9
theorem infF : (Try.prog.info? 40).map (fun i => (i.zero, i.size, i.bytes)) = some (some (.agg #[.int .i64 0, .int .i64 0, .int .i64 0, .int .i64 0, .string ⟨#[]⟩]), 5, 48) := by kernel_rfl
theorem wpList_append_file {w : World} {ops : Array Oper} {rest : List Oper} {o : Oper} {a : Act} {Q : Exit → Act → World → Prop} (hgd : o.guard = none) (s x : Operand)
    (ho : o.op = .call { callee := .builtin .append, args := #[s, x], argTypes := #[29, 29] })
    (B : Nat) (V : Value) (n : Nat) (xs : List Value) (hs : a.eval s = V) (hown : w.ownsRow B 40 5 V n xs) (b : Nat) (f : Fl) (hx : a.eval x = .slice (some ⟨b, 0, none⟩) 1 1) (hc : w.heap[b]? = some (.cells f.cells.toArray 40 (0, 0)))
    (hn : n ≤ 3000000) (hB : B ≤ w.heap.size)
    (h : ∀ V' w', w'.ownsRow B 40 5 V' (n + 1) (xs ++ f.cells) → w.grownBy w' V.ownBlock → wpList Try.prog ops Q rest (a.put o.dst V') w') : wpList Try.prog ops Q (o :: rest) a w := by
  refine wpList_plain hgd fun K hK => ?_
  obtain ⟨i0, hi, hz0, hz1, hz2⟩ := info_parts infF
  obtain ⟨V', w', hr, h2, h3, _⟩ := run_append_own_wide (P := Try.prog) w B 29 o.type 40 i0 _ 5 48 (by kernel_rfl) hi hz0 hz1 hz2 rfl (by decide) V n xs hown ⟨b, 0, none⟩ 1 1 f.cells rfl
    (fun j u hj => by
      rw [Go.WideShapes.add_plain, Nat.zero_add]
      simp only [World.cell?, hc]
      simpa using hj) (fun u hu => by simp [Fl.cells] at hu; rcases hu with rfl | rfl | rfl | rfl | rfl <;> rfl) (by unfold maxLen; omega) (by omega) hB
  unfold Oper.wp execOp
  simp only [ho, resolve, invoke, builtin, Sem.run_bind, Sem.run_pure, Result.andThen_ok, List.map_toArray, List.map_cons, List.map_nil, hs, hx, hr]
  exact hK _ _ (h V' w' h2 h3)
/-- what is told of inode n -/
def fileOf (d : Dk) (n : Nat) : Fl := match d.ino n with
  | some f => ⟨n, ser d f.nm, f.gen, f.bs.length, ⟨f.bs.toArray⟩⟩
  | none => Fl.zero
def flatF (l : List Fl) : List Value := l.flatMap Fl.cells
def files (d : Dk) (m : Nat) : List Fl := (List.range m).map fun i => fileOf d (i + 1)
theorem files_succ (d : Dk) (m : Nat) : flatF (files d (m + 1)) = flatF (files d m) ++ (fileOf d (m + 1)).cells := by unfold flatF files; rw [List.range_succ]; simp
def SeenPost (d : Dk) (m : Nat) (w : World) (e : Ending) (w' : World) : Prop := ∃ V, e = .returned V ∧ w'.ownsRow w.heap.size 40 5 V m (flatF (files d m)) ∧ Below w.heap.size w w'
structure SeI (w : World) (d : Dk) (v : Value) (j : Nat) (u : World) : Prop where
  lo : Below w.heap.size w u
  ow : u.ownsRow w.heap.size 40 5 v j (flatF (files d j))
theorem se_step {w u u1 w5 : World} {d : Dk} {v V5 : Value} {j : Nat} (h : SeI w d v j u) (k1 : Below u.heap.size u u1) (ho : w5.ownsRow w.heap.size 40 5 V5 (j + 1) (flatF (files d j) ++ (fileOf d (j + 1)).cells)) (hg : u1.grownBy w5 v.ownBlock) : SeI w d V5 (j + 1) w5 := by
  refine ⟨?_, by rw [files_succ]; exact ho⟩
  refine (below_step h.lo k1).grown hg (below_step h.lo k1).size (fun k hk => ?_)
  rcases h.ow.2 with ⟨rfl, _⟩ | ⟨g, cap, cur, rfl, hb, _⟩
  · cases hk
  · have : g = k := Option.some.inj hk
    omega
set_option maxRecDepth 8000 in
set_option maxHeartbeats 1000000 in
theorem seen_any {P : Nat → Prop} {w : World} {B K : Nat} {d : Dk} (h : Dsk P w B d K) (m : Nat) (hm : m ≤ 2000000) :
    Calls Try.prog 7 #[.pointer (some ⟨B, 0, none⟩), .int .i64 (m : Nat)] w (SeenPost d m w) := by
  have HD : Hid (Dsk P w B d K) := h
  have H0 : Hid (SeI w d (.slice none 0 0) 0 w) := ⟨Below.refl _ _, ⟨rfl, .inl ⟨rfl, rfl⟩⟩⟩
  clear h
  go_enter Try.func7, Try.ntmps7
  go_wp2_with fail
  go_loopw [5, 6] (fun v i u => ∃ j : Nat, i = .int .i64 ((j : Int) + 1) ∧ j ≤ m ∧ Hid (SeI w d v j u)) (fun _ i _ => m + 1 - (Go.RowKit.intOf i).toNat)
  case atStart => exact ⟨0, rfl, Nat.zero_le _, H0⟩
  case round =>
    obtain ⟨j, rfl, hj, HS⟩ := hrel
    clear H0
    by_cases hlt : j < m
    · have hlt' : (j : Int) + 1 ≤ (m : Int) := by omega
      have HDr : Hid (Dsk P wr B d K) := HD.out.later HS.out.lo
      have HC : Hid (Calls Try.prog 21 #[.pointer (some ⟨B, 0, none⟩), .int .i64 ((j : Int) + 1)] wr _) := inode_any HDr.out ((j : Int) + 1) (by unfold goodI; omega)
      go_wp2_with fail
      refine HC.out.mono ?_
      rintro e w2 hcase
      have hz : inoZ d ((j : Int) + 1) = d.ino (j + 1) := by unfold inoZ; rw [if_pos (by omega), show ((j : Int) + 1).toNat = j + 1 by omega]
      rcases hcase with ⟨hn, rfl, k2⟩ | ⟨f, hf, rfl, k2⟩
      · have hfo : fileOf d (j + 1) = Fl.zero := by unfold fileOf; rw [← hz, hn]
        have HK2 : Hid (Below wr.heap.size wr w2) := k2
        have HFO : Hid (fileOf d (j + 1) = Fl.zero) := hfo
        obtain ⟨w3, hw3⟩ : ∃ w3, w2.alloc (.cells #[.int .i64 0, .int .i64 0, .int .i64 0, .int .i64 0] 32) = w3 := ⟨_, rfl⟩
        have HW3 : Hid (w2.alloc (.cells #[.int .i64 0, .int .i64 0, .int .i64 0, .int .i64 0] 32) = w3) := hw3
        have k3 : Below w2.heap.size w2 w3 := by rw [← hw3]; exact (Below.refl _ _).alloc (Nat.le_refl _) _
        have HK3 : Hid (Below wr.heap.size wr w3) := below_step k2 k3
        clear HC hn k2 hz hfo hw3 k3
        unfold statV
        go_upto_region 6 with fail
        rw [HW3.out]
        clear HW3
        have hcz : (w3.alloc (.cells #[.int .i64 0, .int .i64 0, .int .i64 0, .int .i64 0, .string ⟨#[]⟩] 40)).heap[w3.heap.size]? = some (.cells Fl.zero.cells.toArray 40 (0, 0)) := heap_alloc_new w3 _
        have HCZ : Hid ((w3.alloc (.cells #[.int .i64 0, .int .i64 0, .int .i64 0, .int .i64 0, .string ⟨#[]⟩] 40)).heap[w3.heap.size]? = some (.cells Fl.zero.cells.toArray 40 (0, 0))) := hcz
        have k4 : Below w3.heap.size w3 (w3.alloc (.cells #[.int .i64 0, .int .i64 0, .int .i64 0, .int .i64 0, .string ⟨#[]⟩] 40)) := (Below.refl _ _).alloc (Nat.le_refl _) _
        have HK4 : Hid (Below wr.heap.size wr (w3.alloc (.cells #[.int .i64 0, .int .i64 0, .int .i64 0, .int .i64 0, .string ⟨#[]⟩] 40))) := below_step HK3.out k4
        have HOW : Hid ((w3.alloc (.cells #[.int .i64 0, .int .i64 0, .int .i64 0, .int .i64 0, .string ⟨#[]⟩] 40)).ownsRow w.heap.size 40 5 u5 j (flatF (files d j))) := ownsRow_keep HS.out.ow (fun b _ _ hl => HK4.out.block b hl)
        have HSZ : Hid (w.heap.size ≤ (w3.alloc (.cells #[.int .i64 0, .int .i64 0, .int .i64 0, .int .i64 0, .string ⟨#[]⟩] 40)).heap.size) := Nat.le_trans HS.out.lo.size HK4.out.size
        clear hcz k4 HK3
        go_wp2_with (first
          | (refine wpList_append_file rfl (.tmp 24) (.tmp 26) rfl w.heap.size _ j (flatF (files d j)) rfl HOW.out w3.heap.size Fl.zero rfl HCZ.out (by omega) HSZ.out ?_; intro V5 w5 ho5 hg5; have HS5 : Hid (SeI w d V5 (j + 1) w5) := se_step HS.out HK4.out (by rw [HFO.out]; exact ho5) hg5; clear ho5 hg5)
          | fail)
        go_roundw
        case rel => exact ⟨j + 1, by go_num, by omega, HS5⟩
        case measure => simp [Go.RowKit.intOf]; omega
      · have hfd : d.ino (j + 1) = some f := by rw [← hz]; exact hf
        have hfw := HD.out.wf.ino _ f hfd
        have hkk := HD.out.k
        have hse := HD.out.wf.serLe f.nm
        obtain ⟨q, hq⟩ : ∃ q, ser d f.nm = q := ⟨_, rfl⟩
        obtain ⟨g, hg⟩ : ∃ g, f.gen = g := ⟨_, rfl⟩
        obtain ⟨z, hzz⟩ : ∃ z, f.bs.length = z := ⟨_, rfl⟩
        have hfo : fileOf d (j + 1) = ⟨j + 1, q, g, z, ⟨f.bs.toArray⟩⟩ := by unfold fileOf; rw [hfd, ← hq, ← hg, ← hzz]
        have HFO : Hid (fileOf d (j + 1) = ⟨j + 1, q, g, z, ⟨f.bs.toArray⟩⟩) := hfo
        rw [hq, hg, hzz, show ((j : Int) + 1).toNat = j + 1 by omega]
        have HK2 : Hid (Below wr.heap.size wr w2) := k2
        obtain ⟨w3, hw3⟩ : ∃ w3, w2.alloc (.cells #[.int .i64 ((j : Int) + 1), .int .i64 (q : Nat), .int .i64 (g : Nat), .int .i64 (z : Nat)] 32) = w3 := ⟨_, rfl⟩
        have HW3 : Hid (w2.alloc (.cells #[.int .i64 ((j : Int) + 1), .int .i64 (q : Nat), .int .i64 (g : Nat), .int .i64 (z : Nat)] 32) = w3) := hw3
        have k3 : Below w2.heap.size w2 w3 := by rw [← hw3]; exact (Below.refl _ _).alloc (Nat.le_refl _) _
        have HK3 : Hid (Below wr.heap.size wr w3) := below_step k2 k3
        obtain ⟨A, hA⟩ : ∃ A, w2.heap.size = A := ⟨_, rfl⟩
        have HA : Hid (w2.heap.size = A) := hA
        have st3 : StatB w3 A (.int .i64 ((j : Int) + 1)) (.int .i64 (q : Nat)) (.int .i64 (g : Nat)) (.int .i64 (z : Nat)) := by rw [← hw3, ← hA]; exact heap_alloc_new w2 _
        obtain ⟨s0, s1, s2, s3, _⟩ := st3.cells
        have HST : Hid (StatB w3 A (.int .i64 ((j : Int) + 1)) (.int .i64 (q : Nat)) (.int .i64 (g : Nat)) (.int .i64 (z : Nat))) := st3
        have HC2 := read_any (HDr.out.later HK3.out) ((j : Int) + 1) (g : Nat) 0 (z : Nat) (by unfold goodI; omega) (by unfold goodI; omega) (by unfold goodI; omega)
        have HRE : Hid (∀ e u, ReadPost d ((j : Int) + 1) (g : Nat) 0 (z : Nat) w3 e u → ∃ V, e = .returned (.tuple #[V, .int .i64 0]) ∧ u.ownsRow w3.heap.size 5 1 V z (uv f.bs) ∧ Below w3.heap.size w3 u) := fun e u hp => by
          have hr0 : readE d ((j : Int) + 1) (g : Nat) 0 (z : Nat) = 0 := by
            unfold readE
            rw [if_neg (by omega), hz, hfd]
            simp only
            rw [if_pos (by rw [hg])]
          rcases hp with ⟨h1, _⟩ | ⟨_, f', V, h1, _, _, h4, h5, h6⟩
          · exact absurd hr0 h1
          · rw [hf] at h1
            cases h1
            refine ⟨V, h4, ?_, h6⟩
            have ec : Ino.cut f (0 : Int).toNat ((z : Nat) : Int).toNat = f.bs := by
              unfold Ino.cut
              rw [Int.toNat_natCast, ← hzz]
              simp
            rw [ec, hzz] at h5
            exact h5
        have HC2 : Hid (Calls Try.prog 19 #[.pointer (some ⟨B, 0, none⟩), .int .i64 ((j : Int) + 1), .int .i64 (g : Nat), .int .i64 0, .int .i64 (z : Nat)] w3 _) := HC2
        have hzl : z ≤ 1048576 := by rw [← hzz]; exact hfw.2.2.2.2.2.1
        clear HC hf k2 hz hfo hw3 k3 hA st3 hfd hfw hse hq hg hzz
        unfold statV
        go_upto_region 6 with fail
        rw [HW3.out, HA.out]
        clear HW3
        go_wp2_with fail
        refine HC2.out.mono ?_
        rintro e w4 hp
        obtain ⟨V, rfl, hV, k4⟩ := HRE.out e w4 hp
        have hcv := conv_uv (owns_lat hV)
        obtain ⟨bs, hbs⟩ : ∃ bs : ByteArray, (⟨f.bs.toArray⟩ : ByteArray) = bs := ⟨_, rfl⟩
        rw [hbs] at hcv
        have HBS : Hid ((⟨f.bs.toArray⟩ : ByteArray) = bs) := hbs
        clear hp HC2 HRE s0 s1 s2 s3 hbs
        have st4 : StatB w4 A (.int .i64 ((j : Int) + 1)) (.int .i64 (q : Nat)) (.int .i64 (g : Nat)) (.int .i64 (z : Nat)) := (k4.block A (Array.getElem?_eq_some_iff.1 HST.out).1).trans HST.out
        obtain ⟨s0, s1, s2, s3, _⟩ := st4.cells
        have HK4 : Hid (Below wr.heap.size wr w4) := below_step HK3.out k4
        have k5 : Below w4.heap.size w4 (w4.alloc (.cells #[.int .i64 ((j : Int) + 1), .int .i64 (q : Nat), .int .i64 (g : Nat), .int .i64 (z : Nat), .string bs] 40)) := (Below.refl _ _).alloc (Nat.le_refl _) _
        have HK5 : Hid (Below wr.heap.size wr (w4.alloc (.cells #[.int .i64 ((j : Int) + 1), .int .i64 (q : Nat), .int .i64 (g : Nat), .int .i64 (z : Nat), .string bs] 40))) := below_step HK4.out k5
        have HCZ : Hid ((w4.alloc (.cells #[.int .i64 ((j : Int) + 1), .int .i64 (q : Nat), .int .i64 (g : Nat), .int .i64 (z : Nat), .string bs] 40)).heap[w4.heap.size]? = some (.cells (Fl.mk (j + 1) q g z bs).cells.toArray 40 (0, 0))) := heap_alloc_new w4 _
        have HOW : Hid ((w4.alloc (.cells #[.int .i64 ((j : Int) + 1), .int .i64 (q : Nat), .int .i64 (g : Nat), .int .i64 (z : Nat), .string bs] 40)).ownsRow w.heap.size 40 5 u5 j (flatF (files d j))) := ownsRow_keep HS.out.ow (fun b _ _ hl => HK5.out.block b hl)
        have HSZ : Hid (w.heap.size ≤ (w4.alloc (.cells #[.int .i64 ((j : Int) + 1), .int .i64 (q : Nat), .int .i64 (g : Nat), .int .i64 (z : Nat), .string bs] 40)).heap.size) := Nat.le_trans HS.out.lo.size HK5.out.size
        obtain ⟨v1, v2, rfl⟩ := own_form hV
        clear hV k4 st4 k5 HK4 HK3 HK2 HST HDr
        go_wp2_with (first
          | (refine wpList_append_file rfl (.tmp 38) (.tmp 43) rfl w.heap.size _ j (flatF (files d j)) rfl HOW.out w4.heap.size (Fl.mk (j + 1) q g z bs) rfl HCZ.out (by omega) HSZ.out ?_; intro V5 w5 ho5 hg5; have HS5 : Hid (SeI w d V5 (j + 1) w5) := se_step HS.out HK5.out (by rw [HFO.out, HBS.out]; exact ho5) hg5; clear ho5 hg5)
          | fail)
        go_roundw
        case rel => exact ⟨j + 1, by go_num, by omega, HS5⟩
        case measure => simp [Go.RowKit.intOf]; omega
    · have hlt' : ¬ (j : Int) + 1 ≤ (m : Int) := by omega
      have HE : Hid (SeenPost d m w (.returned u5) wr) := by
        have e : j = m := by omega
        subst e
        exact ⟨u5, rfl, HS.out.ow, HS.out.lo⟩
      go_wp2
      go_ret
      exact HE.out
end Go.Proofs.Ytjlfhaehdllmcaa
