/- Plain mathematics of tables and their images. -/
import Derived.Test.YtdngileimmgdnaaDoorG00
namespace Go.Proofs.YtdngileimmgdnaaDoor

/-- A TABLE: the class of each byte, the rows, the words. -/
structure Dt where
  cl : Nat → Int
  nx : List (List Int)
  fo : List Nat
  en : List Nat
def Dt.S (d : Dt) : Nat := d.nx.length
def Dt.C (d : Dt) : Nat := (d.nx.getD 0 []).length
def Dt.row (d : Dt) (s : Nat) : List Int := d.nx.getD s []
def Dt.f (d : Dt) (s : Nat) : Nat := d.fo.getD s 0
def Dt.e (d : Dt) (s : Nat) : Nat := d.en.getD s 0
def zeroDt : Dt := ⟨fun _ => 0, [], [], []⟩
/-- from 0 on and below another -/
def blw (n : Nat) (z : Int) : Bool := decide (0 ≤ z) && decide (z < (n : Int))
theorem blw_iff {n : Nat} {z : Int} : blw n z = true ↔ 0 ≤ z ∧ z < (n : Int) := by simp [blw]
/-- all bits of one are in the other -/
def inn (a b : Nat) : Bool := (a &&& b) == a
def keepsT (d : Dt) (s : Nat) (r : List Int) : Bool := inn (d.f s) (d.e s) && r.all fun t => inn (d.f s) (d.f t.toNat)
def sizesT (d : Dt) : Bool := decide (1 ≤ d.S ∧ d.S ≤ 4096 ∧ d.fo.length = d.S ∧ d.en.length = d.S)
def classesT (d : Dt) : Bool := decide (1 ≤ d.C ∧ d.C ≤ 256) && (List.range 256).all fun b => blw d.C (d.cl b)
def rowsT (d : Dt) : Bool := d.nx.all fun r => decide (r.length = d.C) && r.all (blw d.S)
def foundT (d : Dt) : Bool := (List.range d.S).all fun s => keepsT d s (d.row s)
/-- THE TABLE FITS -/
def rightT (d : Dt) : Bool := sizesT d && (classesT d && (rowsT d && foundT d))

structure Fits (d : Dt) : Prop where
  s1 : 1 ≤ d.S
  s2 : d.S ≤ 4096
  lf : d.fo.length = d.S
  le : d.en.length = d.S
  c1 : 1 ≤ d.C
  c2 : d.C ≤ 256
  cl : ∀ b, b < 256 → 0 ≤ d.cl b ∧ d.cl b < (d.C : Int)
  rl : ∀ s, s < d.S → (d.row s).length = d.C
  nx : ∀ s, s < d.S → ∀ t ∈ d.row s, 0 ≤ t ∧ t < (d.S : Int)
  kf : ∀ s, s < d.S → keepsT d s (d.row s) = true
theorem row_mem {d : Dt} {s : Nat} (h : s < d.S) : d.row s ∈ d.nx := by
  unfold Dt.row Dt.S at *
  rw [List.getD_eq_getElem?_getD, List.getElem?_eq_getElem h]
  exact List.getElem_mem h
theorem mem_row {d : Dt} {r : List Int} (h : r ∈ d.nx) : ∃ s, s < d.S ∧ d.row s = r := by
  obtain ⟨s, hs, e⟩ := List.getElem_of_mem h
  refine ⟨s, hs, ?_⟩
  unfold Dt.row
  rw [List.getD_eq_getElem?_getD, List.getElem?_eq_getElem hs]
  exact e
theorem fits_iff (d : Dt) : rightT d = true ↔ Fits d := by
  unfold rightT sizesT classesT rowsT foundT
  simp only [Bool.and_eq_true, decide_eq_true_eq, List.all_eq_true, List.mem_range, blw_iff]
  constructor
  · rintro ⟨⟨h1, h2, h3, h4⟩, ⟨⟨h5, h6⟩, h7⟩, h8, h9⟩
    exact ⟨h1, h2, h3, h4, h5, h6, h7, fun s hs => (h8 _ (row_mem hs)).1, fun s hs t ht => (h8 _ (row_mem hs)).2 t ht, h9⟩
  · intro h
    refine ⟨⟨h.s1, h.s2, h.lf, h.le⟩, ⟨⟨h.c1, h.c2⟩, h.cl⟩, fun r hr => ?_, h.kf⟩
    obtain ⟨s, hs, rfl⟩ := mem_row hr
    exact ⟨h.rl s hs, h.nx s hs⟩

/-- the image -/
def wordB : List Int := [72, 69, 82, 79, 78, 68, 70, 49]
def rowB (r : List Int) : List Int := r.flatMap fun z => Rec.num z.toNat 2
def stateB (d : Dt) (s : Nat) : List Int := rowB (d.row s) ++ Rec.num (d.f s) 4 ++ Rec.num (d.e s) 4
def classB (d : Dt) (n : Nat) : List Int := (List.range n).flatMap fun b => Rec.num (d.cl b).toNat 1
def statesB (d : Dt) (n : Nat) : List Int := (List.range n).flatMap fun s => stateB d s
def headB (d : Dt) : List Int := wordB ++ Rec.num d.S 4 ++ Rec.num d.C 2
def bodyB (d : Dt) : List Int := headB d ++ classB d 256 ++ statesB d d.S
def sumB (zs : List Int) : List Int := Rec.num (Crc.more 0 zs) 4
def imgT (d : Dt) : List Int := bodyB d ++ sumB (bodyB d)

theorem list_range {α : Type} (l : List α) (z : α) : (List.range l.length).map (fun i => l.getD i z) = l := by
  apply List.ext_getElem (by simp)
  intro i h1 h2
  simp [List.getElem?_eq_getElem h2]
/-- lists of equal pieces -/
theorem flat_len {f : Nat → List Int} {L : Nat} : ∀ n, (∀ i, i < n → (f i).length = L) → ((List.range n).flatMap f).length = n * L
  | 0, _ => by simp
  | n + 1, h => by
    rw [List.range_succ, List.flatMap_append, List.length_append, flat_len n (fun i hi => h i (by omega))]
    simp [h n (by omega), Nat.succ_mul]
theorem flat_snoc (f : Nat → List Int) (n : Nat) : (List.range (n + 1)).flatMap f = (List.range n).flatMap f ++ f n := by
  rw [List.range_succ, List.flatMap_append]; simp
theorem flat_sub {f : Nat → List Int} {L : Nat} : ∀ n, (∀ i, i < n → (f i).length = L) → ∀ i, i < n → (((List.range n).flatMap f).drop (i * L)).take L = f i
  | 0, _ => fun i hi => by omega
  | n + 1, h => fun i hi => by
    have hl := flat_len n (fun i hi => h i (by omega))
    rw [flat_snoc]
    by_cases e : i < n
    · have h1 : (i + 1) * L ≤ n * L := Nat.mul_le_mul_right _ e
      rw [Nat.succ_mul] at h1
      rw [List.drop_append_of_le_length (by omega), List.take_append_of_le_length (by rw [List.length_drop]; omega)]
      exact flat_sub n (fun i hi => h i (by omega)) i e
    · have e2 : i = n := by omega
      subst e2
      rw [← hl, List.drop_left, List.take_of_length_le]
      rw [h i (by omega)]
      exact Nat.le_refl _
theorem sub_sub {zs Y : List Int} {p L k m : Nat} (h : (zs.drop p).take L = Y) (hk : k + m ≤ L) : (zs.drop (p + k)).take m = (Y.drop k).take m := by
  subst h
  rw [List.drop_take, List.take_take, List.drop_drop]
  congr 1
  omega
theorem chunks {L : Nat} : ∀ (n : Nat) (zs : List Int), zs.length = n * L → (List.range n).flatMap (fun i => (zs.drop (i * L)).take L) = zs
  | 0, zs, h => by
    have : zs = [] := List.eq_nil_of_length_eq_zero (by omega)
    simp [this]
  | n + 1, zs, h => by
    rw [Nat.succ_mul] at h
    rw [flat_snoc]
    have h1 := chunks (L := L) n (zs.take (n * L)) (by rw [List.length_take]; omega)
    have e : (List.range n).flatMap (fun i => (zs.drop (i * L)).take L) = (List.range n).flatMap (fun i => ((zs.take (n * L)).drop (i * L)).take L) := by
      rw [List.flatMap_def, List.flatMap_def]
      congr 1
      refine List.map_congr_left (fun i hi => ?_)
      have hi' : i < n := by simpa using hi
      have h2 : (i + 1) * L ≤ n * L := Nat.mul_le_mul_right _ hi'
      rw [Nat.succ_mul] at h2
      rw [List.drop_take, List.take_take]
      congr 1
      omega
    rw [e, h1, List.take_of_length_le (l := zs.drop (n * L)) (by rw [List.length_drop]; omega), List.take_append_drop]
theorem num_val {l : List Int} (h : Rec.Bs l) : Rec.num (Rec.val l) l.length = l := by
  induction l with
  | nil => rfl
  | cons z r ih =>
    have hz := h z (by simp)
    have hr := ih (fun y hy => h y (by simp [hy]))
    rw [List.length_cons, Rec.num_cons]
    simp only [Rec.val]
    rw [show (z.toNat + 256 * Rec.val r) % 256 = z.toNat by omega, show (z.toNat + 256 * Rec.val r) / 256 = Rec.val r by omega, hr]
    congr 1
    omega

/-- numbers read at places -/
def vl (zs : List Int) (p n : Nat) : Nat := Rec.val ((zs.drop p).take n)
theorem vl_lt {zs : List Int} (h : Rec.Bs zs) (p n : Nat) : vl zs p n < 256 ^ n := by
  have h1 := Rec.val_lt (Rec.bs_take (Rec.bs_drop h p) n)
  refine Nat.lt_of_lt_of_le h1 (Nat.pow_le_pow_right (by decide) ?_)
  rw [List.length_take]
  omega
theorem num_vl {zs : List Int} (h : Rec.Bs zs) {p n : Nat} (hp : p + n ≤ zs.length) : Rec.num (vl zs p n) n = (zs.drop p).take n := by
  have h1 := num_val (Rec.bs_take (Rec.bs_drop h p) n)
  rw [List.length_take, List.length_drop, Nat.min_eq_left (by omega)] at h1
  exact h1
def rdS (zs : List Int) : Nat := vl zs 8 4
def rdC (zs : List Int) : Nat := vl zs 12 2
def rdL (zs : List Int) : Nat := 8 + 2 * rdC zs
def rdCl (zs : List Int) (b : Nat) : Int := (vl zs (14 + b) 1 : Nat)
def rdRow (zs : List Int) (s : Nat) : List Int := (List.range (rdC zs)).map fun c => ((vl zs (270 + s * rdL zs + c * 2) 2 : Nat) : Int)
def rdF (zs : List Int) (s : Nat) : Nat := vl zs (270 + s * rdL zs + 2 * rdC zs) 4
def rdE (zs : List Int) (s : Nat) : Nat := vl zs (270 + s * rdL zs + 2 * rdC zs + 4) 4
/-- THE TABLE THAT BYTES TELL -/
def rdT (zs : List Int) : Dt := ⟨rdCl zs, (List.range (rdS zs)).map (rdRow zs), (List.range (rdS zs)).map (rdF zs), (List.range (rdS zs)).map (rdE zs)⟩
def headT (zs : List Int) : Bool := decide (zs.take 8 = wordB)
def wholeT (zs : List Int) : Bool := headT zs && (decide (rdS zs ≤ 4096 ∧ rdC zs ≤ 256) && decide (zs.length = 270 + rdS zs * rdL zs))
def sumT (b : List Int) : Bool := decide (4 ≤ b.length) && decide (Rec.val (b.drop (b.length - 4)) = Crc.more 0 (b.take (b.length - 4)))
def okT (b : List Int) : Bool := sumT b && (wholeT (b.take (b.length - 4)) && rightT (rdT (b.take (b.length - 4))))
/-- two tables that are the same -/
def sameD (a b : Dt) : Prop := (∀ i, i < 256 → a.cl i = b.cl i) ∧ a.nx = b.nx ∧ a.fo = b.fo ∧ a.en = b.en
theorem bs_num (v n : Nat) : Rec.Bs (Rec.num v n) := Rec.num_bs v n
theorem bs_flat {α : Type} {l : List α} {f : α → List Int} (h : ∀ x ∈ l, Rec.Bs (f x)) : Rec.Bs (l.flatMap f) := by
  intro z hz
  obtain ⟨x, hx, hzx⟩ := List.mem_flatMap.1 hz
  exact h x hx z hzx
theorem bs_wordB : Rec.Bs wordB := Rec.bs_lit (by decide)
theorem bs_rowB (r : List Int) : Rec.Bs (rowB r) := bs_flat (fun _ _ => bs_num _ _)
theorem bs_stateB (d : Dt) (s : Nat) : Rec.Bs (stateB d s) := Rec.bs_append (Rec.bs_append (bs_rowB _) (bs_num _ _)) (bs_num _ _)
theorem bs_headB (d : Dt) : Rec.Bs (headB d) := Rec.bs_append (Rec.bs_append bs_wordB (bs_num _ _)) (bs_num _ _)
theorem bs_bodyB (d : Dt) : Rec.Bs (bodyB d) := Rec.bs_append (Rec.bs_append (bs_headB d) (bs_flat (fun _ _ => bs_num _ _))) (bs_flat (fun _ _ => bs_stateB _ _))
theorem bs_imgT (d : Dt) : Rec.Bs (imgT d) := Rec.bs_append (bs_bodyB d) (bs_num _ _)
theorem rowB_len (r : List Int) : (rowB r).length = 2 * r.length := by
  unfold rowB
  induction r with
  | nil => rfl
  | cons z r ih => simp [Rec.num_length, ih]; omega
theorem stateB_len (d : Dt) (s : Nat) : (stateB d s).length = 8 + 2 * (d.row s).length := by simp [stateB, rowB_len, Rec.num_length]; omega
theorem headB_len (d : Dt) : (headB d).length = 14 := by simp [headB, wordB, Rec.num_length]
theorem classB_len (d : Dt) (n : Nat) : (classB d n).length = n := by
  unfold classB
  rw [flat_len n (fun i _ => Rec.num_length _ 1)]
  omega
section
variable {d : Dt}
theorem Fits.slen (h : Fits d) {s : Nat} (hs : s < d.S) : (stateB d s).length = 8 + 2 * d.C := by rw [stateB_len, h.rl s hs]
theorem Fits.statesB_len (h : Fits d) {n : Nat} (hn : n ≤ d.S) : (statesB d n).length = n * (8 + 2 * d.C) := flat_len n (fun _ hi => h.slen (by omega))
theorem Fits.bodyB_len (h : Fits d) : (bodyB d).length = 270 + d.S * (8 + 2 * d.C) := by
  unfold bodyB
  rw [List.length_append, List.length_append, headB_len, classB_len, h.statesB_len (Nat.le_refl _)]
theorem Fits.imgT_len (h : Fits d) : (imgT d).length = 274 + d.S * (8 + 2 * d.C) := by
  unfold imgT sumB
  rw [List.length_append, h.bodyB_len, Rec.num_length]
  omega
theorem num_num {v n : Nat} (h : v < 256 ^ n) : Rec.val (Rec.num v n) = v := by rw [Rec.val_num, Nat.mod_eq_of_lt h]
theorem body_word (d : Dt) : (bodyB d).take 8 = wordB := by
  unfold bodyB headB
  rw [List.append_assoc, List.append_assoc, List.append_assoc]
  exact List.take_left' (l₁ := wordB) rfl
theorem body_at (d : Dt) {p n : Nat} {A Y Z : List Int} (e : bodyB d = A ++ (Y ++ Z)) (hA : A.length = p) (hY : Y.length = n) : ((bodyB d).drop p).take n = Y := by
  rw [e, List.drop_left' hA, List.take_left' hY]
theorem Fits.rdS (h : Fits d) : rdS (bodyB d) = d.S := by
  unfold Go.Proofs.YtdngileimmgdnaaDoor.rdS vl
  rw [body_at d (p := 8) (A := wordB) (Y := Rec.num d.S 4) (Z := Rec.num d.C 2 ++ (classB d 256 ++ statesB d d.S)) (by simp [bodyB, headB]) rfl (Rec.num_length _ _)]
  exact num_num (by have := h.s2; omega)
theorem Fits.rdC (h : Fits d) : rdC (bodyB d) = d.C := by
  unfold Go.Proofs.YtdngileimmgdnaaDoor.rdC vl
  rw [body_at d (A := wordB ++ Rec.num d.S 4) (Y := Rec.num d.C 2) (Z := classB d 256 ++ statesB d d.S) (by simp [bodyB, headB]) (by simp [wordB, Rec.num_length]) (Rec.num_length _ _)]
  exact num_num (by have := h.c2; omega)
theorem Fits.rdCl (h : Fits d) {b : Nat} (hb : b < 256) : rdCl (bodyB d) b = d.cl b := by
  have h1 : ((bodyB d).drop 14).take 256 = classB d 256 := body_at d (A := headB d) (Z := statesB d d.S) (by simp [bodyB]) (headB_len d) (classB_len d 256)
  have h2 := sub_sub (k := b) (m := 1) h1 (by omega)
  have h3 := flat_sub (f := fun b => Rec.num (d.cl b).toNat 1) 256 (fun i _ => Rec.num_length _ 1) b hb
  rw [Nat.mul_one] at h3
  unfold Go.Proofs.YtdngileimmgdnaaDoor.rdCl vl
  rw [h2]
  unfold classB
  rw [h3]
  have hc := h.cl b hb
  have hc2 := h.c2
  rw [num_num (by omega)]
  omega
theorem Fits.state_at (h : Fits d) {s : Nat} (hs : s < d.S) : ((bodyB d).drop (270 + s * (8 + 2 * d.C))).take (8 + 2 * d.C) = stateB d s := by
  have h1 : ((bodyB d).drop 270).take (d.S * (8 + 2 * d.C)) = statesB d d.S := body_at d (A := headB d ++ classB d 256) (Z := []) (by simp [bodyB]) (by simp [headB_len, classB_len]) (h.statesB_len (Nat.le_refl _))
  have h4 : (s + 1) * (8 + 2 * d.C) ≤ d.S * (8 + 2 * d.C) := Nat.mul_le_mul_right _ hs
  rw [Nat.succ_mul] at h4
  rw [sub_sub h1 h4]
  exact flat_sub d.S (fun i hi => h.slen hi) s hs
theorem Fits.row_at (h : Fits d) {s c : Nat} (hs : s < d.S) (hc : c < d.C) : vl (bodyB d) (270 + s * (8 + 2 * d.C) + c * 2) 2 = ((d.row s).getD c 0).toNat := by
  unfold vl
  rw [sub_sub (h.state_at hs) (by omega)]
  have hr := h.rl s hs
  have e : ((stateB d s).drop (c * 2)).take 2 = ((rowB (d.row s)).drop (c * 2)).take 2 := by
    unfold stateB
    rw [List.append_assoc, List.drop_append_of_le_length (by rw [rowB_len]; omega), List.take_append_of_le_length (by rw [List.length_drop, rowB_len]; omega)]
  have e2 : rowB (d.row s) = (List.range (d.row s).length).flatMap fun i => Rec.num ((d.row s).getD i 0).toNat 2 := by
    unfold rowB
    conv => lhs; rw [← list_range (d.row s) 0]
    rw [List.flatMap_map]
  rw [e, e2, flat_sub _ (fun i _ => Rec.num_length _ 2) c (by omega)]
  refine num_num ?_
  have hx := h.nx s hs ((d.row s).getD c 0) (by rw [List.getD_eq_getElem?_getD, List.getElem?_eq_getElem (by omega)]; exact List.getElem_mem _)
  have := h.s2
  omega
theorem Fits.word_at (h : Fits d) (hf : ∀ x ∈ d.fo, x < 4294967296) (he : ∀ x ∈ d.en, x < 4294967296) {s : Nat} (hs : s < d.S) : vl (bodyB d) (270 + s * (8 + 2 * d.C) + 2 * d.C) 4 = d.f s ∧ vl (bodyB d) (270 + s * (8 + 2 * d.C) + 2 * d.C + 4) 4 = d.e s := by
  have hr := h.rl s hs
  have hl := rowB_len (d.row s)
  have hf' : d.f s < 256 ^ 4 := by
    rw [Rec.pow4]
    refine hf _ ?_
    unfold Dt.f
    rw [List.getD_eq_getElem?_getD, List.getElem?_eq_getElem (by rw [h.lf]; exact hs)]
    exact List.getElem_mem _
  have he' : d.e s < 256 ^ 4 := by
    rw [Rec.pow4]
    refine he _ ?_
    unfold Dt.e
    rw [List.getD_eq_getElem?_getD, List.getElem?_eq_getElem (by rw [h.le]; exact hs)]
    exact List.getElem_mem _
  unfold vl
  constructor
  · rw [sub_sub (h.state_at hs) (by omega)]
    unfold stateB
    rw [List.append_assoc, List.drop_left' (by omega), List.take_left' (Rec.num_length _ _)]
    exact num_num hf'
  · rw [Nat.add_assoc _ _ 4, sub_sub (h.state_at hs) (by omega)]
    unfold stateB
    rw [List.drop_left' (by rw [List.length_append, Rec.num_length]; omega), List.take_of_length_le (by rw [Rec.num_length]; omega)]
    exact num_num he'
theorem getD_range {α : Type} (f : Nat → α) (n : Nat) (z : α) {i : Nat} (h : i < n) : ((List.range n).map f).getD i z = f i := by
  rw [List.getD_eq_getElem?_getD]
  simp [h]
/-- THERE AND BACK -/
theorem Fits.back (h : Fits d) (hf : ∀ x ∈ d.fo, x < 4294967296) (he : ∀ x ∈ d.en, x < 4294967296) : wholeT (bodyB d) = true ∧ sameD (rdT (bodyB d)) d := by
  have hS := h.rdS
  have hC := h.rdC
  have hL : rdL (bodyB d) = 8 + 2 * d.C := by unfold rdL; rw [hC]
  refine ⟨?_, fun b hb => h.rdCl hb, ?_, ?_, ?_⟩
  · unfold wholeT headT
    rw [body_word, hS, hC, hL, h.bodyB_len]
    simp [h.s2, h.c2]
  · show (List.range (Go.Proofs.YtdngileimmgdnaaDoor.rdS (bodyB d))).map (rdRow (bodyB d)) = d.nx
    rw [hS]
    conv => rhs; rw [← list_range d.nx []]
    refine List.map_congr_left (fun s hs => ?_)
    have hs' : s < d.S := by simpa using hs
    show _ = d.row s
    unfold rdRow
    rw [hC, hL]
    conv => rhs; rw [← list_range (d.row s) 0, h.rl s hs']
    refine List.map_congr_left (fun c hc => ?_)
    have hc' : c < d.C := by simpa using hc
    rw [h.row_at hs' hc']
    have hx := h.nx s hs' ((d.row s).getD c 0) (by rw [List.getD_eq_getElem?_getD, List.getElem?_eq_getElem (by rw [h.rl s hs']; exact hc')]; exact List.getElem_mem _)
    omega
  · show (List.range (Go.Proofs.YtdngileimmgdnaaDoor.rdS (bodyB d))).map (rdF (bodyB d)) = d.fo
    rw [hS]
    conv => rhs; rw [← list_range d.fo 0, h.lf]
    refine List.map_congr_left (fun s hs => ?_)
    unfold rdF
    rw [hC, hL]
    exact (h.word_at hf he (by simpa using hs)).1
  · show (List.range (Go.Proofs.YtdngileimmgdnaaDoor.rdS (bodyB d))).map (rdE (bodyB d)) = d.en
    rw [hS]
    conv => rhs; rw [← list_range d.en 0, h.le]
    refine List.map_congr_left (fun s hs => ?_)
    unfold rdE
    rw [hC, hL]
    exact (h.word_at hf he (by simpa using hs)).2
end
theorem sameD.refl (d : Dt) : sameD d d := ⟨fun _ _ => rfl, rfl, rfl, rfl⟩
theorem sameD.symm {a b : Dt} (h : sameD a b) : sameD b a := ⟨fun i hi => (h.1 i hi).symm, h.2.1.symm, h.2.2.1.symm, h.2.2.2.symm⟩
theorem sameD.trans {a b c : Dt} (h : sameD a b) (k : sameD b c) : sameD a c := ⟨fun i hi => (h.1 i hi).trans (k.1 i hi), h.2.1.trans k.2.1, h.2.2.1.trans k.2.2.1, h.2.2.2.trans k.2.2.2⟩
theorem sameD.parts {a b : Dt} (h : sameD a b) : a.S = b.S ∧ a.C = b.C ∧ (∀ s, a.row s = b.row s) ∧ (∀ s, a.f s = b.f s) ∧ (∀ s, a.e s = b.e s) := by
  obtain ⟨_, h1, h2, h3⟩ := h
  unfold Dt.S Dt.C Dt.row Dt.f Dt.e
  rw [h1, h2, h3]
  exact ⟨rfl, rfl, fun _ => rfl, fun _ => rfl, fun _ => rfl⟩
theorem sameD.right {a b : Dt} (h : sameD a b) : rightT a = rightT b := by
  obtain ⟨p1, p2, p3, p4, p5⟩ := h.parts
  obtain ⟨h0, h1, h2, h3⟩ := h
  have e : (List.range 256).all (fun i => blw a.C (a.cl i)) = (List.range 256).all (fun i => blw b.C (b.cl i)) := by
    rw [Bool.eq_iff_iff, List.all_eq_true, List.all_eq_true]
    exact ⟨fun k i hi => by rw [← h0 i (by simpa using hi), ← p2]; exact k i hi, fun k i hi => by rw [h0 i (by simpa using hi), p2]; exact k i hi⟩
  unfold rightT sizesT classesT rowsT foundT keepsT
  rw [e]
  simp only [p1, p2, p3, p4, p5, h1, h2, h3]
theorem sameD.body {a b : Dt} (h : sameD a b) : bodyB a = bodyB b := by
  obtain ⟨p1, p2, p3, p4, p5⟩ := h.parts
  have e : classB a 256 = classB b 256 := by
    unfold classB
    rw [List.flatMap_def, List.flatMap_def]
    congr 1
    exact List.map_congr_left (fun i hi => by rw [h.1 i (by simpa using hi)])
  unfold bodyB headB statesB stateB
  rw [e]
  simp only [p1, p2, p3, p4, p5]
theorem sameD.img {a b : Dt} (h : sameD a b) : imgT a = imgT b := by unfold imgT; rw [h.body]
/-- the sum of an image is right -/
theorem img_sum (d : Dt) : sumT (imgT d) = true ∧ (imgT d).take ((imgT d).length - 4) = bodyB d := by
  have hl : (imgT d).length - 4 = (bodyB d).length := by unfold imgT sumB; rw [List.length_append, Rec.num_length]; omega
  have ht : (imgT d).take ((imgT d).length - 4) = bodyB d := by rw [hl]; unfold imgT; exact List.take_left' rfl
  refine ⟨?_, ht⟩
  unfold sumT
  rw [ht]
  have h4 : 4 ≤ (imgT d).length := by unfold imgT sumB; rw [List.length_append, Rec.num_length]; omega
  have hd : (imgT d).drop ((imgT d).length - 4) = sumB (bodyB d) := by rw [hl]; unfold imgT; exact List.drop_left' rfl
  have hc : Crc.more 0 (bodyB d) < 256 ^ 4 := by rw [Rec.pow4]; exact Crc.more_lt (by decide) (bs_bodyB d)
  rw [hd]
  unfold sumB
  rw [num_num hc]
  simp [h4]
/-- DECODE OF ENCODE -/
theorem Fits.decode {d : Dt} (h : Fits d) (hf : ∀ x ∈ d.fo, x < 4294967296) (he : ∀ x ∈ d.en, x < 4294967296) : okT (imgT d) = true ∧ sameD (rdT ((imgT d).take ((imgT d).length - 4))) d := by
  obtain ⟨h1, h2⟩ := img_sum d
  obtain ⟨h3, h4⟩ := h.back hf he
  rw [h2]
  refine ⟨?_, h4⟩
  unfold okT
  rw [h1, h2, h3, h4.right, (fits_iff d).2 h]
  rfl
/-- ENCODE OF DECODE -/
theorem whole_parts {zs : List Int} (h : wholeT zs = true) : zs.take 8 = wordB ∧ rdS zs ≤ 4096 ∧ rdC zs ≤ 256 ∧ zs.length = 270 + rdS zs * rdL zs := by
  unfold wholeT headT at h
  simp only [Bool.and_eq_true, decide_eq_true_eq] at h
  exact ⟨h.1, h.2.1.1, h.2.1.2, h.2.2⟩
theorem rdT_S (zs : List Int) : (rdT zs).S = rdS zs := by simp [rdT, Dt.S]
theorem rdT_row (zs : List Int) {s : Nat} (h : s < rdS zs) : (rdT zs).row s = rdRow zs s := getD_range (rdRow zs) _ _ h
theorem rdT_f (zs : List Int) {s : Nat} (h : s < rdS zs) : (rdT zs).f s = rdF zs s := getD_range (rdF zs) _ _ h
theorem rdT_e (zs : List Int) {s : Nat} (h : s < rdS zs) : (rdT zs).e s = rdE zs s := getD_range (rdE zs) _ _ h
theorem rdRow_len (zs : List Int) (s : Nat) : (rdRow zs s).length = rdC zs := by simp [rdRow]
theorem rdT_C {zs : List Int} (h : 0 < rdS zs) : (rdT zs).C = rdC zs := by
  have := rdT_row zs h
  unfold Dt.row at this
  unfold Dt.C
  rw [this, rdRow_len]
theorem rdT_words {zs : List Int} (hb : Rec.Bs zs) : (∀ x ∈ (rdT zs).fo, x < 4294967296) ∧ (∀ x ∈ (rdT zs).en, x < 4294967296) := by
  refine ⟨fun x hx => ?_, fun x hx => ?_⟩
  · obtain ⟨s, _, rfl⟩ := List.mem_map.1 hx
    have := vl_lt hb (270 + s * rdL zs + 2 * rdC zs) 4
    rw [Rec.pow4] at this
    exact this
  · obtain ⟨s, _, rfl⟩ := List.mem_map.1 hx
    have := vl_lt hb (270 + s * rdL zs + 2 * rdC zs + 4) 4
    rw [Rec.pow4] at this
    exact this
theorem body_rdT {zs : List Int} (hb : Rec.Bs zs) (h : wholeT zs = true) (hr : rightT (rdT zs) = true) : bodyB (rdT zs) = zs := by
  obtain ⟨h1, h2, h3, h4⟩ := whole_parts h
  have hF := (fits_iff _).1 hr
  have hS1 : 1 ≤ rdS zs := by have := hF.s1; rwa [rdT_S] at this
  have hC := rdT_C (zs := zs) (by omega)
  have hL : rdL zs = 8 + 2 * rdC zs := rfl
  have hlen : 270 ≤ zs.length := by omega
  have a1 : Rec.num (rdS zs) 4 = (zs.drop 8).take 4 := num_vl hb (by omega)
  have a2 : Rec.num (rdC zs) 2 = (zs.drop 12).take 2 := num_vl hb (by omega)
  have a3 : classB (rdT zs) 256 = (zs.drop 14).take 256 := by
    have e := chunks (L := 1) 256 ((zs.drop 14).take 256) (by rw [List.length_take, List.length_drop]; omega)
    rw [← e]
    unfold classB
    rw [List.flatMap_def, List.flatMap_def]
    congr 1
    refine List.map_congr_left (fun b hb' => ?_)
    have hb2 : b < 256 := by simpa using hb'
    rw [Nat.mul_one, ← sub_sub (zs := zs) (p := 14) (L := 256) rfl (by omega), ← num_vl hb (by omega)]
    show Rec.num (((vl zs (14 + b) 1 : Nat) : Int)).toNat 1 = _
    simp
  have a4 : ∀ s, s < rdS zs → stateB (rdT zs) s = (zs.drop (270 + s * rdL zs)).take (rdL zs) := by
    intro s hs
    have hm : (s + 1) * rdL zs ≤ rdS zs * rdL zs := Nat.mul_le_mul_right _ hs
    rw [Nat.succ_mul] at hm
    unfold stateB
    rw [rdT_row zs hs, rdT_f zs hs, rdT_e zs hs]
    obtain ⟨p, hp⟩ : ∃ p, p = 270 + s * rdL zs := ⟨_, rfl⟩
    have e1 : rowB (rdRow zs s) = (zs.drop p).take (2 * rdC zs) := by
      have e := chunks (L := 2) (rdC zs) ((zs.drop p).take (2 * rdC zs)) (by rw [List.length_take, List.length_drop]; omega)
      rw [← e]
      unfold rowB rdRow
      rw [List.flatMap_map, List.flatMap_def, List.flatMap_def]
      congr 1
      refine List.map_congr_left (fun c hc => ?_)
      have hc2 : c < rdC zs := by simpa using hc
      rw [← hp, ← sub_sub (zs := zs) (p := p) (L := 2 * rdC zs) rfl (by omega), ← num_vl hb (by omega)]
      simp
    have e2 : Rec.num (rdF zs s) 4 = (zs.drop (p + 2 * rdC zs)).take 4 := by rw [hp]; exact num_vl hb (by omega)
    have e3 : Rec.num (rdE zs s) 4 = (zs.drop (p + 2 * rdC zs + 4)).take 4 := by rw [hp]; exact num_vl hb (by omega)
    rw [e1, e2, e3, ← hp]
    rw [← List.drop_drop (i := 4), ← List.drop_drop (i := 2 * rdC zs), List.append_assoc, ← List.take_add, ← List.take_add]
    congr 1
    omega
  have a5 : statesB (rdT zs) (rdS zs) = zs.drop 270 := by
    have e := chunks (L := rdL zs) (rdS zs) (zs.drop 270) (by rw [List.length_drop]; omega)
    rw [← e]
    unfold statesB
    rw [List.flatMap_def, List.flatMap_def]
    congr 1
    refine List.map_congr_left (fun s hs => ?_)
    rw [a4 s (by simpa using hs), List.drop_drop]
  unfold bodyB headB
  rw [rdT_S, hC, a1, a2, a3, a5, ← h1]
  have e : zs = zs.take 8 ++ ((zs.drop 8).take 4 ++ ((zs.drop 12).take 2 ++ ((zs.drop 14).take 256 ++ zs.drop 270))) := by
    have k4 : (zs.drop 14).take 256 ++ zs.drop 270 = zs.drop 14 := by
      have := List.take_append_drop 256 (zs.drop 14)
      rwa [List.drop_drop] at this
    have k3 : (zs.drop 12).take 2 ++ zs.drop 14 = zs.drop 12 := by
      have := List.take_append_drop 2 (zs.drop 12)
      rwa [List.drop_drop] at this
    have k2 : (zs.drop 8).take 4 ++ zs.drop 12 = zs.drop 8 := by
      have := List.take_append_drop 4 (zs.drop 8)
      rwa [List.drop_drop] at this
    rw [k4, k3, k2, List.take_append_drop]
  conv => rhs; rw [e]
  simp
theorem img_rdT {b : List Int} (hb : Rec.Bs b) (h : okT b = true) : imgT (rdT (b.take (b.length - 4))) = b := by
  unfold okT sumT at h
  simp only [Bool.and_eq_true, decide_eq_true_eq] at h
  obtain ⟨⟨h4, hs⟩, hw, hr⟩ := h
  unfold imgT sumB
  rw [body_rdT (Rec.bs_take hb _) hw hr, ← hs]
  have e := num_val (Rec.bs_drop hb (b.length - 4))
  rw [List.length_drop, show b.length - (b.length - 4) = 4 by omega] at e
  rw [e, List.take_append_drop]
/-- unlike tables, unlike images -/
theorem img_inj {a b : Dt} (ha : Fits a) (hb : Fits b) (fa : ∀ x ∈ a.fo, x < 4294967296) (ea : ∀ x ∈ a.en, x < 4294967296) (fb : ∀ x ∈ b.fo, x < 4294967296) (eb : ∀ x ∈ b.en, x < 4294967296) (h : imgT a = imgT b) : sameD a b := by
  have h1 := (ha.decode fa ea).2
  have h2 := (hb.decode fb eb).2
  rw [h] at h1
  exact h1.symm.trans h2
end Go.Proofs.YtdngileimmgdnaaDoor
