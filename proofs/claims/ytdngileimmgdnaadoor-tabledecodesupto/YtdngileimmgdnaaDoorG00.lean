/- Plain mathematics of CRC-32, of no program: four places at once by a table of sixteen words are four places one by one; a word goes right one to one; the sum goes on over pieces; bits that differ within 32 bits of one another are told. -/

namespace Go.Proofs.YtdngileimmgdnaaDoor.Crc

/-- one place to the right -/
def st (w : Nat) : Nat := w / 2 ^^^ (if w % 2 = 1 then 3988292384 else 0)
def tabL : List Nat := [0, 498536548, 997073096, 651767980, 1994146192, 1802195444, 1303535960, 1342533948, 3988292384, 4027552580, 3604390888, 3412177804, 2607071920, 2262029012, 2685067896, 3183342108]
/-- four places by the table -/
def four (w : Nat) : Nat := w / 16 ^^^ tabL.getD (w % 16) 0

theorem xor_mod2 (a b : Nat) : (a ^^^ b) % 2 = (a % 2 + b % 2) % 2 := by
  have := Nat.xor_mod_two_eq_one (a := a) (b := b); omega
theorem xlc (a b c : Nat) : a ^^^ (b ^^^ c) = b ^^^ (a ^^^ c) := by rw [← Nat.xor_assoc, Nat.xor_comm a b, Nat.xor_assoc]
theorem xcan (a b : Nat) : a ^^^ (a ^^^ b) = b := by rw [← Nat.xor_assoc, Nat.xor_self, Nat.zero_xor]
theorem xor_inj {a b c : Nat} (h : a ^^^ c = b ^^^ c) : a = b := by
  have := congrArg (· ^^^ c) h
  simpa [Nat.xor_assoc] using this
theorem xor_eq_zero {a b : Nat} (h : a ^^^ b = 0) : a = b := xor_inj (c := b) (by simpa using h)

theorem st_xor (a b : Nat) : st (a ^^^ b) = st a ^^^ st b := by
  unfold st
  have h := xor_mod2 a b
  rw [Nat.xor_div_two]
  rcases Nat.mod_two_eq_zero_or_one a with ha | ha <;> rcases Nat.mod_two_eq_zero_or_one b with hb | hb <;> simp only [h, ha, hb] <;> simp [Nat.xor_assoc, Nat.xor_comm, xlc]

theorem xor_lt {a b : Nat} (ha : a < 4294967296) (hb : b < 4294967296) : a ^^^ b < 4294967296 :=
  Nat.xor_lt_two_pow (n := 32) ha hb
theorem st_lt {w : Nat} (h : w < 4294967296) : st w < 4294967296 := by
  unfold st
  exact xor_lt (by omega) (by split <;> decide)
theorem st_two (m : Nat) : st (2 * m) = m := by unfold st; simp
theorem st_zero : st 0 = 0 := rfl
theorem st_eq_zero {w : Nat} (h : w < 4294967296) (e : st w = 0) : w = 0 := by
  unfold st at e
  split at e
  · have := xor_eq_zero e; omega
  · simp at e; omega

/-- so many places -/
def it : Nat → Nat → Nat
  | 0, w => w
  | n + 1, w => it n (st w)
theorem it_xor (n a b : Nat) : it n (a ^^^ b) = it n a ^^^ it n b := by
  induction n generalizing a b with
  | zero => rfl
  | succ n ih => simp only [it, st_xor, ih]
theorem it_add (m n w : Nat) : it (m + n) w = it n (it m w) := by
  induction m generalizing w with
  | zero => simp [it]
  | succ m ih => rw [show m + 1 + n = (m + n) + 1 from by omega]; simp only [it]; exact ih (st w)
theorem it_lt (n : Nat) {w : Nat} (h : w < 4294967296) : it n w < 4294967296 := by
  induction n generalizing w with
  | zero => exact h
  | succ n ih => exact ih (st_lt h)
theorem it_zero (n : Nat) : it n 0 = 0 := by
  induction n with
  | zero => rfl
  | succ n ih => simpa [it, st_zero] using ih
theorem it_eq_zero (n : Nat) {w : Nat} (h : w < 4294967296) (e : it n w = 0) : w = 0 := by
  induction n generalizing w with
  | zero => exact e
  | succ n ih => exact st_eq_zero h (ih (st_lt h) e)
theorem it_pow (i n : Nat) (h : i ≤ n) : it n (2 ^ i) = it (n - i) 1 := by
  induction i generalizing n with
  | zero => rfl
  | succ i ih =>
    obtain ⟨m, rfl⟩ : ∃ m, n = m + 1 := ⟨n - 1, by omega⟩
    simp only [it]
    rw [Nat.pow_succ, Nat.mul_comm, st_two, ih m (by omega)]
    congr 1; omega

theorem split16 (w : Nat) : w = (16 * (w / 16)) ^^^ (w % 16) := by
  apply Nat.eq_of_testBit_eq
  intro j
  have hlt : w % 16 < 2 ^ 4 := Nat.mod_lt _ (by decide)
  have h1 := Nat.testBit_two_pow_mul_add (w / 16) hlt j
  have h2 : 2 ^ 4 * (w / 16) + w % 16 = w := by omega
  rw [h2] at h1
  rw [Nat.testBit_xor, h1, show 16 * (w / 16) = 2 ^ 4 * (w / 16) from rfl, Nat.testBit_two_pow_mul]
  by_cases hj : j < 4
  · have hj' : ¬ 4 ≤ j := by omega
    simp [hj, hj']
  · have : (w % 16).testBit j = false := Nat.testBit_lt_two_pow (Nat.lt_of_lt_of_le hlt (Nat.pow_le_pow_right (by decide) (by omega)))
    simp [hj, this]
    omega

theorem four_eq (w : Nat) : four w = it 4 w := by
  have hr : ∀ r, r < 16 → it 4 r = tabL.getD r 0 := by decide
  have hq : ∀ q, it 4 (16 * q) = q := by
    intro q
    simp only [it]
    rw [show 16 * q = 2 * (2 * (2 * (2 * q))) from by omega, st_two, st_two, st_two, st_two]
  have hs := split16 w
  have e : it 4 w = it 4 ((16 * (w / 16)) ^^^ (w % 16)) := congrArg _ hs
  rw [e, it_xor, hq, hr _ (Nat.mod_lt _ (by decide))]
  rfl
theorem four_lt {w : Nat} (h : w < 4294967296) : four w < 4294967296 := by rw [four_eq]; exact it_lt 4 h

/-- a byte more -/
def up (w x : Nat) : Nat := four (four (w ^^^ x))
theorem up_eq (w x : Nat) : up w x = it 8 (w ^^^ x) := by
  unfold up; rw [four_eq, four_eq, ← it_add]
theorem up_lt {w x : Nat} (hw : w < 4294967296) (hx : x < 256) : up w x < 4294967296 := by
  rw [up_eq]; exact it_lt 8 (xor_lt hw (by omega))

/-- the word behind bytes -/
def run (w : Nat) (l : List Int) : Nat := l.foldl (fun w z => up w z.toNat) w
theorem run_nil (w : Nat) : run w [] = w := rfl
theorem run_cons (w : Nat) (z : Int) (l : List Int) : run w (z :: l) = run (up w z.toNat) l := rfl
theorem run_append (w : Nat) (l r : List Int) : run w (l ++ r) = run (run w l) r := by simp [run, List.foldl_append]
theorem run_snoc (w : Nat) (l : List Int) (z : Int) : run w (l ++ [z]) = up (run w l) z.toNat := by rw [run_append]; rfl
/-- bytes -/
def Bs (l : List Int) : Prop := ∀ z ∈ l, 0 ≤ z ∧ z < 256
theorem run_lt {w : Nat} {l : List Int} (hw : w < 4294967296) (hl : Bs l) : run w l < 4294967296 := by
  induction l generalizing w with
  | nil => exact hw
  | cons z l ih =>
    have hz := hl z (by simp)
    exact ih (up_lt hw (by omega)) (fun y hy => hl y (by simp [hy]))

/-- the sum that goes on -/
def more (s : Nat) (l : List Int) : Nat := run (s ^^^ 4294967295) l ^^^ 4294967295
theorem more_nil (s : Nat) : more s [] = s := by simp [more, run_nil, Nat.xor_assoc]
theorem more_append (s : Nat) (l r : List Int) : more s (l ++ r) = more (more s l) r := by simp [more, run_append, Nat.xor_assoc]
theorem more_lt {s : Nat} {l : List Int} (hs : s < 4294967296) (hl : Bs l) : more s l < 4294967296 :=
  xor_lt (run_lt (xor_lt hs (by decide)) hl) (by decide)

theorem run_xor (w d : Nat) (l : List Int) : run (w ^^^ d) l = run w l ^^^ it (8 * l.length) d := by
  induction l generalizing w d with
  | nil => rfl
  | cons z l ih =>
    rw [run_cons, run_cons, show up (w ^^^ d) z.toNat = up w z.toNat ^^^ it 8 d from by
      rw [up_eq, up_eq, ← it_xor]; congr 1; rw [Nat.xor_assoc, Nat.xor_comm d, ← Nat.xor_assoc], ih, ← it_add]
    congr 2; simp; omega
theorem run_inj {w v : Nat} {l : List Int} (hw : w < 4294967296) (hv : v < 4294967296) (e : run w l = run v l) : w = v := by
  have h := run_xor v (v ^^^ w) l
  rw [xcan, e] at h
  have h2 : it (8 * l.length) (v ^^^ w) = 0 := by
    have h3 : run v l ^^^ 0 = run v l ^^^ it (8 * l.length) (v ^^^ w) := by simpa using h
    have := congrArg (run v l ^^^ ·) h3
    simpa [xcan] using this.symm
  exact (xor_eq_zero (it_eq_zero _ (xor_lt hv hw) h2)).symm
theorem more_inj {s t : Nat} {l : List Int} (hs : s < 4294967296) (ht : t < 4294967296) (e : more s l = more t l) : s = t :=
  xor_inj (run_inj (xor_lt hs (by decide)) (xor_lt ht (by decide)) (xor_inj e))

/-- ONE BIT TURNED OVER. -/
theorem run_flip (w k : Nat) (l : List Int) (hk : k / 8 < l.length) :
    run w (l.set (k / 8) (((l.getD (k / 8) 0).toNat ^^^ 2 ^ (k % 8) : Nat) : Int)) = run w l ^^^ it (8 * l.length - k) 1 := by
  have hs : l = l.take (k / 8) ++ l[k / 8] :: l.drop (k / 8 + 1) := by rw [List.getElem_cons_drop, List.take_append_drop]
  have hset : l.set (k / 8) (((l.getD (k / 8) 0).toNat ^^^ 2 ^ (k % 8) : Nat) : Int) = l.take (k / 8) ++ (((l.getD (k / 8) 0).toNat ^^^ 2 ^ (k % 8) : Nat) : Int) :: l.drop (k / 8 + 1) := by
    rw [List.set_eq_take_append_cons_drop, if_pos hk]
  have hg : l.getD (k / 8) 0 = l[k / 8] := by simp [List.getD, hk]
  rw [hset, run_append, run_cons, hg, Int.toNat_natCast]
  conv => rhs; rw [hs, run_append, run_cons]
  have hu : ∀ v x y : Nat, up v (x ^^^ y) = up v x ^^^ it 8 y := fun v x y => by rw [up_eq, up_eq, ← it_xor, Nat.xor_assoc]
  rw [hu, run_xor, it_pow _ _ (by omega), ← it_add]
  congr 2
  simp only [List.length_append, List.length_cons, List.length_drop, List.length_take]
  omega
end Go.Proofs.YtdngileimmgdnaaDoor.Crc

/- Plain mathematics of layer 2: the bytes of a number, the lowest first; the number of bytes; texts. -/
namespace Rec

/-- bytes -/
def Bs (zs : List Int) : Prop := ∀ z ∈ zs, 0 ≤ z ∧ z < 256
theorem bs_nil : Bs [] := fun z h => by cases h
theorem bs_append {a b : List Int} (ha : Bs a) (hb : Bs b) : Bs (a ++ b) := fun z hz => (List.mem_append.1 hz).elim (ha z) (hb z)
theorem bs_take {zs : List Int} (h : Bs zs) (k : Nat) : Bs (zs.take k) := fun z hz => h z (List.mem_of_mem_take hz)
theorem bs_drop {zs : List Int} (h : Bs zs) (k : Nat) : Bs (zs.drop k) := fun z hz => h z (List.mem_of_mem_drop hz)
theorem bs_at {zs : List Int} (h : Bs zs) {k : Nat} (hk : k < zs.length) : 0 ≤ zs.getD k 0 ∧ zs.getD k 0 < 256 := by
  have e : zs.getD k 0 = zs[k] := by simp [List.getD, hk]
  rw [e]; exact h _ (List.getElem_mem hk)
theorem bs_lit {l : List Int} (h : l.all (fun z => decide (0 ≤ z ∧ z < 256)) = true) : Bs l := fun z hz => of_decide_eq_true (List.all_eq_true.1 h z hz)

/-- the lowest n bytes of a number, the lowest first -/
def num (v n : Nat) : List Int := (List.range n).map fun i => ((v / 256 ^ i % 256 : Nat) : Int)
theorem num_length (v n : Nat) : (num v n).length = n := by simp [num]
theorem num_bs (v n : Nat) : Bs (num v n) := by
  intro z hz
  obtain ⟨i, _, rfl⟩ := List.mem_map.1 hz
  omega
theorem num_snoc (v k : Nat) : num v (k + 1) = num v k ++ [((v / 256 ^ k % 256 : Nat) : Int)] := by simp [num, List.range_succ]
theorem num_cons (v k : Nat) : num v (k + 1) = ((v % 256 : Nat) : Int) :: num (v / 256) k := by
  simp only [num, List.range_succ_eq_map, List.map_cons, List.map_map]
  congr 1
  · simp
  · apply List.map_congr_left
    intro i _
    simp only [Function.comp, Nat.succ_eq_add_one]
    rw [Nat.div_div_eq_div_mul, Nat.pow_succ, Nat.mul_comm (256 ^ i)]

/-- the number whose bytes these are -/
def val : List Int → Nat
  | [] => 0
  | z :: r => z.toNat + 256 * val r
theorem val_snoc (zs : List Int) (z : Int) : val (zs ++ [z]) = val zs + z.toNat * 256 ^ zs.length := by
  induction zs with
  | nil => simp [val]
  | cons x r ih => simp only [List.cons_append, val, ih, List.length_cons, Nat.pow_succ, Nat.mul_add]; rw [Nat.add_assoc, Nat.mul_left_comm, Nat.mul_comm 256 (256 ^ r.length)]
theorem val_lt : ∀ {zs : List Int}, Bs zs → val zs < 256 ^ zs.length
  | [], _ => by simp [val]
  | z :: r, h => by
    have h1 := h z (by simp)
    have h2 := val_lt (zs := r) (fun x hx => h x (by simp [hx]))
    simp only [val, List.length_cons, Nat.pow_succ]
    omega
theorem val_num (n : Nat) : ∀ v : Nat, val (num v n) = v % 256 ^ n := by
  induction n with
  | zero => intro v; simp [num, val, Nat.mod_one]
  | succ k ih =>
    intro v
    rw [num_cons, val, ih, Nat.pow_succ, Nat.mul_comm (256 ^ k) 256, Nat.mod_mul]
    simp
    omega
theorem num_inj {v u n : Nat} (hv : v < 256 ^ n) (hu : u < 256 ^ n) (h : num v n = num u n) : v = u := by
  have := congrArg val h
  rwa [val_num, val_num, Nat.mod_eq_of_lt hv, Nat.mod_eq_of_lt hu] at this

theorem take_snoc (zs : List Int) (k : Nat) (h : k < zs.length) : zs.take (k + 1) = zs.take k ++ [zs.getD k 0] := by
  rw [List.take_succ_eq_append_getElem h]; simp [List.getD, h]
theorem val_take_succ (zs : List Int) (k : Nat) (h : k < zs.length) : val (zs.take (k + 1)) = val (zs.take k) + (zs.getD k 0).toNat * 256 ^ k := by
  rw [take_snoc zs k h, val_snoc]
  simp [List.length_take, Nat.min_eq_left (Nat.le_of_lt h)]
theorem val_take_lt {zs : List Int} (hb : Bs zs) (k : Nat) (h : k ≤ zs.length) : val (zs.take k) < 256 ^ k := by
  have := val_lt (bs_take hb k)
  rwa [List.length_take, Nat.min_eq_left h] at this

theorem pow_two (k : Nat) : 256 ^ k = 2 ^ (8 * k) := by rw [Nat.pow_mul]
theorem pow_le {k n : Nat} (h : k ≤ n) : 256 ^ k ≤ 256 ^ n := Nat.pow_le_pow_right (by decide) h
theorem pow8 : 256 ^ 8 = 18446744073709551616 := by decide
theorem pow4 : 256 ^ 4 = 4294967296 := by decide

/-- laying by or -/
theorem or_sum {v x k : Nat} (hv : v < 256 ^ k) : v ||| (x * 256 ^ k) = v + x * 256 ^ k := by
  rw [pow_two] at hv ⊢
  have := Nat.shiftLeft_add_eq_or_of_lt hv x
  rw [Nat.shiftLeft_eq] at this
  rw [Nat.or_comm, ← this, Nat.add_comm]

/-- a text's bytes -/
def str (s : ByteArray) : List Int := s.data.toList.map fun c => (c.toNat : Int)
theorem str_length (s : ByteArray) : (str s).length = s.size := by
  simp only [str, List.length_map, Array.length_toList]; rfl
theorem str_bs (s : ByteArray) : Bs (str s) := by
  intro z hz
  obtain ⟨c, _, rfl⟩ := List.mem_map.1 hz
  have := c.toNat_lt
  omega
theorem str_inj {s t : ByteArray} (h : str s = str t) : s = t := by
  have h1 : s.data.toList = t.data.toList := by
    have := congrArg (List.map (fun z : Int => UInt8.ofNat z.toNat)) h
    simpa [str, List.map_map, Function.comp_def] using this
  have h2 : s.data = t.data := Array.toList_inj.1 h1
  cases s; cases t; simp_all
def text (s : ByteArray) : List Int := num s.size 4 ++ str s
theorem text_length (s : ByteArray) : (text s).length = 4 + s.size := by simp [text, num_length, str_length]
theorem text_bs (s : ByteArray) : Bs (text s) := bs_append (num_bs _ _) (str_bs _)

/-- the width of a number n, taken round 8 -/
def wid (n : Int) : Nat := (n % 8).toNat + 1
theorem wid_lo (n : Int) : 1 ≤ wid n := by unfold wid; omega
theorem wid_hi (n : Int) : wid n ≤ 8 := by unfold wid; omega
theorem tmod8 (n : Int) : (n.tmod 8 < 0 → n.tmod 8 + 8 + 1 = (wid n : Int)) ∧ (¬ n.tmod 8 < 0 → n.tmod 8 + 1 = (wid n : Int)) := by
  unfold wid
  rw [Int.tmod_eq_emod]
  split <;> omega
end Rec
