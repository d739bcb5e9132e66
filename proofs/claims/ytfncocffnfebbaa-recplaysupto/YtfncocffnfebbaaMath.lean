/- Plain mathematics of layer 2: the bytes of a number, the lowest first; the number of bytes; texts. -/
namespace Rec

/-- bytes -/
def Bs (zs : List Int) : Prop := ∀ z ∈ zs, 0 ≤ z ∧ z < 256
theorem bs_nil : Bs [] := fun z h => by cases h
theorem bs_append {a b : List Int} (ha : Bs a) (hb : Bs b) : Bs (a ++ b) := fun z hz => (List.mem_append.1 hz).elim (ha z) (hb z)
theorem bs_take {zs : List Int} (h : Bs zs) (k : Nat) : Bs (zs.take k) := fun z hz => h z (List.mem_of_mem_take hz)
theorem bs_drop {zs : List Int} (h : Bs zs) (k : Nat) : Bs (zs.drop k) := fun z hz => h z (List.mem_of_mem_drop hz)
theorem bs_at {zs : List Int} (h : Bs zs) {k : Nat} (hk : k < zs.length) : 0 ≤ zs.getD k 0 ∧ zs.getD k 0 < 256 := by
  have e : zs.getD k 0 = zs[k] := by simp [List.getD, hk]
  rw [e]; exact h _ (List.getElem_mem hk)
theorem bs_lit {l : List Int} (h : l.all (fun z => decide (0 ≤ z ∧ z < 256)) = true) : Bs l := fun z hz => of_decide_eq_true (List.all_eq_true.1 h z hz)

/-- the lowest n bytes of a number, the lowest first -/
def num (v n : Nat) : List Int := (List.range n).map fun i => ((v / 256 ^ i % 256 : Nat) : Int)
theorem num_length (v n : Nat) : (num v n).length = n := by simp [num]
theorem num_bs (v n : Nat) : Bs (num v n) := by
  intro z hz
  obtain ⟨i, _, rfl⟩ := List.mem_map.1 hz
  omega
theorem num_snoc (v k : Nat) : num v (k + 1) = num v k ++ [((v / 256 ^ k % 256 : Nat) : Int)] := by simp [num, List.range_succ]
theorem num_cons (v k : Nat) : num v (k + 1) = ((v % 256 : Nat) : Int) :: num (v / 256) k := by
  simp only [num, List.range_succ_eq_map, List.map_cons, List.map_map]
  congr 1
  · simp
  · apply List.map_congr_left
    intro i _
    simp only [Function.comp, Nat.succ_eq_add_one]
    rw [Nat.div_div_eq_div_mul, Nat.pow_succ, Nat.mul_comm (256 ^ i)]

/-- the number whose bytes these are -/
def val : List Int → Nat
  | [] => 0
  | z :: r => z.toNat + 256 * val r
theorem val_snoc (zs : List Int) (z : Int) : val (zs ++ [z]) = val zs + z.toNat * 256 ^ zs.length := by
  induction zs with
  | nil => simp [val]
  | cons x r ih => simp only [List.cons_append, val, ih, List.length_cons, Nat.pow_succ, Nat.mul_add]; rw [Nat.add_assoc, Nat.mul_left_comm, Nat.mul_comm 256 (256 ^ r.length)]
theorem val_lt : ∀ {zs : List Int}, Bs zs → val zs < 256 ^ zs.length
  | [], _ => by simp [val]
  | z :: r, h => by
    have h1 := h z (by simp)
    have h2 := val_lt (zs := r) (fun x hx => h x (by simp [hx]))
    simp only [val, List.length_cons, Nat.pow_succ]
    omega
theorem val_num (n : Nat) : ∀ v : Nat, val (num v n) = v % 256 ^ n := by
  induction n with
  | zero => intro v; simp [num, val, Nat.mod_one]
  | succ k ih =>
    intro v
    rw [num_cons, val, ih, Nat.pow_succ, Nat.mul_comm (256 ^ k) 256, Nat.mod_mul]
    simp
    omega
theorem num_inj {v u n : Nat} (hv : v < 256 ^ n) (hu : u < 256 ^ n) (h : num v n = num u n) : v = u := by
  have := congrArg val h
  rwa [val_num, val_num, Nat.mod_eq_of_lt hv, Nat.mod_eq_of_lt hu] at this

theorem take_snoc (zs : List Int) (k : Nat) (h : k < zs.length) : zs.take (k + 1) = zs.take k ++ [zs.getD k 0] := by
  rw [List.take_succ_eq_append_getElem h]; simp [List.getD, h]
theorem val_take_succ (zs : List Int) (k : Nat) (h : k < zs.length) : val (zs.take (k + 1)) = val (zs.take k) + (zs.getD k 0).toNat * 256 ^ k := by
  rw [take_snoc zs k h, val_snoc]
  simp [List.length_take, Nat.min_eq_left (Nat.le_of_lt h)]
theorem val_take_lt {zs : List Int} (hb : Bs zs) (k : Nat) (h : k ≤ zs.length) : val (zs.take k) < 256 ^ k := by
  have := val_lt (bs_take hb k)
  rwa [List.length_take, Nat.min_eq_left h] at this

theorem pow_two (k : Nat) : 256 ^ k = 2 ^ (8 * k) := by rw [Nat.pow_mul]
theorem pow_le {k n : Nat} (h : k ≤ n) : 256 ^ k ≤ 256 ^ n := Nat.pow_le_pow_right (by decide) h
theorem pow8 : 256 ^ 8 = 18446744073709551616 := by decide
theorem pow4 : 256 ^ 4 = 4294967296 := by decide

/-- laying by or -/
theorem or_sum {v x k : Nat} (hv : v < 256 ^ k) : v ||| (x * 256 ^ k) = v + x * 256 ^ k := by
  rw [pow_two] at hv ⊢
  have := Nat.shiftLeft_add_eq_or_of_lt hv x
  rw [Nat.shiftLeft_eq] at this
  rw [Nat.or_comm, ← this, Nat.add_comm]

/-- a text's bytes -/
def str (s : ByteArray) : List Int := s.data.toList.map fun c => (c.toNat : Int)
theorem str_length (s : ByteArray) : (str s).length = s.size := by
  simp only [str, List.length_map, Array.length_toList]; rfl
theorem str_bs (s : ByteArray) : Bs (str s) := by
  intro z hz
  obtain ⟨c, _, rfl⟩ := List.mem_map.1 hz
  have := c.toNat_lt
  omega
theorem str_inj {s t : ByteArray} (h : str s = str t) : s = t := by
  have h1 : s.data.toList = t.data.toList := by
    have := congrArg (List.map (fun z : Int => UInt8.ofNat z.toNat)) h
    simpa [str, List.map_map, Function.comp_def] using this
  have h2 : s.data = t.data := Array.toList_inj.1 h1
  cases s; cases t; simp_all
def text (s : ByteArray) : List Int := num s.size 4 ++ str s
theorem text_length (s : ByteArray) : (text s).length = 4 + s.size := by simp [text, num_length, str_length]
theorem text_bs (s : ByteArray) : Bs (text s) := bs_append (num_bs _ _) (str_bs _)

/-- the width of a number n, taken round 8 -/
def wid (n : Int) : Nat := (n % 8).toNat + 1
theorem wid_lo (n : Int) : 1 ≤ wid n := by unfold wid; omega
theorem wid_hi (n : Int) : wid n ≤ 8 := by unfold wid; omega
theorem tmod8 (n : Int) : (n.tmod 8 < 0 → n.tmod 8 + 8 + 1 = (wid n : Int)) ∧ (¬ n.tmod 8 < 0 → n.tmod 8 + 1 = (wid n : Int)) := by
  unfold wid
  rw [Int.tmod_eq_emod]
  split <;> omega
end Rec
