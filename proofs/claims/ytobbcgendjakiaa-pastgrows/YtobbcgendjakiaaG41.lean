/- Plain: what begun's disk and past are. -/
import Derived.Test.YtobbcgendjakiaaG40
namespace Go.Proofs.Ytobbcgendjakiaa
open Go.RowKit Sf

def kS : ByteArray := ⟨#[107]⟩
def tX : List UInt8 := [120, 121, 10, 122]
def bD1 : Dk := Sf.create Sf.new kS
def bF : Ino := ⟨kS, 0, [], 0⟩
def bD2 : Dk := Sf.putI bD1 1 (some (bF.lay tX))
theorem bm_may : may kS = true := by decide
theorem bm_err0 : err Sf.new kS = 141 := by unfold err; rw [bm_may]; rfl
theorem bm_num1 : num bD1 kS = 1 := by simp [num, bD1, Sf.create, Sf.arrive, Sf.putI, Sf.putL, Sf.up, Sf.new]
theorem bm_err1 : err bD1 kS = 0 := by unfold err; rw [bm_may, bm_num1]; rfl
theorem bm_ino1 : bD1.ino 1 = some bF := by simp [bD1, Sf.create, Sf.arrive, Sf.putI, Sf.putL, Sf.up, Sf.new, Ino.name, Sf.fresh, bF]
theorem bm_num2 : num bD2 kS = 1 := bm_num1
theorem bm_ser2 : Sf.ser bD2 kS = 1 := by simp [Sf.ser, bD2, bD1, Sf.create, Sf.arrive, Sf.putI, Sf.putL, Sf.up, Sf.new]
theorem bm_ino2 : bD2.ino 1 = some (bF.lay tX) := by simp [bD2, Sf.putI]
theorem bm_hi2 : bD2.hi = 1 := rfl
theorem bm_ino0 : bD2.ino 0 = none := by simp [bD2, bD1, Sf.create, Sf.arrive, Sf.putI, Sf.putL, Sf.up, Sf.new]
theorem bm_names : nmL bD2 = [[107]] := by
  have hk : keysUp bD2 = [1] := by
    unfold keysUp
    rw [bm_hi2]
    simp [List.range_succ, bm_ino0, bm_ino2]
  unfold nmL
  rw [hk]
  simp [nmZ, inoZ, bm_ino2, Ino.lay, bF, kS]
def bP : Pv := Pv.see bD2 Pv.new
theorem bm_one : bP = ((Pv.new.arr kS 1 1).gens 1 0).more 1 0 tX := by
  unfold bP Pv.see
  rw [bm_names]
  show Pv.one bD2 Pv.new kS = _
  unfold Pv.one
  rw [bm_num2, bm_ino2, bm_ser2]
  rfl
theorem bm_sh : bP.sh (1, 0) = tX := by rw [bm_one]; simp [Pv.more, Pv.gens, Pv.arr, Pv.new, tX]
theorem bm_gn1 : bP.gn 1 = 1 := by rw [bm_one]; simp [Pv.more, Pv.gens, Pv.arr, Pv.new, tX]
theorem bm_gn2 : bP.gn 2 = 0 := by rw [bm_one]; simp [Pv.more, Pv.gens, Pv.arr, Pv.new, tX]
theorem bm_lb : (bP.lb kS).2 = [1] := by rw [bm_one]; simp [Pv.more, Pv.gens, Pv.arr, Pv.new, tX]
theorem bm_st0 : stB (Pv.new.sh (1, 0)) 0 ⟨#[120, 121]⟩ = false := by decide
theorem bm_st1 : stB tX 0 ⟨#[120, 121]⟩ = true := by decide
theorem bm_st2 : stB tX 3 ⟨#[122]⟩ = false := by decide
theorem bm_lines : lines tX = [(0, [120, 121])] := by decide
theorem bm_wf1 : Wf bD1 1 := by
  have h : Wf Sf.new 0 := ⟨Nat.le_refl _, (fun _ _ hf => nomatch hf), (fun _ _ _ hq => nomatch hq)⟩
  exact h.create bm_may rfl
theorem bm_wf2 : Wf bD2 2 := bm_wf1.putI bm_ino1 rfl (by decide) (by decide) (by decide)
end Go.Proofs.Ytobbcgendjakiaa
