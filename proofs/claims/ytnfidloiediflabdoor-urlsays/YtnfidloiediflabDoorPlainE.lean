/- Plain facts on bytes: texts that are the same but for large and small letters. No program. -/
import Derived.Test.YtnfidloiediflabDoorPlainM
import Derived.Lib.Fold
namespace Go.Proofs.YtnfidloiediflabDoor

theorem lower_num8 (c : UInt8) : (Lib.lowerB c).toNat = if 65 ≤ c.toNat ∧ c.toNat ≤ 90 then c.toNat + 32 else c.toNat := by
  have : ∀ n : Fin 256, (Lib.lowerB (UInt8.ofNat n.val)).toNat = if 65 ≤ n.val ∧ n.val ≤ 90 then n.val + 32 else n.val := by decide +kernel
  have h := this ⟨c.toNat, c.toNat_lt⟩
  rwa [show UInt8.ofNat c.toNat = c from UInt8.ofNat_toNat] at h
theorem low_up (c : UInt8) : Lib.lowerB (Lib.upperB c) = Lib.lowerB c := by
  have : ∀ n : Fin 256, Lib.lowerB (Lib.upperB (UInt8.ofNat n.val)) = Lib.lowerB (UInt8.ofNat n.val) := by decide +kernel
  have h := this ⟨c.toNat, c.toNat_lt⟩
  rwa [show UInt8.ofNat c.toNat = c from UInt8.ofNat_toNat] at h
theorem low_low (c : UInt8) : Lib.lowerB (Lib.lowerB c) = Lib.lowerB c := by
  have : ∀ n : Fin 256, Lib.lowerB (Lib.lowerB (UInt8.ofNat n.val)) = Lib.lowerB (UInt8.ofNat n.val) := by decide +kernel
  have h := this ⟨c.toNat, c.toNat_lt⟩
  rwa [show UInt8.ofNat c.toNat = c from UInt8.ofNat_toNat] at h
theorem ascii_up (c : UInt8) (h : c.toNat < 128) : (Lib.upperB c).toNat < 128 := by
  have : ∀ n : Fin 256, n.val < 128 → (Lib.upperB (UInt8.ofNat n.val)).toNat < 128 := by decide +kernel
  have h := this ⟨c.toNat, c.toNat_lt⟩ h
  rwa [show UInt8.ofNat c.toNat = c from UInt8.ofNat_toNat] at h
theorem ascii_low (c : UInt8) (h : c.toNat < 128) : (Lib.lowerB c).toNat < 128 := by
  rw [lower_num8]; split <;> omega

theorem foldEq_low (x y : UInt8) : Lib.foldEq x y = decide (Lib.lowerB x = Lib.lowerB y) := by
  have hx := lower_num8 x
  have hy := lower_num8 y
  unfold Lib.foldEq
  rw [Bool.eq_iff_iff, decide_eq_true_iff, decide_eq_true_iff]
  constructor
  · intro h
    apply UInt8.toNat_inj.1
    rw [hx, hy]
    split <;> split <;> omega
  · intro h
    have h' := congrArg UInt8.toNat h
    rw [hx, hy] at h'
    split at h' <;> split at h' <;> omega
theorem fold_low : ∀ s t : List UInt8, Lib.equalFold s t = decide (s.map Lib.lowerB = t.map Lib.lowerB)
  | [], [] => rfl
  | [], y :: t => by simp [Lib.equalFold]
  | x :: s, [] => by simp [Lib.equalFold]
  | x :: s, y :: t => by
    rw [Lib.equalFold, fold_low s t, foldEq_low]
    simp [Bool.decide_and]

theorem map_up (s : List UInt8) : (Lib.toUpperA s).map Lib.lowerB = s.map Lib.lowerB := by
  unfold Lib.toUpperA; rw [List.map_map]; congr 1; funext c; exact low_up c
theorem map_low (s : List UInt8) : (Lib.toLowerA s).map Lib.lowerB = s.map Lib.lowerB := by
  unfold Lib.toLowerA; rw [List.map_map]; congr 1; funext c; exact low_low c
/-- Asked for in large letters, in small letters, it is the same. -/
theorem fold_up (s t : List UInt8) : Lib.equalFold s (Lib.toUpperA t) = Lib.equalFold s t := by rw [fold_low, fold_low, map_up]
theorem fold_down (s t : List UInt8) : Lib.equalFold s (Lib.toLowerA t) = Lib.equalFold s t := by rw [fold_low, fold_low, map_low]
theorem fold_self (s : List UInt8) : Lib.equalFold s s = true := by rw [fold_low]; simp
theorem ascii_upA (s : List UInt8) (h : ∀ c ∈ s, c.toNat < 128) : ∀ c ∈ Lib.toUpperA s, c.toNat < 128 := by
  intro c hc
  obtain ⟨d, hd, rfl⟩ := List.mem_map.1 hc
  exact ascii_up d (h d hd)
theorem ascii_lowA (s : List UInt8) (h : ∀ c ∈ s, c.toNat < 128) : ∀ c ∈ Lib.toLowerA s, c.toNat < 128 := by
  intro c hc
  obtain ⟨d, hd, rfl⟩ := List.mem_map.1 hc
  exact ascii_low d (h d hd)
end Go.Proofs.YtnfidloiediflabDoor
