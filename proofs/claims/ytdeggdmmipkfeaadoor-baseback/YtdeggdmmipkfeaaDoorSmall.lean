/- base.space and strings.IndexByte answer what the plain functions say; the world is as it was. No condition. -/
import Derived.Test.YtdeggdmmipkfeaaDoorWrite
import Derived.Test.YtdeggdmmipkfeaaDoorPlain2
import Derived.Lib.Walk
namespace Go.Proofs.YtdeggdmmipkfeaaDoor
open Go.RowKit

theorem byte_eq (c : UInt8) (n : Nat) (h : n < 256) : ((c.toNat : Int) == (n : Int)) = (c == UInt8.ofNat n) := by
  rw [Bool.eq_iff_iff, beq_iff_eq, beq_iff_eq]
  constructor
  · intro e
    have : c.toNat = n := by omega
    subst this
    simp
  · intro e
    subst e
    simp
    omega
theorem byte_eq_ofNat (c : UInt8) (n : Nat) (h : n < 256) (v : Int) (e : v = n) (d : UInt8) (ed : d = UInt8.ofNat n) : ((c.toNat : Int) == v) = (c == d) := by
  subst e; subst ed; exact byte_eq c n h

theorem space_any (c : UInt8) (w : World) :
    Calls Tryd.prog 19 #[.int .u8 (c.toNat : Int)] w fun e w' => e = .returned (.bool (sp c)) ∧ w' = w := by
  have e1 := byte_eq_ofNat c 32 (by decide) 32 rfl 32 rfl
  have e2 := byte_eq_ofNat c 9 (by decide) 9 rfl 9 rfl
  have e3 := byte_eq_ofNat c 13 (by decide) 13 rfl 13 rfl
  have e4 := byte_eq_ofNat c 10 (by decide) 10 rfl 10 rfl
  by_cases h1 : (c == 32) = true
  · rw [h1] at e1
    have hf : sp c = true := by simp [sp, h1]
    rw [hf]
    clear hf h1 e2 e3 e4
    go_enter Tryd.func19, Tryd.ntmps19
    go_wp2
    go_ret
    exact ⟨rfl, rfl⟩
  · rw [Bool.not_eq_true] at h1
    rw [h1] at e1
    by_cases h2 : (c == 9) = true
    · rw [h2] at e2
      have hf : sp c = true := by simp [sp, h2]
      rw [hf]
      clear hf h1 h2 e3 e4
      go_enter Tryd.func19, Tryd.ntmps19
      go_wp2
      go_ret
      exact ⟨rfl, rfl⟩
    · rw [Bool.not_eq_true] at h2
      rw [h2] at e2
      by_cases h3 : (c == 13) = true
      · rw [h3] at e3
        have hf : sp c = true := by simp [sp, h3]
        rw [hf]
        clear hf h1 h2 h3 e4
        go_enter Tryd.func19, Tryd.ntmps19
        go_wp2
        go_ret
        exact ⟨rfl, rfl⟩
      · rw [Bool.not_eq_true] at h3
        rw [h3] at e3
        have hf : sp c = (c == 10) := by simp only [sp, h1, h2, h3, Bool.false_or]
        rw [hf, ← e4]
        clear hf h1 h2 h3 e4
        go_enter Tryd.func19, Tryd.ntmps19
        go_wp2
        go_ret
        exact ⟨rfl, rfl⟩

set_option maxHeartbeats 1000000 in
set_option maxRecDepth 100000 in
theorem indexByte_lite (s : ByteArray) (c : Int) (w : World) :
    Calls Tryd.prog 29 #[.string s, .int .u8 c] w fun e w' => e = .returned (.int .i64 (Lib.indexByte s.data.toList c.toNat.toUInt8)) ∧ w' = w := by
  go_enter Tryd.func29, Tryd.ntmps29
  go_wp2
  rw [run_callFunc_extern Tryd.func37 (by kernel_rfl) (by kernel_rfl) (by kernel_rfl) (e := Extern.BytealgIndexByte.indexByte) (by kernel_rfl), Lib.run_indexByteString]
  simp only [Result.andThen]
  rw [Oper.upon_value]
  go_wp2
  go_ret
  exact ⟨rfl, rfl⟩

theorem indexByte_any (s : ByteArray) (l : List UInt8) (hs : s.data.toList = l) (c : UInt8) (w : World) :
    Calls Tryd.prog 20 #[.string s, .int .u8 (c.toNat : Int)] w fun e w' => e = .returned (.int .i64 (Lib.indexByte l c)) ∧ w' = w := by
  subst hs
  go_enter Tryd.func20, Tryd.ntmps20
  go_wp2_with (go_at_call 29; refine (indexByte_lite _ _ _).mono ?_; rintro e w' ⟨rfl, rfl⟩)
  go_ret
  exact ⟨by simp, rfl⟩
end Go.Proofs.YtdeggdmmipkfeaaDoor
