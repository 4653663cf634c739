/- quote.written answers how a byte is written; nothing that was there is changed. -/
import Derived.Test.YtnjicfhmheaccaaDoorCommon
import Derived.Test.YtnjicfhmheaccaaDoorBits
import Derived.Test.YtnjicfhmheaccaaDoorPlainQ
import Derived.Laws.ResultCell
namespace Go.Proofs.YtnjicfhmheaccaaDoor
open Go.RowKit

def hexUp : ByteArray := ⟨#[48, 49, 50, 51, 52, 53, 54, 55, 56, 57, 65, 66, 67, 68, 69, 70]⟩
theorem hexUp_at : ∀ S : Fin 16, ((hexUp[S.val]'(by have := S.isLt; exact this)).toNat : Int) = ((upHex S.val).toNat : Int) := by decide

theorem u8_and_15 (n : Nat) (h : n < 256) : bits BinOp.and IntKind.u8 (n : Int) 15 = ((n % 16 : Nat) : Int) := by
  have : ∀ n : Fin 256, bits BinOp.and IntKind.u8 (n.val : Int) 15 = ((n.val % 16 : Nat) : Int) := by decide +kernel
  exact this ⟨n, h⟩

set_option maxHeartbeats 1000000 in
theorem written_plain (d : UInt8) (dd : Int) (e : dd = (d.toNat : Int)) (w : World) (hp : plainQ d = true) :
    Calls Tryd.prog 32 #[.int .u8 dd] w fun e w' => e = .returned (.tuple #[.agg #[.int .u8 (d.toNat : Int), .int .u8 0, .int .u8 0], .int .i64 1]) ∧ Below w.heap.size w w' := by
  subst e
  have hpp : 33 ≤ d.toNat ∧ d.toNat ≤ 126 ∧ d.toNat ≠ 61 := by simpa [plainQ] using hp
  have e1 : (33 : Int) ≤ (d.toNat : Int) := by omega
  have e2 : (d.toNat : Int) ≤ 126 := by omega
  have e3 : ((d.toNat : Int) == 61) = false := by rw [beq_eq_false_iff_ne]; omega
  clear hp hpp
  go_enter Tryd.func32, Tryd.ntmps32
  go_wp2
  (try simp only [Exit.inBlock, Exit.then])
  refine bodyPost_ret (v := .tuple #[.agg #[.int .u8 (d.toNat : Int), .int .u8 0, .int .u8 0], .int .i64 1]) ?_ rfl ⟨rfl, (Below.refl _ _).alloc (Nat.le_refl _) _⟩
  rw [results_cell_tmp rfl]
  go_simp

set_option maxHeartbeats 1000000 in
theorem written_hex (d : UInt8) (dd : Int) (e : dd = (d.toNat : Int)) (w : World) (hp : plainQ d = false) :
    Calls Tryd.prog 32 #[.int .u8 dd] w fun e w' => e = .returned (.tuple #[.agg #[.int .u8 61, .int .u8 ((upHex (d.toNat / 16)).toNat : Int), .int .u8 ((upHex (d.toNat % 16)).toNat : Int)], .int .i64 3]) ∧ Below w.heap.size w w' := by
  subst e
  have hd := d.toNat_lt
  have hpp : d.toNat < 33 ∨ 126 < d.toNat ∨ d.toNat = 61 := by
    have : ¬ (33 ≤ d.toNat ∧ d.toNat ≤ 126 ∧ d.toNat ≠ 61) := by simpa [plainQ] using hp
    omega
  have hand := u8_and_15 d.toNat hd
  obtain ⟨U, hU⟩ : ∃ U, U = d.toNat / 16 := ⟨_, rfl⟩
  obtain ⟨V, hV⟩ : ∃ V, V = d.toNat % 16 := ⟨_, rfl⟩
  rw [← hV] at hand ⊢
  rw [← hU]
  have hU16 : U < 16 := by omega
  have hV16 : V < 16 := by omega
  have hsh : (d.toNat : Int) / 16 = (U : Int) := by omega
  have hUi : (U : Int) < 16 := by omega
  have hVi : (V : Int) < 16 := by omega
  clear hU hV hp
  by_cases h1 : 33 ≤ d.toNat
  · have e1 : (33 : Int) ≤ (d.toNat : Int) := by omega
    by_cases h2 : d.toNat ≤ 126
    · have e2 : (d.toNat : Int) ≤ 126 := by omega
      have e3 : ((d.toNat : Int) == 61) = true := by rw [beq_iff_eq]; omega
      clear hpp
      go_enter Tryd.func32, Tryd.ntmps32
      go_wp2
      go_region
      go_wp2
      (try simp only [Exit.inBlock, Exit.then])
      refine bodyPost_ret (v := .tuple #[.agg #[.int .u8 61, .int .u8 ((upHex U).toNat : Int), .int .u8 ((upHex V).toNat : Int)], .int .i64 3]) ?_ rfl ⟨rfl, ((Below.refl _ _).alloc (Nat.le_refl _) _).drew⟩
      rw [results_cell_tmp rfl, ← hexUp_at ⟨U, hU16⟩, ← hexUp_at ⟨V, hV16⟩]
      go_simp
      exact ⟨rfl, rfl⟩
    · have e2 : decide ((d.toNat : Int) ≤ 126) = false := by simp; omega
      clear hpp
      go_enter Tryd.func32, Tryd.ntmps32
      go_wp2
      go_region
      go_wp2
      (try simp only [Exit.inBlock, Exit.then])
      refine bodyPost_ret (v := .tuple #[.agg #[.int .u8 61, .int .u8 ((upHex U).toNat : Int), .int .u8 ((upHex V).toNat : Int)], .int .i64 3]) ?_ rfl ⟨rfl, ((Below.refl _ _).alloc (Nat.le_refl _) _).drew⟩
      rw [results_cell_tmp rfl, ← hexUp_at ⟨U, hU16⟩, ← hexUp_at ⟨V, hV16⟩]
      go_simp
      exact ⟨rfl, rfl⟩
  · have e1 : decide ((33 : Int) ≤ (d.toNat : Int)) = false := by simp; omega
    clear hpp
    go_enter Tryd.func32, Tryd.ntmps32
    go_wp2
    go_region
    go_wp2
    (try simp only [Exit.inBlock, Exit.then])
    refine bodyPost_ret (v := .tuple #[.agg #[.int .u8 61, .int .u8 ((upHex U).toNat : Int), .int .u8 ((upHex V).toNat : Int)], .int .i64 3]) ?_ rfl ⟨rfl, ((Below.refl _ _).alloc (Nat.le_refl _) _).drew⟩
    rw [results_cell_tmp rfl, ← hexUp_at ⟨U, hU16⟩, ← hexUp_at ⟨V, hV16⟩]
    go_simp
    exact ⟨rfl, rfl⟩
end Go.Proofs.YtnjicfhmheaccaaDoor
