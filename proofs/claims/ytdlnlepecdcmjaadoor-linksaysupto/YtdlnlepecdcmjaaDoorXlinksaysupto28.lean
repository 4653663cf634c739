/- strings.Join of strings.Split: as ReplaceAll says. -/
import Derived.Test.YtdlnlepecdcmjaaDoorXlinksaysupto26
import Derived.Test.YtdlnlepecdcmjaaDoorXlinksaysupto27
import Derived.Lib.SplitLaws
import Derived.Lib.ReplaceLaws
import Derived.Lib.Join
namespace Go.Proofs.YtdlnlepecdcmjaaDoor
open Go.RowKit

theorem splitK_ne (m : List UInt8) : ∀ (k : Nat) (s : List UInt8), Lib.splitK m 0 k s ≠ []
  | 0, s => by simp [Lib.splitK]
  | k + 1, s => by unfold Lib.splitK; split <;> simp
theorem inter_cons (n a : List UInt8) {t : List (List UInt8)} (h : t ≠ []) : n.intercalate (a :: t) = a ++ n ++ n.intercalate t := by
  cases t with
  | nil => exact absurd rfl h
  | cons b t => simp [List.intercalate, List.intersperse]
theorem join_splitK (m n : List UInt8) : ∀ (k : Nat) (s : List UInt8), Lib.join (Lib.splitK m 0 k s) n = Lib.replaceK m n k s
  | 0, s => by simp [Lib.splitK, Lib.replaceK, Lib.join, List.intercalate]
  | k + 1, s => by
    unfold Lib.splitK Lib.replaceK
    split
    · simp [Lib.join, List.intercalate]
    · have ih := join_splitK m n k (s.drop ((Lib.index s m).toNat + m.length))
      unfold Lib.join at *
      rw [inter_cons n _ (splitK_ne m k _), ih, Nat.add_zero]
theorem unamp_join (s : List UInt8) : Lib.join (Lib.splitK ampL 0 (Lib.count s ampL) s) [38] = unamp s := by
  rw [join_splitK]
  unfold unamp Lib.replaceAll Lib.replace Lib.replaceNum
  rw [if_neg (by decide), if_pos (Or.inl (by decide))]
/-- Split, and Join of that. -/
theorem ramp_any (T : ByteArray) (hT : T.size ≤ 4000) (w : World) (hM : ∃ m : Int, w.cell? ⟨0, 0, none⟩ = some (.int .i64 m)) :
    ∃ n : Nat, (Calls Tryd.prog 25 #[.string T, .string ⟨#[38, 97, 109, 112, 59]⟩] w fun e w' => e = .returned (.slice (some ⟨w.heap.size, 0, none⟩) n n) ∧ Below w.heap.size w w' ∧
      Calls Tryd.prog 24 #[.slice (some ⟨w.heap.size, 0, none⟩) n n, .string ⟨#[38]⟩] w' fun e w'' => e = .returned (.string (lba (unamp T.data.toList))) ∧ Below w.heap.size w w'') := by
  obtain ⟨m, hm⟩ := hM
  refine ⟨Lib.countB T ⟨#[38, 97, 109, 112, 59]⟩ + 1, (Tryd.strings_Split T ⟨#[38, 97, 109, 112, 59]⟩ m w (by omega) hm (by decide)).mono ?_⟩
  rintro e w' ⟨rfl, rfl⟩
  have hb : Below w.heap.size w (w.alloc (.cells ((Lib.splitB ⟨#[38, 97, 109, 112, 59]⟩ 0 (Lib.countB T ⟨#[38, 97, 109, 112, 59]⟩) T).map Value.string).toArray 9)) := (Below.refl _ _).alloc (Nat.le_refl _) _
  obtain ⟨W, hW⟩ : ∃ W, W = w.alloc (.cells ((Lib.splitB ⟨#[38, 97, 109, 112, 59]⟩ 0 (Lib.countB T ⟨#[38, 97, 109, 112, 59]⟩) T).map Value.string).toArray 9) := ⟨_, rfl⟩
  have hcell : ∀ (j : Nat) x, (Lib.splitB ⟨#[38, 97, 109, 112, 59]⟩ 0 (Lib.countB T ⟨#[38, 97, 109, 112, 59]⟩) T)[j]? = some x → W.cell? ⟨w.heap.size, 0 + j, none⟩ = some (.string x) := fun j x hx => by
    rw [hW, World.cell?, lnew, Nat.zero_add]
    simp [hx]
  have hsz : w.heap.size < W.heap.size := by rw [hW]; show w.heap.size < (w.heap.push _).size; rw [Array.size_push]; omega
  rw [← hW] at hb ⊢
  refine ⟨rfl, hb, ?_⟩
  have hlen := Lib.splitB_all ⟨#[38, 97, 109, 112, 59]⟩ (by decide) 0 _ T rfl
  have hdat := Lib.splitB_data ⟨#[38, 97, 109, 112, 59]⟩ 0 (Lib.countB T ⟨#[38, 97, 109, 112, 59]⟩) T
  have hj : Lib.join ((Lib.splitB ⟨#[38, 97, 109, 112, 59]⟩ 0 (Lib.countB T ⟨#[38, 97, 109, 112, 59]⟩) T).map (·.data.toList)) [38] = unamp T.data.toList := by
    rw [hdat]
    exact unamp_join T.data.toList
  have hc4 : Lib.countB T ⟨#[38, 97, 109, 112, 59]⟩ ≤ T.size := by
    have := Lib.countB_mul_le ⟨#[38, 97, 109, 112, 59]⟩ (by decide) T.size T (Nat.le_refl _)
    have h5 : (ByteArray.mk #[38, 97, 109, 112, 59]).size = 5 := rfl
    rw [h5] at this
    omega
  have hun : (unamp T.data.toList).length ≤ 4000 := by
    have := unamp_le T.data.toList
    rw [← Lib.size_eq] at this
    omega
  have := Tryd.strings_Join w.heap.size 0 (Lib.countB T ⟨#[38, 97, 109, 112, 59]⟩ + 1) (Lib.splitB ⟨#[38, 97, 109, 112, 59]⟩ 0 (Lib.countB T ⟨#[38, 97, 109, 112, 59]⟩) T) ⟨#[38]⟩ W hcell hsz (by omega) (by omega) (by show (Lib.join _ [38]).length ≤ _; rw [hj]; omega)
  rw [hlen] at this
  refine this.mono ?_
  rintro e w'' ⟨rfl, hb2⟩
  refine ⟨?_, hb.trans (hb2.mono hb.size)⟩
  show _ = Ending.returned (.string ⟨(unamp T.data.toList).toArray⟩)
  rw [← hj]
end Go.Proofs.YtdlnlepecdcmjaaDoor
