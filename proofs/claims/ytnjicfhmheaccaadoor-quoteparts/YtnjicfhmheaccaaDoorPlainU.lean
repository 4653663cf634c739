/- Plain facts on lists of bytes: reading line by line. No program. -/
import Derived.Test.YtnjicfhmheaccaaDoorPlainS
namespace Go.Proofs.YtnjicfhmheaccaaDoor

/-- What is left to read: more lines, or none. -/
def restQ (m : Bool) (t x : List UInt8) : List UInt8 × Nat := if m = true then linesQ (Lib.splitK [10] 1 (Lib.count t [10]) t) x else (x, 0)

theorem readQ_rest (s : List UInt8) (h : s.length ≤ 16000) : readQ s = restQ true s [] := by
  unfold readQ restQ
  rw [if_neg (by omega), if_pos rfl]

theorem stripR_length (l : List UInt8) : (stripR l).length ≤ l.length := by
  unfold stripR
  rw [List.length_reverse]
  have := (List.dropWhile_sublist blankQ (l := l.reverse)).length_le
  simpa using this

theorem trim_length (l p : List UInt8) : (Lib.trimSuffix l p).length ≤ l.length := by
  unfold Lib.trimSuffix
  split
  · rw [List.length_take]; omega
  · exact Nat.le_refl _

theorem trim_one (l : List UInt8) : Lib.trimSuffix l [61] = if endsQ l 61 = true then l.dropLast else l := by
  unfold Lib.trimSuffix
  rw [hasSuffix_one]
  split
  · rw [List.dropLast_eq_take]; rfl
  · rfl

theorem line_ten (a : List UInt8) : lineQ (a ++ [10]) = (Lib.trimSuffix (stripR a) [61], !Lib.hasSuffix (stripR a) [61]) := by
  unfold lineQ
  rw [endsQ_snoc, trim_one, hasSuffix_one]
  simp only [beq_self_eq_true, if_true, List.dropLast_concat]
  split
  · rename_i h; rw [h]; rfl
  · rename_i h; rw [Bool.not_eq_true] at h; rw [h]; rfl

theorem ends_no (a : List UInt8) (h : ∀ c ∈ a, c ≠ 10) : endsQ a 10 = false := by
  rcases List.eq_nil_or_concat a with rfl | ⟨x, d, rfl⟩
  · rfl
  · rw [List.concat_eq_append] at h ⊢
    rw [endsQ_snoc]
    exact beq_eq_false_iff_ne.2 (h d (by simp))

theorem line_last (a : List UInt8) (h : ∀ c ∈ a, c ≠ 10) : lineQ a = (Lib.trimSuffix (stripR a) [61], false) := by
  unfold lineQ
  rw [ends_no a h, trim_one]
  simp only [Bool.false_eq_true, if_false]
  split <;> rfl

theorem split_ten (a r : List UInt8) (h : ∀ c ∈ a, c ≠ 10) : Lib.splitK [10] 1 (Lib.count (a ++ 10 :: r) [10]) (a ++ 10 :: r) = (a ++ [10]) :: Lib.splitK [10] 1 (Lib.count r [10]) r := by
  have hi := index_at1 10 a r h
  have hd := drop_one 10 a r
  have ht := take_one 10 a r
  rw [show a ++ 10 :: r = a ++ ([10] ++ r) from rfl, Lib.count_hit (by simp) hi]
  rw [show a.length + [(10 : UInt8)].length = a.length + 1 from rfl, hd, Nat.add_comm 1, Lib.splitK, hi, if_neg (by simp), Int.toNat_natCast, ht]
  rw [show a.length + [(10 : UInt8)].length = a.length + 1 from rfl, hd]

theorem split_last (a : List UInt8) (h : ∀ c ∈ a, c ≠ 10) : Lib.splitK [10] 1 (Lib.count a [10]) a = [a] := by
  rw [Lib.count_miss (index_none1 10 _ h)]
  rfl

theorem restQ_bad (a r x : List UInt8) (h : ∀ c ∈ a, c ≠ 10) (hd : decQ (Lib.trimSuffix (stripR a) [61]) = none) : restQ true (a ++ 10 :: r) x = ([], 1) := by
  unfold restQ
  rw [if_pos rfl, split_ten a r h, linesQ, line_ten]
  simp only [hd]

theorem restQ_next (a r x d : List UInt8) (F : Bool) (h : ∀ c ∈ a, c ≠ 10) (hd : decQ (Lib.trimSuffix (stripR a) [61]) = some d) (hF : Lib.hasSuffix (stripR a) [61] = F) :
    restQ true (a ++ 10 :: r) x = if 4000 < (x ++ d ++ (if F = true then [] else [13, 10])).length then ([], 2) else restQ true r (x ++ d ++ (if F = true then [] else [13, 10])) := by
  unfold restQ
  rw [if_pos rfl, if_pos rfl, split_ten a r h, linesQ, line_ten]
  simp only [hd, hF]
  cases F <;> rfl

theorem restQ_soft (a r x d : List UInt8) (h : ∀ c ∈ a, c ≠ 10) (hd : decQ (Lib.trimSuffix (stripR a) [61]) = some d) (hF : Lib.hasSuffix (stripR a) [61] = true) :
    restQ true (a ++ 10 :: r) x = if 4000 < (x ++ d).length then ([], 2) else restQ true r (x ++ d) := by
  have := restQ_next a r x d true h hd hF
  rwa [if_pos rfl, List.append_nil] at this
theorem restQ_hard (a r x d : List UInt8) (h : ∀ c ∈ a, c ≠ 10) (hd : decQ (Lib.trimSuffix (stripR a) [61]) = some d) (hF : Lib.hasSuffix (stripR a) [61] = false) :
    restQ true (a ++ 10 :: r) x = if 4000 < (x ++ d ++ [13, 10]).length then ([], 2) else restQ true r (x ++ d ++ [13, 10]) :=
  restQ_next a r x d false h hd hF

theorem restQ_lastbad (a x : List UInt8) (h : ∀ c ∈ a, c ≠ 10) (hd : decQ (Lib.trimSuffix (stripR a) [61]) = none) : restQ true a x = ([], 1) := by
  unfold restQ
  rw [if_pos rfl, split_last a h, linesQ, line_last a h]
  simp only [hd]

theorem restQ_last (a x d : List UInt8) (h : ∀ c ∈ a, c ≠ 10) (hd : decQ (Lib.trimSuffix (stripR a) [61]) = some d) :
    restQ true a x = if 4000 < (x ++ d).length then ([], 2) else restQ false [] (x ++ d) := by
  unfold restQ
  rw [if_pos rfl, split_last a h, linesQ, line_last a h]
  simp [hd, linesQ]
end Go.Proofs.YtnjicfhmheaccaaDoor
