/- Plain facts on runes: unicode.SimpleFold, as a plain function of the listed tables, gives the rune back behind one to four steps, at every rune. No program. -/
import Derived.Test.YtnmmlbgadibimaaDoorPlainF
namespace Go.Proofs.YtnmmlbgadibimaaDoor
open Go.Lib

theorem pieces : ∀ q : Nat, q < 42 → rowsBack (q * 8) 8 = true
  | 0, _ => back0
  | 1, _ => back8
  | 2, _ => back16
  | 3, _ => back24
  | 4, _ => back32
  | 5, _ => back40
  | 6, _ => back48
  | 7, _ => back56
  | 8, _ => back64
  | 9, _ => back72
  | 10, _ => back80
  | 11, _ => back88
  | 12, _ => back96
  | 13, _ => back104
  | 14, _ => back112
  | 15, _ => back120
  | 16, _ => back128
  | 17, _ => back136
  | 18, _ => back144
  | 19, _ => back152
  | 20, _ => back160
  | 21, _ => back168
  | 22, _ => back176
  | 23, _ => back184
  | 24, _ => back192
  | 25, _ => back200
  | 26, _ => back208
  | 27, _ => back216
  | 28, _ => back224
  | 29, _ => back232
  | 30, _ => back240
  | 31, _ => back248
  | 32, _ => back256
  | 33, _ => back264
  | 34, _ => back272
  | 35, _ => back280
  | 36, _ => back288
  | 37, _ => back296
  | 38, _ => back304
  | 39, _ => back312
  | 40, _ => back320
  | 41, _ => back328
  | n + 42, h => absurd h (by omega)

theorem row_back (i : Nat) (x : CaseRow) (hx : caseT[i]? = some x) (hi : i < 336) (r : Nat) (h1 : x.1 ≤ r) (h2 : r ≤ x.2.1) : foldsBack r = true := by
  have h := pieces (i / 8) (by omega)
  rw [rowsBack, List.all_eq_true] at h
  have hm : x ∈ (caseT.drop (i / 8 * 8)).take 8 := by
    refine List.mem_of_getElem? (i := i % 8) ?_
    rw [List.getElem?_take_of_lt (by omega), List.getElem?_drop, show i / 8 * 8 + i % 8 = i from by omega]
    exact hx
  have h3 := h x hm
  rw [List.all_eq_true] at h3
  have h4 := h3 (r - x.1) (by rw [List.mem_range]; omega)
  rwa [show x.1 + (r - x.1) = r from by omega] at h4

theorem lookup_in (T : Array CaseRow) (r : Int) : ∀ (f lo hi : Nat) (i : Nat), lookupIdx T r f lo hi = some i → i < hi ∧ ((T.getD i (0, 0, 0, 0, 0)).1 : Int) ≤ r ∧ r ≤ ((T.getD i (0, 0, 0, 0, 0)).2.1 : Int)
  | 0, _, _, _, h => by rw [lookupIdx] at h; cases h
  | f + 1, lo, hi, i, h => by
    rw [lookupIdx] at h
    by_cases h1 : lo < hi
    · rw [if_pos h1] at h
      by_cases h2 : ((T.getD ((lo + hi) / 2) (0, 0, 0, 0, 0)).1 : Int) ≤ r ∧ r ≤ ((T.getD ((lo + hi) / 2) (0, 0, 0, 0, 0)).2.1 : Int)
      · rw [if_pos h2] at h
        obtain rfl := Option.some.inj h
        exact ⟨by omega, h2⟩
      · rw [if_neg h2] at h
        by_cases h3 : r < ((T.getD ((lo + hi) / 2) (0, 0, 0, 0, 0)).1 : Int)
        · rw [if_pos h3] at h
          have := lookup_in T r f _ _ i h
          exact ⟨by omega, this.2⟩
        · rw [if_neg h3] at h
          exact lookup_in T r f _ _ i h
    · rw [if_neg h1] at h; cases h

theorem caseT_length : caseT.length = 336 := by decide +kernel
set_option maxRecDepth 1000000 in
theorem orbBack : orb.all (fun x => foldsBack x.1) = true := by decide +kernel

theorem sfold_far (r : Nat) (h : ¬ r < 128) (ho : orb.find? (fun x => x.1 == r) = none) (hl : lookupIdx caseA r (caseA.size + 1) 0 caseA.size = none) : sfold r = r := by
  rw [sfold, if_neg h, ho]
  simp only
  rw [hl]

theorem list_at (t : List CaseRow) (i : Nat) (hi : i < t.length) : t[i]? = some (t.toArray.getD i (0, 0, 0, 0, 0)) := by
  rw [List.getElem?_eq_getElem hi]
  simp [Array.getD, hi]

/-- One to four steps. -/
theorem folds_back (r : Nat) : foldsBack r = true := by
  by_cases h : r < 128
  · exact List.all_eq_true.1 ascBack r (by rw [List.mem_range]; exact h)
  · cases ho : orb.find? (fun x => x.1 == r) with
    | some x =>
      have hm := List.mem_of_find?_eq_some ho
      have he := List.find?_some ho
      have : x.1 = r := by simpa using he
      rw [← this]
      exact List.all_eq_true.1 orbBack x hm
    | none =>
      cases hl : lookupIdx caseA r (caseA.size + 1) 0 caseA.size with
      | none => rw [foldsBack, sfold_far r h ho hl]; simp
      | some i =>
        obtain ⟨hi, h1, h2⟩ := lookup_in caseA r _ _ _ i hl
        have hs : caseA.size = caseT.length := by rw [caseA, List.size_toArray]
        rw [hs, caseT_length] at hi
        have hx : caseT[i]? = some (caseA.getD i (0, 0, 0, 0, 0)) := list_at caseT i (by rw [caseT_length]; exact hi)
        exact row_back i _ hx hi r (by omega) (by omega)
end Go.Proofs.YtnmmlbgadibimaaDoor
