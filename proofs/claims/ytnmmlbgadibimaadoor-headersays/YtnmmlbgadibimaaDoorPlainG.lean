/- Plain facts on texts: strings.EqualFold as a plain function of two texts, rune by rune, over the plain SimpleFold; the listed tables are in order, and what they give are runes. No program. -/
import Derived.Test.YtnmmlbgadibimaaDoorPlainF2
import Derived.Lib.MapLaws
import Derived.Lib.TrimUEq
import Derived.Shelf.Unicode.CaseLaid
namespace Go.Proofs.YtnmmlbgadibimaaDoor
open Go.Lib

def lastF : Nat → Nat → Nat → Nat → Nat
  | 0, r, _, _ => r
  | f + 1, r, sr, tr => if r ≠ sr ∧ r < tr then lastF f (sfold r) sr tr else r
def twoR (a b : Nat) : Bool :=
  if b < 128 then decide (65 ≤ a ∧ a ≤ 90 ∧ b = a + 32)
  else decide (lastF 3 (sfold a) a b = b)
def eqRune (a b : Nat) : Bool := if b = a then true else if b < a then twoR b a else twoR a b
def foldL : Nat → List UInt8 → List UInt8 → Bool
  | 0, _, _ => false
  | f + 1, s, t =>
    if s = [] then decide (t = []) else if t = [] then false
    else if eqRune (decodeL s).1 (decodeL t).1 then foldL f (s.drop (decodeL s).2) (t.drop (decodeL t).2) else false
def eqByte (a b : Nat) : Bool := decide (b = a) || decide (65 ≤ a ∧ a ≤ 90 ∧ b = a + 32) || decide (65 ≤ b ∧ b ≤ 90 ∧ a = b + 32)
def eqF : List UInt8 → List UInt8 → Bool
  | a :: s, b :: t => if 128 ≤ (a.toNat ||| b.toNat) then foldL (s.length + 2) (a :: s) (b :: t) else if eqByte a.toNat b.toNat then eqF s t else false
  | [], t => decide (t = [])
  | _ :: _, [] => false

theorem eqF_end (s t : List UInt8) (h : s = [] ∨ t = []) : eqF s t = decide (s.length = t.length) := by
  cases s with
  | nil => cases t <;> simp [eqF]
  | cons a s => cases t with
    | nil => simp [eqF]
    | cons b t => simp at h
theorem eqF_far (a b : UInt8) (s t : List UInt8) (h : 128 ≤ (a.toNat ||| b.toNat)) : eqF (a :: s) (b :: t) = foldL (s.length + 2) (a :: s) (b :: t) := by rw [eqF, if_pos h]
theorem eqF_yes (a b : UInt8) (s t : List UInt8) (h : ¬ 128 ≤ (a.toNat ||| b.toNat)) (h2 : eqByte a.toNat b.toNat = true) : eqF (a :: s) (b :: t) = eqF s t := by rw [eqF, if_neg h, if_pos h2]
theorem eqF_no (a b : UInt8) (s t : List UInt8) (h : ¬ 128 ≤ (a.toNat ||| b.toNat)) (h2 : eqByte a.toNat b.toNat = false) : eqF (a :: s) (b :: t) = false := by rw [eqF, if_neg h, if_neg (by rw [h2]; decide)]
theorem foldL_end (f : Nat) (t : List UInt8) : foldL (f + 1) [] t = decide (t = []) := by rw [foldL, if_pos rfl]
theorem foldL_short (f : Nat) (s : List UInt8) (h : s ≠ []) : foldL (f + 1) s [] = false := by rw [foldL, if_neg h, if_pos rfl]
theorem foldL_step (f : Nat) (s t : List UInt8) (h : s ≠ []) (h2 : t ≠ []) : foldL (f + 1) s t = if eqRune (decodeL s).1 (decodeL t).1 then foldL f (s.drop (decodeL s).2) (t.drop (decodeL t).2) else false := by rw [foldL, if_neg h, if_neg h2]

/-- k steps of SimpleFold. -/
def itF : Nat → Nat → Nat
  | 0, r => r
  | k + 1, r => sfold (itF k r)
theorem itF_back (r : Nat) (h1 : itF 1 r ≠ r) (h2 : itF 2 r ≠ r) (h3 : itF 3 r ≠ r) : itF 4 r = r := by
  have h := folds_back r
  simp only [foldsBack, Bool.or_eq_true, beq_iff_eq] at h
  simp only [itF] at h1 h2 h3 ⊢
  omega

theorem orb_length : orb.length = 94 := by decide +kernel
theorem asc_length : asc.length = 128 := by decide +kernel
set_option maxRecDepth 1000000 in
theorem orb_sorted : orb.Pairwise (fun a b => a.1 < b.1) := by decide +kernel
set_option maxRecDepth 1000000 in
theorem orb_small : orb.all (fun x => decide (x.1 < 65536) && decide (x.2 < 65536)) = true := by decide +kernel
set_option maxRecDepth 1000000 in
theorem asc_small : asc.all (fun x => decide (x < 65536)) = true := by decide +kernel
def rowIn (x : CaseRow) : Bool := [0, 1].all fun c => (decide (x.delta c > 1114111) && decide (x.2.1 < 1114110)) || (decide (0 ≤ (x.1 : Int) + x.delta c) && decide ((x.2.1 : Int) + x.delta c ≤ 1114111))
set_option maxRecDepth 1000000 in
theorem rowsIn : caseT.all rowIn = true := by decide +kernel

theorem orb_lt (i j : Nat) (h : i < j) (hj : j < 94) : (orb.getD i (0, 0)).1 < (orb.getD j (0, 0)).1 := by
  have hl := orb_length
  have := (List.pairwise_iff_getElem.1 orb_sorted) i j (by omega) (by omega) h
  rw [List.getD_eq_getElem?_getD, List.getD_eq_getElem?_getD, List.getElem?_eq_getElem (by omega), List.getElem?_eq_getElem (by omega)]
  exact this
theorem orb_in (i : Nat) (hi : i < 94) : (orb.getD i (0, 0)).1 < 65536 ∧ (orb.getD i (0, 0)).2 < 65536 := by
  have hl := orb_length
  have hm : orb.getD i (0, 0) ∈ orb := by rw [List.getD_eq_getElem?_getD, List.getElem?_eq_getElem (by omega)]; exact List.getElem_mem _
  have := List.all_eq_true.1 orb_small _ hm
  generalize orb.getD i (0, 0) = x at *
  simpa using this
theorem asc_in (i : Nat) (hi : i < 128) : asc.getD i 0 < 65536 := by
  have hl := asc_length
  have hm : asc.getD i 0 ∈ asc := by rw [List.getD_eq_getElem?_getD, List.getElem?_eq_getElem (by omega)]; exact List.getElem_mem _
  have := List.all_eq_true.1 asc_small _ hm
  generalize asc.getD i 0 = x at *
  simpa using this
theorem find_at (r lo : Nat) (h : lo < 94) (he : (orb.getD lo (0, 0)).1 = r) : orb.find? (fun x => x.1 == r) = some (orb.getD lo (0, 0)) := by
  have hl := orb_length
  rw [List.find?_eq_some_iff_getElem]
  refine ⟨by simpa using he, lo, by omega, ?_, fun j hj => ?_⟩
  · rw [List.getD_eq_getElem?_getD, List.getElem?_eq_getElem (by omega)]; rfl
  · have := orb_lt j lo hj h
    rw [he, List.getD_eq_getElem?_getD, List.getElem?_eq_getElem (by omega)] at this
    have h2 : orb[j].1 < r := this
    simp only [Bool.not_eq_true', beq_eq_false_iff_ne, ne_eq]
    omega
theorem find_none (r lo : Nat) (h1 : ∀ i, i < lo → i < 94 → (orb.getD i (0, 0)).1 < r) (h2 : ∀ i, lo ≤ i → i < 94 → r ≤ (orb.getD i (0, 0)).1) (hn : ¬ (lo < 94 ∧ (orb.getD lo (0, 0)).1 = r)) : orb.find? (fun x => x.1 == r) = none := by
  have hl := orb_length
  rw [List.find?_eq_none]
  intro x hx
  obtain ⟨j, hj, rfl⟩ := List.mem_iff_getElem.1 hx
  have e : orb.getD j (0, 0) = orb[j] := by rw [List.getD_eq_getElem?_getD, List.getElem?_eq_getElem hj]; rfl
  have hne : orb[j].1 ≠ r := by
    rw [← e]
    by_cases hlt : j < lo
    · have := h1 j hlt (by omega); omega
    · by_cases hq : j = lo
      · subst hq; intro h; exact hn ⟨by omega, h⟩
      · have ha := h2 lo (by omega) (by omega)
        have hb := orb_lt lo j (by omega) (by omega)
        omega
  simpa using hne

theorem conv_in (i : Nat) (hi : i < caseA.size) (c : Nat) (hc : c < 2) (r : Int) (hlo : ((caseA.getD i (0, 0, 0, 0, 0)).1 : Int) ≤ r) (hhi : r ≤ ((caseA.getD i (0, 0, 0, 0, 0)).2.1 : Int)) :
    0 ≤ convertR c r (caseA.getD i (0, 0, 0, 0, 0)) ∧ convertR c r (caseA.getD i (0, 0, 0, 0, 0)) ≤ 1114111 := by
  have hm : caseA.getD i (0, 0, 0, 0, 0) ∈ caseT := by
    unfold caseA at hi ⊢
    simp only [List.size_toArray] at hi
    simp [Array.getD, hi]
  have hx := List.all_eq_true.1 rowsIn _ hm
  generalize caseA.getD i (0, 0, 0, 0, 0) = x at *
  simp only [rowIn, Bool.and_eq_true, decide_eq_true_eq, List.all_cons, List.all_nil, Bool.or_eq_true, Bool.and_true] at hx
  obtain ⟨d0, d1⟩ := hx
  have hd : (x.delta c > 1114111 ∧ x.2.1 < 1114110) ∨ (0 ≤ (x.1 : Int) + x.delta c ∧ (x.2.1 : Int) + x.delta c ≤ 1114111) := by
    match c, hc with
    | 0, _ => exact d0
    | 1, _ => exact d1
  unfold convertR
  split <;> omega

theorem sfold_low (r : Nat) (h : r < 128) : sfold r = asc.getD r 0 := by rw [sfold, if_pos h]
theorem sfold_orb (r lo : Nat) (h : ¬ r < 128) (hl : lo < 94) (he : (orb.getD lo (0, 0)).1 = r) : sfold r = (orb.getD lo (0, 0)).2 := by rw [sfold, if_neg h, find_at r lo hl he]
theorem sfold_none (r : Nat) (h : ¬ r < 128) (ho : orb.find? (fun x => x.1 == r) = none) (hl : lookupIdx caseA r (caseA.size + 1) 0 caseA.size = none) : sfold r = r := sfold_far r h ho hl
theorem sfold_row (r i : Nat) (h : ¬ r < 128) (ho : orb.find? (fun x => x.1 == r) = none) (hl : lookupIdx caseA r (caseA.size + 1) 0 caseA.size = some i) :
    sfold r = if convertR 1 r (caseA.getD i (0, 0, 0, 0, 0)) ≠ r then (convertR 1 r (caseA.getD i (0, 0, 0, 0, 0))).toNat else (convertR 0 r (caseA.getD i (0, 0, 0, 0, 0))).toNat := by
  rw [sfold, if_neg h, ho]
  simp only
  rw [hl]
theorem toNat_in (x : Int) (h : x ≤ 1114111) : x.toNat ≤ 1114111 := by omega
theorem sfold_in (r : Nat) (hr : r ≤ 1114111) : sfold r ≤ 1114111 := by
  by_cases h : r < 128
  · rw [sfold_low r h]; have := asc_in r h; omega
  · cases ho : orb.find? (fun x => x.1 == r) with
    | some x =>
      rw [sfold, if_neg h, ho]
      have hm := List.mem_of_find?_eq_some ho
      have := List.all_eq_true.1 orb_small x hm
      simp at this
      show x.2 ≤ 1114111
      omega
    | none =>
      cases hl : lookupIdx caseA r (caseA.size + 1) 0 caseA.size with
      | none => rw [sfold_none r h ho hl]; exact hr
      | some i =>
        obtain ⟨hi, h1, h2⟩ := lookup_in caseA r _ _ _ i hl
        have c0 := conv_in i hi 0 (by omega) r h1 h2
        have c1 := conv_in i hi 1 (by omega) r h1 h2
        rw [sfold_row r i h ho hl]
        generalize caseA.getD i (0, 0, 0, 0, 0) = x at *
        split
        · exact toNat_in _ c1.2
        · exact toNat_in _ c0.2
end Go.Proofs.YtnmmlbgadibimaaDoor
