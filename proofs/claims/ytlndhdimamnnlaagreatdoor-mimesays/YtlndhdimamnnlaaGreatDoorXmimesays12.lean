
import Derived.Test.YtlndhdimamnnlaaGreatDoorXmimesays11
import Derived.Lib.MapLaws
import Derived.Lib.TrimUEq
import Derived.Lib.Split
namespace Go.Proofs.YtlndhdimamnnlaaGreatDoor
open Go.Lib
def lastF : Nat → Nat → Nat → Nat → Nat
 | 0, r, _, _ => r
 | f + 1, r, sr, tr => if r ≠ sr ∧ r < tr then lastF f (sfold r) sr tr else r
def twoR (a b : Nat) : Bool :=
 if b < 128 then decide (65 ≤ a ∧ a ≤ 90 ∧ b = a + 32)
 else decide (lastF 3 (sfold a) a b = b)
def eqRune (a b : Nat) : Bool := if b = a then true else if b < a then twoR b a else twoR a b
def foldL : Nat → List UInt8 → List UInt8 → Bool
 | 0, _, _ => false
 | f + 1, s, t =>
  if s = [] then decide (t = []) else if t = [] then false
  else if eqRune (decodeL s).1 (decodeL t).1 then foldL f (s.drop (decodeL s).2) (t.drop (decodeL t).2) else false
def eqByte (a b : Nat) : Bool := decide (b = a) || decide (65 ≤ a ∧ a ≤ 90 ∧ b = a + 32) || decide (65 ≤ b ∧ b ≤ 90 ∧ a = b + 32)
def eqF : List UInt8 → List UInt8 → Bool
 | a :: s, b :: t => if 128 ≤ (a.toNat ||| b.toNat) then foldL (s.length + 2) (a :: s) (b :: t) else if eqByte a.toNat b.toNat then eqF s t else false
 | [], t => decide (t = [])
 | _ :: _, [] => false
theorem eqF_end (s t : List UInt8) (h : s = [] ∨ t = []) : eqF s t = decide (s.length = t.length) := by
 cases s with
 | nil => cases t <;> simp [eqF]
 | cons a s => cases t with
  | nil => simp [eqF]
  | cons b t => simp at h
theorem eqF_far (a b : UInt8) (s t : List UInt8) (h : 128 ≤ (a.toNat ||| b.toNat)) : eqF (a :: s) (b :: t) = foldL (s.length + 2) (a :: s) (b :: t) := by rw [eqF, if_pos h]
theorem eqF_yes (a b : UInt8) (s t : List UInt8) (h : ¬ 128 ≤ (a.toNat ||| b.toNat)) (h2 : eqByte a.toNat b.toNat = true) : eqF (a :: s) (b :: t) = eqF s t := by rw [eqF, if_neg h, if_pos h2]
theorem eqF_no (a b : UInt8) (s t : List UInt8) (h : ¬ 128 ≤ (a.toNat ||| b.toNat)) (h2 : eqByte a.toNat b.toNat = false) : eqF (a :: s) (b :: t) = false := by rw [eqF, if_neg h, if_neg (by rw [h2]; decide)]
theorem foldL_end (f : Nat) (t : List UInt8) : foldL (f + 1) [] t = decide (t = []) := by rw [foldL, if_pos rfl]
theorem foldL_short (f : Nat) (s : List UInt8) (h : s ≠ []) : foldL (f + 1) s [] = false := by rw [foldL, if_neg h, if_pos rfl]
theorem foldL_step (f : Nat) (s t : List UInt8) (h : s ≠ []) (h2 : t ≠ []) : foldL (f + 1) s t = if eqRune (decodeL s).1 (decodeL t).1 then foldL f (s.drop (decodeL s).2) (t.drop (decodeL t).2) else false := by rw [foldL, if_neg h, if_neg h2]
def itF : Nat → Nat → Nat
 | 0, r => r
 | k + 1, r => sfold (itF k r)
theorem itF_back (r : Nat) (h1 : itF 1 r ≠ r) (h2 : itF 2 r ≠ r) (h3 : itF 3 r ≠ r) : itF 4 r = r := by
 have h := folds_back r
 simp only [foldsBack, Bool.or_eq_true, beq_iff_eq] at h
 simp only [itF] at h1 h2 h3 ⊢
 omega
theorem orb_length : orb.length = 94 := by decide +kernel
theorem asc_length : asc.length = 128 := by decide +kernel
set_option maxRecDepth 1000000 in
theorem orb_sorted : orb.Pairwise (fun a b => a.1 < b.1) := by decide +kernel
set_option maxRecDepth 1000000 in
theorem orb_small : orb.all (fun x => decide (x.1 < 65536) && decide (x.2 < 65536)) = true := by decide +kernel
set_option maxRecDepth 1000000 in
theorem asc_small : asc.all (fun x => decide (x < 65536)) = true := by decide +kernel
def rowIn (x : CaseRow) : Bool := [0, 1].all fun c => (decide (x.delta c > 1114111) && decide (x.2.1 < 1114110)) || (decide (0 ≤ (x.1 : Int) + x.delta c) && decide ((x.2.1 : Int) + x.delta c ≤ 1114111))
set_option maxRecDepth 1000000 in
theorem rowsIn : caseT.all rowIn = true := by decide +kernel
theorem orb_lt (i j : Nat) (h : i < j) (hj : j < 94) : (orb.getD i (0, 0)).1 < (orb.getD j (0, 0)).1 := by
 have hl := orb_length
 have := (List.pairwise_iff_getElem.1 orb_sorted) i j (by omega) (by omega) h
 rw [List.getD_eq_getElem?_getD, List.getD_eq_getElem?_getD, List.getElem?_eq_getElem (by omega), List.getElem?_eq_getElem (by omega)]
 exact this
theorem orb_in (i : Nat) (hi : i < 94) : (orb.getD i (0, 0)).1 < 65536 ∧ (orb.getD i (0, 0)).2 < 65536 := by
 have hl := orb_length
 have hm : orb.getD i (0, 0) ∈ orb := by rw [List.getD_eq_getElem?_getD, List.getElem?_eq_getElem (by omega)]; exact List.getElem_mem _
 have := List.all_eq_true.1 orb_small _ hm
 generalize orb.getD i (0, 0) = x at *
 simpa using this
theorem asc_in (i : Nat) (hi : i < 128) : asc.getD i 0 < 65536 := by
 have hl := asc_length
 have hm : asc.getD i 0 ∈ asc := by rw [List.getD_eq_getElem?_getD, List.getElem?_eq_getElem (by omega)]; exact List.getElem_mem _
 have := List.all_eq_true.1 asc_small _ hm
 generalize asc.getD i 0 = x at *
 simpa using this
theorem find_at (r lo : Nat) (h : lo < 94) (he : (orb.getD lo (0, 0)).1 = r) : orb.find? (fun x => x.1 == r) = some (orb.getD lo (0, 0)) := by
 have hl := orb_length
 rw [List.find?_eq_some_iff_getElem]
 refine ⟨by simpa using he, lo, by omega, ?_, fun j hj => ?_⟩
 ·rw [List.getD_eq_getElem?_getD, List.getElem?_eq_getElem (by omega)]; rfl
 ·have := orb_lt j lo hj h
  rw [he, List.getD_eq_getElem?_getD, List.getElem?_eq_getElem (by omega)] at this
  have h2 : orb[j].1 < r := this
  simp only [Bool.not_eq_true', beq_eq_false_iff_ne, ne_eq]
  omega
theorem find_none (r lo : Nat) (h1 : ∀ i, i < lo → i < 94 → (orb.getD i (0, 0)).1 < r) (h2 : ∀ i, lo ≤ i → i < 94 → r ≤ (orb.getD i (0, 0)).1) (hn : ¬ (lo < 94 ∧ (orb.getD lo (0, 0)).1 = r)) : orb.find? (fun x => x.1 == r) = none := by
 have hl := orb_length
 rw [List.find?_eq_none]
 intro x hx
 obtain ⟨j, hj, rfl⟩ := List.mem_iff_getElem.1 hx
 have e : orb.getD j (0, 0) = orb[j] := by rw [List.getD_eq_getElem?_getD, List.getElem?_eq_getElem hj]; rfl
 have hne : orb[j].1 ≠ r := by
  rw [← e]
  by_cases hlt : j < lo
  ·have := h1 j hlt (by omega); omega
  ·by_cases hq : j = lo
   ·subst hq; intro h; exact hn ⟨by omega, h⟩
   ·have ha := h2 lo (by omega) (by omega)
    have hb := orb_lt lo j (by omega) (by omega)
    omega
 simpa using hne
theorem conv_in (i : Nat) (hi : i < caseA.size) (c : Nat) (hc : c < 2) (r : Int) (hlo : ((caseA.getD i (0, 0, 0, 0, 0)).1 : Int) ≤ r) (hhi : r ≤ ((caseA.getD i (0, 0, 0, 0, 0)).2.1 : Int)) :
  0 ≤ convertR c r (caseA.getD i (0, 0, 0, 0, 0)) ∧ convertR c r (caseA.getD i (0, 0, 0, 0, 0)) ≤ 1114111 := by
 have hm : caseA.getD i (0, 0, 0, 0, 0) ∈ caseT := by
  unfold caseA at hi ⊢
  simp only [List.size_toArray] at hi
  simp [Array.getD, hi]
 have hx := List.all_eq_true.1 rowsIn _ hm
 generalize caseA.getD i (0, 0, 0, 0, 0) = x at *
 simp only [rowIn, Bool.and_eq_true, decide_eq_true_eq, List.all_cons, List.all_nil, Bool.or_eq_true, Bool.and_true] at hx
 obtain ⟨d0, d1⟩ := hx
 have hd : (x.delta c > 1114111 ∧ x.2.1 < 1114110) ∨ (0 ≤ (x.1 : Int) + x.delta c ∧ (x.2.1 : Int) + x.delta c ≤ 1114111) := by
  match c, hc with
  | 0, _ => exact d0
  | 1, _ => exact d1
 unfold convertR
 split <;> omega
theorem sfold_low (r : Nat) (h : r < 128) : sfold r = asc.getD r 0 := by rw [sfold, if_pos h]
theorem sfold_orb (r lo : Nat) (h : ¬ r < 128) (hl : lo < 94) (he : (orb.getD lo (0, 0)).1 = r) : sfold r = (orb.getD lo (0, 0)).2 := by rw [sfold, if_neg h, find_at r lo hl he]
theorem sfold_none (r : Nat) (h : ¬ r < 128) (ho : orb.find? (fun x => x.1 == r) = none) (hl : lookupIdx caseA r (caseA.size + 1) 0 caseA.size = none) : sfold r = r := sfold_far r h ho hl
theorem sfold_row (r i : Nat) (h : ¬ r < 128) (ho : orb.find? (fun x => x.1 == r) = none) (hl : lookupIdx caseA r (caseA.size + 1) 0 caseA.size = some i) :
  sfold r = if convertR 1 r (caseA.getD i (0, 0, 0, 0, 0)) ≠ r then (convertR 1 r (caseA.getD i (0, 0, 0, 0, 0))).toNat else (convertR 0 r (caseA.getD i (0, 0, 0, 0, 0))).toNat := by
 rw [sfold, if_neg h, ho]
 simp only
 rw [hl]
theorem toNat_in (x : Int) (h : x ≤ 1114111) : x.toNat ≤ 1114111 := by omega
theorem sfold_in (r : Nat) (hr : r ≤ 1114111) : sfold r ≤ 1114111 := by
 by_cases h : r < 128
 ·rw [sfold_low r h]; have := asc_in r h; omega
 ·cases ho : orb.find? (fun x => x.1 == r) with
  | some x =>
   rw [sfold, if_neg h, ho]
   have hm := List.mem_of_find?_eq_some ho
   have := List.all_eq_true.1 orb_small x hm
   simp at this
   show x.2 ≤ 1114111
   omega
  | none =>
   cases hl : lookupIdx caseA r (caseA.size + 1) 0 caseA.size with
   | none => rw [sfold_none r h ho hl]; exact hr
   | some i =>
    obtain ⟨hi, h1, h2⟩ := lookup_in caseA r _ _ _ i hl
    have c0 := conv_in i hi 0 (by omega) r h1 h2
    have c1 := conv_in i hi 1 (by omega) r h1 h2
    rw [sfold_row r i h ho hl]
    generalize caseA.getD i (0, 0, 0, 0, 0) = x at *
    split
    ·exact toNat_in _ c1.2
    ·exact toNat_in _ c0.2
end Go.Proofs.YtlndhdimamnnlaaGreatDoor



namespace Go.Proofs.YtlndhdimamnnlaaGreatDoor
def hexl : List UInt8 := [48, 49, 50, 51, 52, 53, 54, 55, 56, 57, 65, 66, 67, 68, 69, 70, 97, 98, 99, 100, 101, 102]
def isHex (c : UInt8) : Bool := hexl.contains c
def hexv (c : UInt8) : Nat := if c.toNat ≤ 57 then c.toNat - 48 else if c.toNat ≤ 70 then c.toNat - 55 else c.toNat - 87
def blankQ (c : UInt8) : Bool := c == 32 || c == 9 || c == 13
def stripR (l : List UInt8) : List UInt8 := (l.reverse.dropWhile blankQ).reverse
theorem stripR_blank (x : List UInt8) (c : UInt8) (h : blankQ c = true) : stripR (x ++ [c]) = stripR x := by
 unfold stripR; rw [List.reverse_append, List.reverse_singleton, List.singleton_append, List.dropWhile_cons, if_pos h]
theorem stripR_other (x : List UInt8) (c : UInt8) (h : blankQ c = false) : stripR (x ++ [c]) = x ++ [c] := by
 unfold stripR; rw [List.reverse_append, List.reverse_singleton, List.singleton_append, List.dropWhile_cons, if_neg (by simp [h])]; simp
def decQ : List UInt8 → Option (List UInt8)
 | [] => some []
 | [c] => if c = 61 then none else some [c]
 | [c, d] => if c = 61 then none else (decQ [d]).map (c :: ·)
 | c :: a :: b :: t => if c = 61 then (if (isHex a && isHex b) = true then (decQ t).map (UInt8.ofNat (hexv a * 16 + hexv b) :: ·) else none) else (decQ (a :: b :: t)).map (c :: ·)
theorem decQ_plain (c : UInt8) (r : List UInt8) (h : c ≠ 61) : decQ (c :: r) = (decQ r).map (c :: ·) := by
 match r with
 | [] => simp [decQ, h]
 | [d] => simp [decQ, h]
 | a :: b :: t => rw [decQ, if_neg h]
theorem decQ_short (r : List UInt8) (h : r.length < 2) : decQ (61 :: r) = none := by
 match r, h with
 | [], _ => simp [decQ]
 | [d], _ => simp [decQ]
theorem decQ_hex (a b : UInt8) (t : List UInt8) (h : (isHex a && isHex b) = true) : decQ (61 :: a :: b :: t) = (decQ t).map (UInt8.ofNat (hexv a * 16 + hexv b) :: ·) := by
 rw [decQ, if_pos rfl, if_pos h]
theorem decQ_bad (a b : UInt8) (t : List UInt8) (h : (isHex a && isHex b) = false) : decQ (61 :: a :: b :: t) = none := by
 rw [decQ, if_pos rfl, if_neg (by simp [h])]
def endsQ (l : List UInt8) (c : UInt8) : Bool := l.getLast? == some c
def lineQ (l : List UInt8) : List UInt8 × Bool :=
 if endsQ (stripR (if endsQ l 10 = true then l.dropLast else l)) 61 = true then ((stripR (if endsQ l 10 = true then l.dropLast else l)).dropLast, false)
 else (stripR (if endsQ l 10 = true then l.dropLast else l), endsQ l 10)
def linesQ : List (List UInt8) → List UInt8 → List UInt8 × Nat
 | [], out => (out, 0)
 | l :: r, out =>
  match decQ (lineQ l).1 with
  | none => ([], 1)
  | some d => if 4000 < (out ++ d ++ (if (lineQ l).2 = true then [13, 10] else [])).length then ([], 2) else linesQ r (out ++ d ++ (if (lineQ l).2 = true then [13, 10] else []))
def readQ (s : List UInt8) : List UInt8 × Nat :=
 if 16000 < s.length then ([], 2) else linesQ (Lib.splitK [10] 1 (Lib.count s [10]) s) []
theorem splitK_le (sep : List UInt8) (sv : Nat) : ∀ (k : Nat) (s : List UInt8), ∀ x ∈ Lib.splitK sep sv k s, x.length ≤ s.length := by
 intro k
 induction k with
 | zero => intro s x hx; simp [Lib.splitK] at hx; subst hx; exact Nat.le_refl _
 | succ k ih =>
  intro s x hx
  rw [Lib.splitK] at hx
  split at hx
  ·simp at hx; subst hx; exact Nat.le_refl _
  ·rw [List.mem_cons] at hx
   rcases hx with rfl | hx
   ·rw [List.length_take]; omega
   ·have := ih _ x hx
    rw [List.length_drop] at this
    omega
theorem ba_snoc (s : ByteArray) (n : Nat) (h : s.size = n + 1) : ∃ (c : UInt8) (s8 : ByteArray), s.extract n (n + 1) = ⟨#[c]⟩ ∧ s.extract 0 n = s8 ∧ s8.size = n ∧ s.data.toList = s8.data.toList ++ [c] := by
 have hl : s.data.toList.length = n + 1 := by rw [Array.length_toList]; exact h
 refine ⟨s.data.toList[n], _, ?_, rfl, ?_, ?_⟩
 ·apply ByteArray.ext
  apply Array.toList_inj.1
  rw [Lib.extract_data, show n + 1 - n = 1 from by omega, List.drop_eq_getElem_cons (by omega)]
  rfl
 ·rw [Lib.size_eq, Lib.extract_data, List.length_take]; simp; omega
 ·rw [Lib.extract_data, List.drop_zero, Nat.sub_zero]
  conv => lhs; rw [← List.take_append_drop n s.data.toList]
  rw [List.drop_eq_getElem_cons (by omega), List.drop_of_length_le (by omega)]
theorem ba_cons (s : ByteArray) (n : Nat) (h : s.size = n + 1) : ∃ (c : UInt8) (s8 : ByteArray), s[0] = c ∧ s.extract 1 (n + 1) = s8 ∧ s8.size = n ∧ s.data.toList = c :: s8.data.toList := by
 have hl : s.data.toList.length = n + 1 := by rw [Array.length_toList]; exact h
 refine ⟨_, _, rfl, rfl, ?_, ?_⟩
 ·rw [Lib.size_eq, Lib.extract_data, List.length_take]; simp; omega
 ·rw [Lib.extract_data, List.take_of_length_le (by rw [List.length_drop]; omega)]
  conv => lhs; rw [← List.drop_zero (l := s.data.toList), List.drop_eq_getElem_cons (by omega)]
  rfl
theorem ba_three (s : ByteArray) (n : Nat) (h : s.size = n + 3) : ∃ (c a b : UInt8) (s8 : ByteArray), s[0] = c ∧ s.extract 1 3 = ⟨#[a, b]⟩ ∧ s.extract 3 (n + 3) = s8 ∧ s8.size = n ∧ s.data.toList = c :: a :: b :: s8.data.toList := by
 have hl : s.data.toList.length = n + 3 := by rw [Array.length_toList]; exact h
 refine ⟨_, s.data.toList[1], s.data.toList[2], _, rfl, ?_, rfl, ?_, ?_⟩
 ·apply ByteArray.ext
  apply Array.toList_inj.1
  rw [Lib.extract_data, List.drop_eq_getElem_cons (by omega), List.drop_eq_getElem_cons (by omega)]
  rfl
 ·rw [Lib.size_eq, Lib.extract_data, List.length_take]; simp; omega
 ·rw [Lib.extract_data, List.take_of_length_le (by rw [List.length_drop]; omega)]
  conv => lhs; rw [← List.drop_zero (l := s.data.toList), List.drop_eq_getElem_cons (by omega), List.drop_eq_getElem_cons (by omega), List.drop_eq_getElem_cons (by omega)]
  rfl
theorem endsQ_snoc (x : List UInt8) (c d : UInt8) : endsQ (x ++ [c]) d = (c == d) := by simp [endsQ]
theorem hasSuffix_one (l : List UInt8) (c : UInt8) : Lib.hasSuffix l [c] = endsQ l c := by
 rcases List.eq_nil_or_concat l with rfl | ⟨x, d, rfl⟩
 ·simp [Lib.hasSuffix, endsQ]
 ·rw [List.concat_eq_append, endsQ_snoc, Lib.hasSuffix, Bool.eq_iff_iff]
  simp only [List.isSuffixOf_iff_suffix, beq_iff_eq]
  constructor
  ·rintro ⟨t, ht⟩
   have := congrArg List.getLast? ht
   simp at this
   exact this.symm
  ·rintro rfl
   exact ⟨x, rfl⟩
theorem idx_blank (c : UInt8) : decide (0 ≤ Lib.indexByte [32, 9, 13] c) = blankQ c := by
 unfold blankQ
 by_cases h1 : c = 32
 ·subst h1; decide
 ·by_cases h2 : c = 9
  ·subst h2; decide
  ·by_cases h3 : c = 13
   ·subst h3; decide
   ·have e1 : ((32 : UInt8) == c) = false := by simp; exact fun e => h1 e.symm
    have e2 : ((9 : UInt8) == c) = false := by simp; exact fun e => h2 e.symm
    have e3 : ((13 : UInt8) == c) = false := by simp; exact fun e => h3 e.symm
    simp [Lib.indexByte, e1, e2, e3, h1, h2, h3]
end Go.Proofs.YtlndhdimamnnlaaGreatDoor



namespace Go.Proofs.YtlndhdimamnnlaaGreatDoor
def abc : List UInt8 := [65, 66, 67, 68, 69, 70, 71, 72, 73, 74, 75, 76, 77, 78, 79, 80, 81, 82, 83, 84, 85, 86, 87, 88, 89, 90, 97, 98, 99, 100, 101, 102, 103, 104, 105, 106, 107, 108, 109, 110, 111, 112, 113, 114, 115, 116, 117, 118, 119, 120, 121, 122, 48, 49, 50, 51, 52, 53, 54, 55, 56, 57, 43, 47]
def val3 (T : List UInt8) : Nat := (T.getD 0 0).toNat * 65536 + (T.getD 1 0).toNat * 256 + (T.getD 2 0).toNat
def letT (T : List UInt8) (k : Nat) : UInt8 := if 8 * T.length ≤ 6 * k then 61 else abc.getD (val3 T / 2 ^ (18 - 6 * k) % 64) 0
def trio (L : List UInt8) (i : Nat) : List UInt8 := (L.drop (i / 4 * 3)).take 3
def encAt (L : List UInt8) (i : Nat) : UInt8 := letT (trio L i) (i % 4)
def sepAt (i : Nat) : List UInt8 := if 0 < i ∧ i % 76 = 0 then [13, 10] else []
def text (L : List UInt8) : Nat → List UInt8
 | 0 => []
 | m + 1 => text L m ++ (sepAt m ++ [encAt L m])
def encode (L : List UInt8) : List UInt8 := text L ((L.length + 2) / 3 * 4)
theorem text_length (L : List UInt8) (m : Nat) : (text L m).length ≤ 3 * m := by
 induction m with
 | zero => simp [text]
 | succ m ih =>
  have : (sepAt m).length ≤ 2 := by unfold sepAt; split <;> simp
  simp [text]; omega
theorem encode_length (L : List UInt8) : (encode L).length ≤ 4 * L.length + 8 := by
 have := text_length L ((L.length + 2) / 3 * 4)
 unfold encode
 omega
theorem text_length_ge (L : List UInt8) (m : Nat) : m ≤ (text L m).length := by
 induction m with
 | zero => simp
 | succ m ih => simp [text]; omega
theorem text_plain (L : List UInt8) (k : Nat) (h : ¬ (0 < k ∧ k % 76 = 0)) : text L (k + 1) = text L k ++ [encAt L k] := by
 rw [text, sepAt, if_neg h]; rfl
theorem text_sep (L : List UInt8) (k : Nat) (h : 0 < k ∧ k % 76 = 0) : text L (k + 1) = text L k ++ [13, 10] ++ [encAt L k] := by
 rw [text, sepAt, if_pos h]; simp
theorem trio_getD (L : List UInt8) (k i : Nat) (h : i < 3) : (trio L k).getD i 0 = L.getD (k / 4 * 3 + i) 0 := by
 simp [trio, List.getD_eq_getElem?_getD, h]
theorem val3_lt (T : List UInt8) : val3 T < 16777216 := by
 unfold val3
 have h0 := (T.getD 0 0).toNat_lt
 have h1 := (T.getD 1 0).toNat_lt
 have h2 := (T.getD 2 0).toNat_lt
 omega
end Go.Proofs.YtlndhdimamnnlaaGreatDoor



namespace Go.Proofs.YtlndhdimamnnlaaGreatDoor
def sp (c : UInt8) : Bool := c == 32 || c == 9 || c == 13 || c == 10
def scanStep (st : List UInt8 × Nat) (c : UInt8) : Option (List UInt8 × Nat) :=
 if sp c = true then some st else if c = 61 then some (st.1 ++ [0], st.2 + 1)
 else if Lib.indexByte abc c < 0 ∨ 0 < st.2 then none else some (st.1 ++ [UInt8.ofNat (Lib.indexByte abc c).toNat], st.2)
def scan : List UInt8 → List UInt8 × Nat → Option (List UInt8 × Nat)
 | [], st => some st
 | c :: r, st => (scanStep st c).bind (scan r)
def digitsS (l : List UInt8) : Option (List UInt8 × Nat) :=
 (scan l ([], 0)).bind fun st => if 2 < st.2 ∨ st.1.length % 4 ≠ 0 then none else some st
def quad (x : List UInt8) (i : Nat) : Nat :=
 (((x.getD (4 * i) 0).toNat * 64 + (x.getD (4 * i + 1) 0).toNat) * 64 + (x.getD (4 * i + 2) 0).toNat) * 64 + (x.getD (4 * i + 3) 0).toNat
def bytes3 (v : Nat) : List UInt8 := [UInt8.ofNat (v / 65536 % 256), UInt8.ofNat (v / 256 % 256), UInt8.ofNat (v % 256)]
def joinTo (x : List UInt8) : Nat → List UInt8
 | 0 => []
 | m + 1 => joinTo x m ++ bytes3 (quad x m)
def joinS (x : List UInt8) : List UInt8 := joinTo x (x.length / 4)
theorem joinTo_length (x : List UInt8) (m : Nat) : (joinTo x m).length = 3 * m := by
 induction m with
 | zero => rfl
 | succ m ih => simp [joinTo, bytes3, ih]; omega
def cutS (b : List UInt8) (n : Nat) : Option (List UInt8) :=
 if (b.drop (b.length - n)).all (· == 0) = true then some (b.take (b.length - n)) else none
def readS (l : List UInt8) : List UInt8 × Nat :=
 if 8000 < l.length then ([], 2) else
 match digitsS l with
 | none => ([], 1)
 | some (x, f) =>
  match cutS (joinS x) f with
  | none => ([], 1)
  | some b => if 4000 < b.length then ([], 2) else (b, 0)
theorem indexByte_lt (l : List UInt8) (c : UInt8) : Lib.indexByte l c < (l.length : Int) := by
 induction l with
 | nil => simp [Lib.indexByte]
 | cons b l ih =>
  simp only [Lib.indexByte, List.length_cons]
  split
  ·omega
  ·split
   ·omega
   ·omega
theorem idx_lt (c : UInt8) : Lib.indexByte abc c < 64 := indexByte_lt abc c
theorem idx_ge (c : UInt8) : -1 ≤ Lib.indexByte abc c := Lib.indexByte_ge abc c
theorem scan_bounds (l : List UInt8) : ∀ st x f, scan l st = some (x, f) → (∀ c ∈ st.1, c.toNat < 64) → st.2 ≤ st.1.length → (∀ c ∈ x, c.toNat < 64) ∧ f ≤ x.length ∧ x.length ≤ st.1.length + l.length := by
 induction l with
 | nil =>
  intro st x f h hs hf
  simp [scan] at h
  subst h
  exact ⟨hs, hf, by simp⟩
 | cons c r ih =>
  intro st x f h hs hf
  simp only [scan, Option.bind_eq_some_iff] at h
  obtain ⟨st', h1, h2⟩ := h
  have key : (∀ c ∈ st'.1, c.toNat < 64) ∧ st'.2 ≤ st'.1.length ∧ st'.1.length ≤ st.1.length + 1 := by
   unfold scanStep at h1
   by_cases h' : sp c = true
   ·rw [if_pos h'] at h1
    cases h1
    exact ⟨hs, hf, by omega⟩
   ·rw [if_neg h'] at h1
    by_cases h'' : c = 61
    ·rw [if_pos h''] at h1
     cases h1
     refine ⟨?_, by simp; omega, by simp⟩
     intro d hd
     simp at hd
     rcases hd with hd | rfl
     ·exact hs d hd
     ·decide
    ·rw [if_neg h''] at h1
     by_cases h3 : Lib.indexByte abc c < 0 ∨ 0 < st.2
     ·rw [if_pos h3] at h1; cases h1
     ·rw [if_neg h3] at h1
      cases h1
      refine ⟨?_, by simp; omega, by simp⟩
      intro d hd
      simp at hd
      rcases hd with hd | rfl
      ·exact hs d hd
      ·have := idx_lt c
       simp
       omega
  have := ih st' x f h2 key.1 key.2.1
  exact ⟨this.1, this.2.1, by simp; omega⟩
end Go.Proofs.YtlndhdimamnnlaaGreatDoor



namespace Go.Proofs.YtlndhdimamnnlaaGreatDoor
def nmType : List UInt8 := [67, 111, 110, 116, 101, 110, 116, 45, 84, 121, 112, 101]
def nmID : List UInt8 := [67, 111, 110, 116, 101, 110, 116, 45, 73, 68]
def nmLoc : List UInt8 := [67, 111, 110, 116, 101, 110, 116, 45, 76, 111, 99, 97, 116, 105, 111, 110]
def nmHow : List UInt8 := [67, 111, 110, 116, 101, 110, 116, 45, 84, 114, 97, 110, 115, 102, 101, 114, 45, 69, 110, 99, 111, 100, 105, 110, 103]
def nmBound : List UInt8 := [98, 111, 117, 110, 100, 97, 114, 121]
def nmChar : List UInt8 := [99, 104, 97, 114, 115, 101, 116]
def txPlain : List UInt8 := [116, 101, 120, 116, 47, 112, 108, 97, 105, 110]
def how0 : List UInt8 := [56, 98, 105, 116]
def how1 : List UInt8 := [98, 97, 115, 101, 54, 52]
def how2 : List UInt8 := [113, 117, 111, 116, 101, 100, 45, 112, 114, 105, 110, 116, 97, 98, 108, 101]
def bit7 : List UInt8 := [55, 98, 105, 116]
def binS : List UInt8 := [98, 105, 110, 97, 114, 121]
def bareI (l : List UInt8) : List UInt8 := if l.head? = some 60 ∧ l.getLast? = some 62 then (l.drop 1).dropLast else l
def getN (nm : List UInt8) (fs : List Fld) : List UInt8 := match fs.find? (fun f => eqF f.1 nm) with | none => [] | some f => f.2
def howOf (s : List UInt8) : Option Nat := if s = [] ∨ s = bit7 ∨ s = how0 ∨ s = binS then some 0 else if s = how1 then some 1 else if s = how2 then some 2 else none
def decP (said b : List UInt8) : Nat × List UInt8 × Nat := match howOf (Lib.toLowerD said) with
 | none => (0, [], 4)
 | some 0 => if 4000 < b.length then (0, [], 2) else (0, b, 0)
 | some 1 => (1, (readS b).1, (readS b).2)
 | some _ => (2, (readQ b).1, (readQ b).2)
end Go.Proofs.YtlndhdimamnnlaaGreatDoor



namespace Go.Proofs.YtlndhdimamnnlaaGreatDoor
def ba (l : List UInt8) : ByteArray := ⟨l.toArray⟩
theorem ba_data (l : List UInt8) : (ba l).data.toList = l := rfl
theorem ba_size (l : List UInt8) : (ba l).size = l.length := by rw [Lib.size_eq, ba_data]
theorem ba_self (s : ByteArray) : ba s.data.toList = s := rfl
theorem ba_isEmpty (l : List UInt8) : (ba l).toList.isEmpty = l.isEmpty := by rw [ByteArray.toList_eq, ba_data]
end Go.Proofs.YtlndhdimamnnlaaGreatDoor



namespace Go.Proofs.YtlndhdimamnnlaaGreatDoor
def readAll (rd : List UInt8 → Nat → Nat × PT × Nat) : List (List UInt8) → Nat → List PT → Nat × List PT × Nat
 | [], n, acc => (0, acc, n)
 | b :: bs, n, acc => if (rd b n).1 = 0 then readAll rd bs (rd b n).2.2 (acc ++ [(rd b n).2.1]) else ((rd b n).1, [], (rd b n).2.2)
def kindOf (fs : List Fld) : List UInt8 := if getN nmType fs = [] then txPlain else getN nmType fs
def partOf (main : List UInt8) (fs : List Fld) : PT := ⟨ba main, ⟨#[]⟩, ba (bareI (getN nmID fs)), ba (getN nmLoc fs), 0, [], []⟩
def readP : Nat → List UInt8 → Nat → Nat × PT × Nat
 | 0, _, n => (2, pt0, n + 1)
 | f + 1, b, n =>
  if 12 < n + 1 then (2, pt0, n + 1)
  else if (parseF b).2.2 ≠ 0 then ((parseF b).2.2, pt0, n + 1)
  else if (paramsF (kindOf (parseF b).1)).2.2 ≠ 0 then ((paramsF (kindOf (parseF b).1)).2.2, pt0, n + 1)
  else if manyS (paramsF (kindOf (parseF b).1)).1 = true then
   if (splitS (b.drop (parseF b).2.1) (getN nmBound (paramsF (kindOf (parseF b).1)).2.1)).2 ≠ 0 then ((splitS (b.drop (parseF b).2.1) (getN nmBound (paramsF (kindOf (parseF b).1)).2.1)).2, pt0, n + 1)
   else if (readAll (readP f) (splitS (b.drop (parseF b).2.1) (getN nmBound (paramsF (kindOf (parseF b).1)).2.1)).1 (n + 1) []).1 ≠ 0 then ((readAll (readP f) (splitS (b.drop (parseF b).2.1) (getN nmBound (paramsF (kindOf (parseF b).1)).2.1)).1 (n + 1) []).1, pt0, (readAll (readP f) (splitS (b.drop (parseF b).2.1) (getN nmBound (paramsF (kindOf (parseF b).1)).2.1)).1 (n + 1) []).2.2)
   else (0, { partOf (paramsF (kindOf (parseF b).1)).1 (parseF b).1 with kids := (readAll (readP f) (splitS (b.drop (parseF b).2.1) (getN nmBound (paramsF (kindOf (parseF b).1)).2.1)).1 (n + 1) []).2.1 }, (readAll (readP f) (splitS (b.drop (parseF b).2.1) (getN nmBound (paramsF (kindOf (parseF b).1)).2.1)).1 (n + 1) []).2.2)
  else if (decP (getN nmHow (parseF b).1) (b.drop (parseF b).2.1)).2.2 ≠ 0 then ((decP (getN nmHow (parseF b).1) (b.drop (parseF b).2.1)).2.2, pt0, n + 1)
  else (0, { partOf (paramsF (kindOf (parseF b).1)).1 (parseF b).1 with cs := ba (getN nmChar (paramsF (kindOf (parseF b).1)).2.1), how := ((decP (getN nmHow (parseF b).1) (b.drop (parseF b).2.1)).1 : Nat), body := (decP (getN nmHow (parseF b).1) (b.drop (parseF b).2.1)).2.1 }, n + 1)
theorem readAll_few (rd : List UInt8 → Nat → Nat × PT × Nat) (h : ∀ b n, (rd b n).1 = 0 → (rd b n).2.2 ≤ 12) : ∀ (bs : List (List UInt8)) (n : Nat) (acc : List PT), n ≤ 12 → (readAll rd bs n acc).1 = 0 → (readAll rd bs n acc).2.2 ≤ 12
 | [], n, acc, hn, _ => hn
 | b :: bs, n, acc, _, he => by
  rw [readAll] at he ⊢
  by_cases h0 : (rd b n).1 = 0
  ·rw [if_pos h0] at he ⊢
   exact readAll_few rd h bs _ _ (h b n h0) he
  ·rw [if_neg h0] at he
   exact absurd he h0
theorem readP_few : ∀ (f : Nat) (b : List UInt8) (n : Nat), (readP f b n).1 = 0 → (readP f b n).2.2 ≤ 12
 | 0, b, n, h => by rw [readP] at h; cases h
 | f + 1, b, n, h => by
  have ih := readP_few f
  rw [readP] at h ⊢
  by_cases h1 : 12 < n + 1
  ·rw [if_pos h1] at h; cases h
  rw [if_neg h1] at h ⊢
  by_cases h2 : (parseF b).2.2 ≠ 0
  ·rw [if_pos h2] at h; exact absurd h h2
  rw [if_neg h2] at h ⊢
  by_cases h3 : (paramsF (kindOf (parseF b).1)).2.2 ≠ 0
  ·rw [if_pos h3] at h; exact absurd h h3
  rw [if_neg h3] at h ⊢
  by_cases h4 : manyS (paramsF (kindOf (parseF b).1)).1 = true
  ·rw [if_pos h4] at h ⊢
   generalize splitS (b.drop (parseF b).2.1) (getN nmBound (paramsF (kindOf (parseF b).1)).2.1) = S at *
   by_cases h5 : S.2 ≠ 0
   ·rw [if_pos h5] at h; exact absurd h h5
   rw [if_neg h5] at h ⊢
   by_cases h6 : (readAll (readP f) S.1 (n + 1) []).1 ≠ 0
   ·rw [if_pos h6] at h; exact absurd h h6
   rw [if_neg h6]
   exact readAll_few (readP f) ih S.1 (n + 1) [] (by omega) (by simpa using h6)
  ·rw [if_neg h4] at h ⊢
   generalize decP (getN nmHow (parseF b).1) (b.drop (parseF b).2.1) = D at *
   by_cases h5 : D.2.2 ≠ 0
   ·rw [if_pos h5] at h; exact absurd h h5
   rw [if_neg h5]
   show n + 1 ≤ 12
   omega
theorem readAll_grows (rd : List UInt8 → Nat → Nat × PT × Nat) (h : ∀ b n, n + 1 ≤ (rd b n).2.2) : ∀ (bs : List (List UInt8)) (n : Nat) (acc : List PT), n ≤ (readAll rd bs n acc).2.2
 | [], n, acc => Nat.le_refl _
 | b :: bs, n, acc => by
  rw [readAll]
  have h1 := h b n
  split
  ·have := readAll_grows rd h bs (rd b n).2.2 (acc ++ [(rd b n).2.1])
   omega
  ·show n ≤ (rd b n).2.2
   omega
theorem readP_grows : ∀ (f : Nat) (b : List UInt8) (n : Nat), n + 1 ≤ (readP f b n).2.2
 | 0, b, n => by rw [readP]; exact Nat.le_refl _
 | f + 1, b, n => by
  have ih := readP_grows f
  rw [readP]
  split
  ·exact Nat.le_refl _
  split
  ·exact Nat.le_refl _
  split
  ·exact Nat.le_refl _
  split
  ·split
   ·exact Nat.le_refl _
   ·split
    ·exact readAll_grows _ ih _ _ _
    ·exact readAll_grows _ ih _ _ _
  ·split
   ·exact Nat.le_refl _
   ·exact Nat.le_refl _
def readM (L : List UInt8) : Nat × PT :=
 if 40000 < L.length then (2, pt0) else if (readP 3 L 0).1 ≠ 0 then ((readP 3 L 0).1, pt0) else if (placesP (readP 3 L 0).2.1).1 ≠ 0 then ((placesP (readP 3 L 0).2.1).1, pt0) else (0, (readP 3 L 0).2.1)
end Go.Proofs.YtlndhdimamnnlaaGreatDoor



namespace Go.Proofs.YtlndhdimamnnlaaGreatDoor
open Go.RowKit
def FreshP (w w' : World) (p : Option Addr) (c : Nat) : Prop := (∀ a, p = some a → w.heap.size ≤ a.block ∧ a.block < w'.heap.size) ∧ (p = none → c = 0)
def ReadPostN (w : World) (out : List UInt8 × Nat) (e : Ending) (w' : World) : Prop :=
 Below w.heap.size w w' ∧ ∃ p c, e = .returned (.tuple #[.slice p out.1.length c, .int .i64 (out.2 : Int)]) ∧ out.1.length ≤ c ∧ c ≤ maxLen ∧ BRow w' p out.1 ∧ FreshP w w' p c
theorem readPostN_none {w w' : World} (hb : Below w.heap.size w w') (n : Nat) : ReadPostN w ([], n) (.returned (.tuple #[.slice none 0 0, .int .i64 (n : Int)])) w' :=
 ⟨hb, none, 0, rfl, Nat.le_refl _, by decide, (fun h => absurd rfl h), (fun a h => by cases h), fun _ => rfl⟩
theorem own_fresh {w : World} {B B' e s n k c : Nat} {p : Option Addr} {xs : List Value} (h : w.ownsRow B e s (.slice p n c) k xs) (hB : B' ≤ B) : ∀ a, p = some a → B' ≤ a.block ∧ a.block < w.heap.size := by
 intro a ha
 subst ha
 rcases h.2 with ⟨h0, _⟩ | ⟨g, cap, cur, hv, hg, hh, _⟩
 ·cases h0
 ·cases hv
  exact ⟨Nat.le_trans hB hg, (Array.getElem?_eq_some_iff.1 hh).1⟩
theorem own_freshP {w w0 : World} {B e s n k c : Nat} {p : Option Addr} {xs : List Value} (h : w.ownsRow B e s (.slice p n c) k xs) (hB : w0.heap.size ≤ B) : FreshP w0 w p c := by
 refine ⟨own_fresh h hB, fun hp => ?_⟩
 subst hp
 rcases h.2 with ⟨h0, _⟩ | ⟨g, cap, cur, hv, hg, hh, _⟩
 ·cases h0
  rfl
 ·cases hv
end Go.Proofs.YtlndhdimamnnlaaGreatDoor

