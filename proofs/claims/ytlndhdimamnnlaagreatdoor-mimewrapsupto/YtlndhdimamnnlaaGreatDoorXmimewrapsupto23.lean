/- mime.head: its walk, over what is known of header.Print. Conditions: the part and the table of names lie there; the texts are short. -/
import Derived.Test.YtlndhdimamnnlaaGreatDoorXmimewrapsupto21
import Derived.Test.YtlndhdimamnnlaaGreatDoorXmimewrapsupto22
import Derived.Test.YtlndhdimamnnlaaGreatDoorXmimewrapsupto8
import Derived.Deep.DeepCutAuto
import Derived.Lib.Strings
import Derived.Test.YtlndhdimamnnlaaGreatDoorXmimewrapsupto3
namespace Go.Proofs.YtlndhdimamnnlaaGreatDoor
open Go.RowKit

theorem he_t (s : ByteArray) (h : s.data.toList = []) : s.toList.isEmpty = true := by
  rw [ByteArray.toList_eq, h]
  rfl
theorem he_f (s : ByteArray) (h : s.data.toList ≠ []) : s.toList.isEmpty = false := by
  rw [ByteArray.toList_eq]
  cases hs : s.data.toList with
  | nil => exact absurd hs h
  | cons a l => rfl

set_option maxHeartbeats 8000000 in
set_option maxRecDepth 100000 in
theorem head_walk (b o hn : Nat) (ty cs id loc B K1 KD HB T : ByteArray) (L2 L3 L4 : List FV) (E : Int) (w : World) (hn2 : hn ≤ 2) (hs0 : ty.size ≤ 1000) (hs1 : cs.size ≤ 1000) (hs2 : id.size ≤ 1000) (hs3 : B.size ≤ 1000) (hs4 : K1.size ≤ 3000) (hL2 : L2.length ≤ 2) (hL3 : L3.length ≤ 3)
    (HC : Hid (∀ w', Below w.heap.size w w' → w'.cell? ⟨b, o, none⟩ = some (.string ty) ∧ w'.cell? ⟨b, o + 1, none⟩ = some (.string cs) ∧ w'.cell? ⟨b, o + 2, none⟩ = some (.string id) ∧ w'.cell? ⟨b, o + 3, none⟩ = some (.string loc) ∧ w'.cell? ⟨b, o + 4, none⟩ = some (.int .i64 (hn : Int))))
    (HHt : Hid (∀ w', Below w.heap.size w w' → w'.cell? ⟨0, hn, none⟩ = some (.string HB)))
    (X1 : Hid ((cs.data.toList = [] ∧ ty = K1) ∨ (cs.data.toList ≠ [] ∧ K1 = ty ++ (⟨#[59, 32, 99, 104, 97, 114, 115, 101, 116, 61]⟩ ++ cs))))
    (X2 : Hid ((B.data.toList = [] ∧ K1 = KD) ∨ (B.data.toList ≠ [] ∧ KD = K1 ++ (⟨#[59, 32, 98, 111, 117, 110, 100, 97, 114, 121, 61, 34]⟩ ++ B ++ ⟨#[34]⟩))))
    (X3 : Hid ((id.data.toList = [] ∧ [(⟨#[67, 111, 110, 116, 101, 110, 116, 45, 84, 121, 112, 101]⟩, KD)] = L2) ∨ (id.data.toList ≠ [] ∧ L2 = [(⟨#[67, 111, 110, 116, 101, 110, 116, 45, 84, 121, 112, 101]⟩, KD)] ++ [(⟨#[67, 111, 110, 116, 101, 110, 116, 45, 73, 68]⟩, ⟨#[60]⟩ ++ id ++ ⟨#[62]⟩)])))
    (X4 : Hid ((loc.data.toList = [] ∧ L2 = L3) ∨ (loc.data.toList ≠ [] ∧ L3 = L2 ++ [(⟨#[67, 111, 110, 116, 101, 110, 116, 45, 76, 111, 99, 97, 116, 105, 111, 110]⟩, loc)])))
    (X5 : Hid ((B.data.toList ≠ [] ∧ L3 = L4) ∨ (B.data.toList = [] ∧ L4 = L3 ++ [(⟨#[67, 111, 110, 116, 101, 110, 116, 45, 84, 114, 97, 110, 115, 102, 101, 114, 45, 69, 110, 99, 111, 100, 105, 110, 103]⟩, HB)])))
    (CP : Hid (∀ w' (q : Option Addr) (c : Nat), Below w.heap.size w w' → w'.ownsRow w.heap.size 105 2 (.slice q L4.length c) L4.length (fv L4) → Calls Tryz.prog 103 #[.slice q L4.length c] w' fun e w'' => e = .returned (.tuple #[.string T, .int .i64 E]) ∧ Below w.heap.size w w'')) :
    Calls Tryz.prog 58 #[.pointer (some ⟨b, o, none⟩), .string B] w fun e w' => e = .returned (.string T) ∧ Below w.heap.size w w' := by
  obtain ⟨i0, hi, hz0, hz1, hz2⟩ := info_parts info_fieldH
  obtain ⟨y0, y1, y2, y3, y4⟩ := HC.out w (Below.refl _ _)
  go_enter Tryz.func58, Tryz.ntmps58
  go_upto_if 17 with fail
  go_cut [5] (fun s wx => s = .string K1 ∧ wx = w)
  case first =>
    rcases X1.out with ⟨x1, rfl⟩ | ⟨x1, rfl⟩
    · have he := he_t _ x1
      rw [he]
      go_wp2_with fail
      go_meet
      exact ⟨rfl, rfl⟩
    · have he := he_f _ x1
      rw [he]
      have hk1 : (ByteArray.mk #[59, 32, 99, 104, 97, 114, 115, 101, 116, 61]).size = 10 := rfl
      go_wp2_with fail
      go_meet
      exact ⟨rfl, rfl⟩
  case rest =>
  obtain ⟨rfl, rfl⟩ := hcut
  clear X1
  go_upto_if 26 with fail
  go_cut [5] (fun s wx => s = .string KD ∧ wx = wc)
  case first =>
    rcases X2.out with ⟨x1, rfl⟩ | ⟨x1, rfl⟩
    · have he := he_t _ x1
      rw [he]
      go_wp2_with fail
      go_meet
      exact ⟨rfl, rfl⟩
    · have he := he_f _ x1
      rw [he]
      have hk1 : (ByteArray.mk #[59, 32, 98, 111, 117, 110, 100, 97, 114, 121, 61, 34]).size = 12 := rfl
      have hk2 : (ByteArray.mk #[34]).size = 1 := rfl
      go_wp2_with fail
      go_meet
      exact ⟨rfl, rfl⟩
  case rest =>
  obtain ⟨rfl, rfl⟩ := hcut
  clear X2 y0 y1 y2 y3 y4
  obtain ⟨w0, hw0⟩ : ∃ x, x = wc := ⟨_, rfl⟩
  subst hw0
  have b1 : Below w0.heap.size w0 (w0.alloc (.cells #[.string ⟨#[67, 111, 110, 116, 101, 110, 116, 45, 84, 121, 112, 101]⟩, .string KD] 105)) := (Below.refl _ _).alloc (Nat.le_refl _) _
  have own1 : (w0.alloc (.cells #[.string ⟨#[67, 111, 110, 116, 101, 110, 116, 45, 84, 121, 112, 101]⟩, .string KD] 105)).ownsRow w0.heap.size 105 2 (.slice (some ⟨w0.heap.size, 0, none⟩) 1 1) 1 (fv [(⟨#[67, 111, 110, 116, 101, 110, 116, 45, 84, 121, 112, 101]⟩, KD)]) := World.ownsRow_lit w0 #[.string ⟨#[67, 111, 110, 116, 101, 110, 116, 45, 84, 121, 112, 101]⟩, .string KD] 1 (Nat.le_refl _) (by decide) rfl
  obtain ⟨x0, x1, x2, x3, x4⟩ := HC.out _ b1
  have xt := HHt.out _ b1
  go_upto_if 39 with fail
  obtain ⟨W1, hW1⟩ : ∃ W, W = w0.alloc (.cells #[.string ⟨#[67, 111, 110, 116, 101, 110, 116, 45, 84, 121, 112, 101]⟩, .string KD] 105) := ⟨_, rfl⟩
  rw [← hW1] at b1 own1 x0 x1 x2 x3 x4 xt
  rw [← hW1]
  clear hW1
  go_cut [6] (fun v wx => Below w0.heap.size w0 wx ∧ ∃ q c, v = .slice q L2.length c ∧ wx.ownsRow w0.heap.size 105 2 v L2.length (fv L2))
  case first =>
    rcases X3.out with ⟨z1, rfl⟩ | ⟨z1, rfl⟩
    · have he := he_t _ z1
      rw [he]
      go_wp2_with fail
      go_meet
      exact ⟨b1, _, _, rfl, own1⟩
    · have he := he_f _ z1
      rw [he]
      go_wp2_with (at_builtin; go_loud (refine wpList_append_own _ rfl (.tmp 40) (.tmp 48) 66 rfl w0.heap.size 105 i0 (.agg #[.string ⟨#[]⟩, .string ⟨#[]⟩]) 2 32 Tryz.underlying66 hi hz0 hz1 hz2 rfl (by decide) _ _ _ rfl (own1.alloc _) ⟨W1.heap.size, 0, none⟩ 1 1 [.string ⟨#[67, 111, 110, 116, 101, 110, 116, 45, 73, 68]⟩, .string (⟨#[60]⟩ ++ id ++ ⟨#[62]⟩)] rfl rfl (cell_pair _ _ _ _) ?c2_40 ?c3_40 ?c4_40 ?c5_40 ?_))
      case c2_40 => first | exact ⟨rfl, rfl⟩ | (intro u hu; simp at hu; rcases hu with rfl | rfl <;> rfl)
      case c3_40 => decide
      skip
      case c5_40 => have := b1.size; simp; omega
      intro v9 w9 own90 g9 _
      have b9 : Below w0.heap.size w0 w9 := (b1.alloc b1.size _).grown g9 (by have := b1.size; simp; omega) (fun j hj => (own1.lt j hj).1)
      have hlen : (([(⟨#[67, 111, 110, 116, 101, 110, 116, 45, 84, 121, 112, 101]⟩, KD)] : List FV) ++ [(⟨#[67, 111, 110, 116, 101, 110, 116, 45, 73, 68]⟩, ⟨#[60]⟩ ++ id ++ ⟨#[62]⟩)] : List FV).length = ([(⟨#[67, 111, 110, 116, 101, 110, 116, 45, 84, 121, 112, 101]⟩, KD)] : List FV).length + 1 := by simp
      have own9 : w9.ownsRow w0.heap.size 105 2 v9 (([(⟨#[67, 111, 110, 116, 101, 110, 116, 45, 84, 121, 112, 101]⟩, KD)] : List FV) ++ [(⟨#[67, 111, 110, 116, 101, 110, 116, 45, 73, 68]⟩, ⟨#[60]⟩ ++ id ++ ⟨#[62]⟩)] : List FV).length (fv (([(⟨#[67, 111, 110, 116, 101, 110, 116, 45, 84, 121, 112, 101]⟩, KD)] : List FV) ++ [(⟨#[67, 111, 110, 116, 101, 110, 116, 45, 73, 68]⟩, ⟨#[60]⟩ ++ id ++ ⟨#[62]⟩)])) := by rw [hlen, fv_snoc]; exact own90
      obtain ⟨q9, c9, rfl⟩ := owned_slice own9
      clear own90 g9
      go_wp2_with fail
      go_meet
      exact ⟨b9, _, _, rfl, own9⟩
  case rest =>
  obtain ⟨w2, hw2⟩ : ∃ x, x = wc := ⟨_, rfl⟩
  subst hw2
  obtain ⟨b2, q2, c2, rfl, own2⟩ := hcut
  clear x0 x1 x2 x3 x4 xt
  obtain ⟨x0, x1, x2, x3, x4⟩ := HC.out w2 b2
  have xt := HHt.out w2 b2
  clear X3 own1 b1
  go_upto_if 54 with fail
  go_cut [6] (fun v wx => Below w0.heap.size w0 wx ∧ ∃ q c, v = .slice q L3.length c ∧ wx.ownsRow w0.heap.size 105 2 v L3.length (fv L3))
  case first =>
    rcases X4.out with ⟨z1, rfl⟩ | ⟨z1, rfl⟩
    · have he := he_t _ z1
      rw [he]
      go_wp2_with fail
      go_meet
      exact ⟨b2, _, _, rfl, own2⟩
    · have he := he_f _ z1
      rw [he]
      go_wp2_with (at_builtin; go_loud (refine wpList_append_own _ rfl (.tmp 55) (.tmp 61) 66 rfl w0.heap.size 105 i0 (.agg #[.string ⟨#[]⟩, .string ⟨#[]⟩]) 2 32 Tryz.underlying66 hi hz0 hz1 hz2 rfl (by decide) _ _ _ rfl (own2.alloc _) ⟨w2.heap.size, 0, none⟩ 1 1 [.string ⟨#[67, 111, 110, 116, 101, 110, 116, 45, 76, 111, 99, 97, 116, 105, 111, 110]⟩, .string (loc)] rfl rfl (cell_pair _ _ _ _) ?c2_55 ?c3_55 ?c4_55 ?c5_55 ?_))
      case c2_55 => first | exact ⟨rfl, rfl⟩ | (intro u hu; simp at hu; rcases hu with rfl | rfl <;> rfl)
      case c3_55 => unfold maxLen; omega
      case c4_55 => omega
      case c5_55 => have := b2.size; simp; omega
      intro v9 w9 own90 g9 _
      have b9 : Below w0.heap.size w0 w9 := (b2.alloc b2.size _).grown g9 (by have := b2.size; simp; omega) (fun j hj => (own2.lt j hj).1)
      have hlen : (L2 ++ [(⟨#[67, 111, 110, 116, 101, 110, 116, 45, 76, 111, 99, 97, 116, 105, 111, 110]⟩, loc)] : List FV).length = L2.length + 1 := by simp
      have own9 : w9.ownsRow w0.heap.size 105 2 v9 (L2 ++ [(⟨#[67, 111, 110, 116, 101, 110, 116, 45, 76, 111, 99, 97, 116, 105, 111, 110]⟩, loc)] : List FV).length (fv (L2 ++ [(⟨#[67, 111, 110, 116, 101, 110, 116, 45, 76, 111, 99, 97, 116, 105, 111, 110]⟩, loc)])) := by rw [hlen, fv_snoc]; exact own90
      obtain ⟨q9, c9, rfl⟩ := owned_slice own9
      clear own90 g9
      go_wp2_with fail
      go_meet
      exact ⟨b9, _, _, rfl, own9⟩
  case rest =>
  obtain ⟨w3, hw3⟩ : ∃ x, x = wc := ⟨_, rfl⟩
  subst hw3
  obtain ⟨b3, q3, c3, rfl, own3⟩ := hcut
  clear x0 x1 x2 x3 x4 xt
  obtain ⟨x0, x1, x2, x3, x4⟩ := HC.out w3 b3
  have xt := HHt.out w3 b3
  clear X4 own2 b2
  go_upto_if 64 with fail
  go_cut [6] (fun v wx => Below w0.heap.size w0 wx ∧ ∃ q c, v = .slice q L4.length c ∧ wx.ownsRow w0.heap.size 105 2 v L4.length (fv L4))
  case first =>
    rcases X5.out with ⟨z1, rfl⟩ | ⟨z1, rfl⟩
    · have he := he_f _ z1
      rw [he]
      go_wp2_with fail
      go_meet
      exact ⟨b3, _, _, rfl, own3⟩
    · have he := he_t _ z1
      rw [he]
      go_wp2_with (at_builtin; go_loud (refine wpList_append_own _ rfl (.tmp 65) (.tmp 73) 66 rfl w0.heap.size 105 i0 (.agg #[.string ⟨#[]⟩, .string ⟨#[]⟩]) 2 32 Tryz.underlying66 hi hz0 hz1 hz2 rfl (by decide) _ _ _ rfl (own3.alloc _) ⟨w3.heap.size, 0, none⟩ 1 1 [.string ⟨#[67, 111, 110, 116, 101, 110, 116, 45, 84, 114, 97, 110, 115, 102, 101, 114, 45, 69, 110, 99, 111, 100, 105, 110, 103]⟩, .string (HB)] rfl rfl (cell_pair _ _ _ _) ?c2_65 ?c3_65 ?c4_65 ?c5_65 ?_))
      case c2_65 => first | exact ⟨rfl, rfl⟩ | (intro u hu; simp at hu; rcases hu with rfl | rfl <;> rfl)
      case c3_65 => unfold maxLen; omega
      case c4_65 => omega
      case c5_65 => have := b3.size; simp; omega
      intro v9 w9 own90 g9 _
      have b9 : Below w0.heap.size w0 w9 := (b3.alloc b3.size _).grown g9 (by have := b3.size; simp; omega) (fun j hj => (own3.lt j hj).1)
      have hlen : (L3 ++ [(⟨#[67, 111, 110, 116, 101, 110, 116, 45, 84, 114, 97, 110, 115, 102, 101, 114, 45, 69, 110, 99, 111, 100, 105, 110, 103]⟩, HB)] : List FV).length = L3.length + 1 := by simp
      have own9 : w9.ownsRow w0.heap.size 105 2 v9 (L3 ++ [(⟨#[67, 111, 110, 116, 101, 110, 116, 45, 84, 114, 97, 110, 115, 102, 101, 114, 45, 69, 110, 99, 111, 100, 105, 110, 103]⟩, HB)] : List FV).length (fv (L3 ++ [(⟨#[67, 111, 110, 116, 101, 110, 116, 45, 84, 114, 97, 110, 115, 102, 101, 114, 45, 69, 110, 99, 111, 100, 105, 110, 103]⟩, HB)])) := by rw [hlen, fv_snoc]; exact own90
      obtain ⟨q9, c9, rfl⟩ := owned_slice own9
      clear own90 g9
      go_wp2_with fail
      go_meet
      exact ⟨b9, _, _, rfl, own9⟩
  case rest =>
  obtain ⟨w4, hw4⟩ : ∃ x, x = wc := ⟨_, rfl⟩
  subst hw4
  obtain ⟨b4, q4, c4, rfl, own4⟩ := hcut
  clear x0 x1 x2 x3 x4 xt
  obtain ⟨x0, x1, x2, x3, x4⟩ := HC.out w4 b4
  have xt := HHt.out w4 b4
  clear X5 own3 b3
  go_wp2_with fail
  refine (CP.out _ _ _ b4 own4).mono ?_
  rintro e w9 ⟨rfl, hb9⟩
  go_wp2_with fail
  go_ret
  exact ⟨rfl, hb9⟩
end Go.Proofs.YtlndhdimamnnlaaGreatDoor

/- A list of bytes as a text. No program. -/
namespace Go.Proofs.YtlndhdimamnnlaaGreatDoor

/-- A list of bytes as a text. -/
def ba (l : List UInt8) : ByteArray := ⟨l.toArray⟩
theorem ba_data (l : List UInt8) : (ba l).data.toList = l := rfl
theorem ba_size (l : List UInt8) : (ba l).size = l.length := by rw [Lib.size_eq, ba_data]
theorem ba_self (s : ByteArray) : ba s.data.toList = s := rfl
theorem ba_isEmpty (l : List UInt8) : (ba l).toList.isEmpty = l.isEmpty := by rw [ByteArray.toList_eq, ba_data]
end Go.Proofs.YtlndhdimamnnlaaGreatDoor

/- Plain functions: a text of a bundle is read as a part, and all in it. No program. -/
namespace Go.Proofs.YtlndhdimamnnlaaGreatDoor

/-- One behind the other, by the count of what was begun so far. -/
def readAll (rd : List UInt8 → Nat → Nat × PT × Nat) : List (List UInt8) → Nat → List PT → Nat × List PT × Nat
  | [], n, acc => (0, acc, n)
  | b :: bs, n, acc => if (rd b n).1 = 0 then readAll rd bs (rd b n).2.2 (acc ++ [(rd b n).2.1]) else ((rd b n).1, [], (rd b n).2.2)
def kindOf (fs : List Fld) : List UInt8 := if getN nmType fs = [] then txPlain else getN nmType fs
def partOf (main : List UInt8) (fs : List Fld) : PT := ⟨ba main, ⟨#[]⟩, ba (bareI (getN nmID fs)), ba (getN nmLoc fs), 0, [], []⟩
/-- What a text is read as: an error, the part, how many were begun. -/
def readP : Nat → List UInt8 → Nat → Nat × PT × Nat
  | 0, _, n => (2, pt0, n + 1)
  | f + 1, b, n =>
    if 12 < n + 1 then (2, pt0, n + 1)
    else if (parseF b).2.2 ≠ 0 then ((parseF b).2.2, pt0, n + 1)
    else if (paramsF (kindOf (parseF b).1)).2.2 ≠ 0 then ((paramsF (kindOf (parseF b).1)).2.2, pt0, n + 1)
    else if manyS (paramsF (kindOf (parseF b).1)).1 = true then
      if (splitS (b.drop (parseF b).2.1) (getN nmBound (paramsF (kindOf (parseF b).1)).2.1)).2 ≠ 0 then ((splitS (b.drop (parseF b).2.1) (getN nmBound (paramsF (kindOf (parseF b).1)).2.1)).2, pt0, n + 1)
      else if (readAll (readP f) (splitS (b.drop (parseF b).2.1) (getN nmBound (paramsF (kindOf (parseF b).1)).2.1)).1 (n + 1) []).1 ≠ 0 then ((readAll (readP f) (splitS (b.drop (parseF b).2.1) (getN nmBound (paramsF (kindOf (parseF b).1)).2.1)).1 (n + 1) []).1, pt0, (readAll (readP f) (splitS (b.drop (parseF b).2.1) (getN nmBound (paramsF (kindOf (parseF b).1)).2.1)).1 (n + 1) []).2.2)
      else (0, { partOf (paramsF (kindOf (parseF b).1)).1 (parseF b).1 with kids := (readAll (readP f) (splitS (b.drop (parseF b).2.1) (getN nmBound (paramsF (kindOf (parseF b).1)).2.1)).1 (n + 1) []).2.1 }, (readAll (readP f) (splitS (b.drop (parseF b).2.1) (getN nmBound (paramsF (kindOf (parseF b).1)).2.1)).1 (n + 1) []).2.2)
    else if (decP (getN nmHow (parseF b).1) (b.drop (parseF b).2.1)).2.2 ≠ 0 then ((decP (getN nmHow (parseF b).1) (b.drop (parseF b).2.1)).2.2, pt0, n + 1)
    else (0, { partOf (paramsF (kindOf (parseF b).1)).1 (parseF b).1 with cs := ba (getN nmChar (paramsF (kindOf (parseF b).1)).2.1), how := ((decP (getN nmHow (parseF b).1) (b.drop (parseF b).2.1)).1 : Nat), body := (decP (getN nmHow (parseF b).1) (b.drop (parseF b).2.1)).2.1 }, n + 1)

/-- Of what is read rightly no more than twelve were begun. -/
theorem readAll_few (rd : List UInt8 → Nat → Nat × PT × Nat) (h : ∀ b n, (rd b n).1 = 0 → (rd b n).2.2 ≤ 12) : ∀ (bs : List (List UInt8)) (n : Nat) (acc : List PT), n ≤ 12 → (readAll rd bs n acc).1 = 0 → (readAll rd bs n acc).2.2 ≤ 12
  | [], n, acc, hn, _ => hn
  | b :: bs, n, acc, _, he => by
    rw [readAll] at he ⊢
    by_cases h0 : (rd b n).1 = 0
    · rw [if_pos h0] at he ⊢
      exact readAll_few rd h bs _ _ (h b n h0) he
    · rw [if_neg h0] at he
      exact absurd he h0
theorem readP_few : ∀ (f : Nat) (b : List UInt8) (n : Nat), (readP f b n).1 = 0 → (readP f b n).2.2 ≤ 12
  | 0, b, n, h => by rw [readP] at h; cases h
  | f + 1, b, n, h => by
    have ih := readP_few f
    rw [readP] at h ⊢
    by_cases h1 : 12 < n + 1
    · rw [if_pos h1] at h; cases h
    rw [if_neg h1] at h ⊢
    by_cases h2 : (parseF b).2.2 ≠ 0
    · rw [if_pos h2] at h; exact absurd h h2
    rw [if_neg h2] at h ⊢
    by_cases h3 : (paramsF (kindOf (parseF b).1)).2.2 ≠ 0
    · rw [if_pos h3] at h; exact absurd h h3
    rw [if_neg h3] at h ⊢
    by_cases h4 : manyS (paramsF (kindOf (parseF b).1)).1 = true
    · rw [if_pos h4] at h ⊢
      generalize splitS (b.drop (parseF b).2.1) (getN nmBound (paramsF (kindOf (parseF b).1)).2.1) = S at *
      by_cases h5 : S.2 ≠ 0
      · rw [if_pos h5] at h; exact absurd h h5
      rw [if_neg h5] at h ⊢
      by_cases h6 : (readAll (readP f) S.1 (n + 1) []).1 ≠ 0
      · rw [if_pos h6] at h; exact absurd h h6
      rw [if_neg h6]
      exact readAll_few (readP f) ih S.1 (n + 1) [] (by omega) (by simpa using h6)
    · rw [if_neg h4] at h ⊢
      generalize decP (getN nmHow (parseF b).1) (b.drop (parseF b).2.1) = D at *
      by_cases h5 : D.2.2 ≠ 0
      · rw [if_pos h5] at h; exact absurd h h5
      rw [if_neg h5]
      show n + 1 ≤ 12
      omega

theorem readAll_grows (rd : List UInt8 → Nat → Nat × PT × Nat) (h : ∀ b n, n + 1 ≤ (rd b n).2.2) : ∀ (bs : List (List UInt8)) (n : Nat) (acc : List PT), n ≤ (readAll rd bs n acc).2.2
  | [], n, acc => Nat.le_refl _
  | b :: bs, n, acc => by
    rw [readAll]
    have h1 := h b n
    split
    · have := readAll_grows rd h bs (rd b n).2.2 (acc ++ [(rd b n).2.1])
      omega
    · show n ≤ (rd b n).2.2
      omega
theorem readP_grows : ∀ (f : Nat) (b : List UInt8) (n : Nat), n + 1 ≤ (readP f b n).2.2
  | 0, b, n => by rw [readP]; exact Nat.le_refl _
  | f + 1, b, n => by
    have ih := readP_grows f
    rw [readP]
    split
    · exact Nat.le_refl _
    split
    · exact Nat.le_refl _
    split
    · exact Nat.le_refl _
    split
    · split
      · exact Nat.le_refl _
      · split
        · exact readAll_grows _ ih _ _ _
        · exact readAll_grows _ ih _ _ _
    · split
      · exact Nat.le_refl _
      · exact Nat.le_refl _
/-- What a text is read as, and checked. -/
def readM (L : List UInt8) : Nat × PT :=
  if 40000 < L.length then (2, pt0) else if (readP 3 L 0).1 ≠ 0 then ((readP 3 L 0).1, pt0) else if (placesP (readP 3 L 0).2.1).1 ≠ 0 then ((placesP (readP 3 L 0).2.1).1, pt0) else (0, (readP 3 L 0).2.1)
end Go.Proofs.YtlndhdimamnnlaaGreatDoor
