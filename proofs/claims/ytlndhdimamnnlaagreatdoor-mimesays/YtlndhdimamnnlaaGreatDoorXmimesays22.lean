
import Derived.Test.YtlndhdimamnnlaaGreatDoorXmimesays21
namespace Go.Proofs.YtlndhdimamnnlaaGreatDoor
open Go.RowKit
def fv (l : List FV) : List Value := l.flatMap fun f => [Value.string f.1, Value.string f.2]
theorem fv_snoc (l : List FV) (f : FV) : fv (l ++ [f]) = fv l ++ [Value.string f.1, Value.string f.2] := by simp [fv]
theorem fv_length (l : List FV) : (fv l).length = l.length * 2 := by
 induction l with
 | nil => rfl
 | cons a l ih => simp only [fv, List.flatMap_cons, List.length_append, List.length_cons, List.length_nil]; simp only [fv] at ih; omega
theorem fv_get (l : List FV) : ∀ i, i < l.length → (fv l)[i * 2]? = some (.string (l.getD i default).1) ∧ (fv l)[i * 2 + 1]? = some (.string (l.getD i default).2) := by
 induction l with
 | nil => intro i hi; simp at hi
 | cons a l ih =>
  intro i hi
  match i with
  | 0 => simp [fv]
  | i + 1 =>
   have := ih i (by simpa using hi)
   rw [show fv (a :: l) = Value.string a.1 :: Value.string a.2 :: fv l from rfl, show (i + 1) * 2 = i * 2 + 2 from by omega, show i * 2 + 2 + 1 = i * 2 + 1 + 2 from by omega]
   simpa using this
theorem owned_fields {w : World} {B : Nat} {v : Value} {l : List FV} (h : w.ownsRow B 105 2 v l.length (fv l)) :
  ∃ p c, v = .slice p l.length c ∧ l.length ≤ c ∧ c ≤ maxLen ∧ (p = none → l.length = 0 ∧ c = 0) ∧ (∀ g, v.ownBlock = some g → p = some ⟨g, 0, none⟩ ∧ B ≤ g ∧ g < w.heap.size) ∧ (l ≠ [] → ∃ g, p = some ⟨g, 0, none⟩ ∧ v.ownBlock = some g) ∧ FRow w p l := by
 rcases h.2 with ⟨rfl, h0⟩ | ⟨g, cap, cur, rfl, hg, hh, hnc, hcp, hcs, htake⟩
 ·exact ⟨none, 0, by rw [h0], by omega, by decide, fun _ => ⟨h0, rfl⟩, fun g hg => by simp [Value.ownBlock] at hg, fun hne => absurd (List.length_eq_zero_iff.1 h0) hne, fun hne => absurd (List.length_eq_zero_iff.1 h0) hne⟩
 ·refine ⟨some ⟨g, 0, none⟩, cap, rfl, hnc, hcp, fun e => (by cases e), fun g' hg' => ?_, fun _ => ⟨g, rfl, rfl⟩, fun _ => ⟨g, 0, rfl, fun i hi => ?_⟩⟩
  ·have hl := h.lt g' hg'
   simp [Value.ownBlock] at hg'
   subst hg'
   exact ⟨rfl, hl.1, hl.2⟩
  ·have hf := fv_get l i hi
   rw [Nat.zero_add, h.cellAt (i * 2) (by omega), h.cellAt (i * 2 + 1) (by omega)]
   exact hf
def FReadPost (w : World) (out : List Fld × Nat × Nat) (e : Ending) (w' : World) : Prop :=
 Below w.heap.size w w' ∧ ∃ p c fs, e = .returned (.tuple #[.slice p fs.length c, .int .i64 (out.2.1 : Int), .int .i64 (out.2.2 : Int)]) ∧ fs.map fl = out.1 ∧ fs.length ≤ c ∧ c ≤ maxLen ∧ FRow w' p fs ∧ FLen fs
theorem freadPost_none {w w' : World} (hb : Below w.heap.size w w') (n : Nat) : FReadPost w ([], 0, n) (.returned (.tuple #[.slice none 0 0, .int .i64 0, .int .i64 (n : Int)])) w' :=
 ⟨hb, none, 0, [], rfl, rfl, Nat.le_refl _, by decide, fun h => absurd rfl h, fun f hf => by cases hf⟩
theorem fail_any (k : Nat) (kk : Int) (e : kk = (k : Int)) (w : World) :
  Calls Tryz.prog 77 #[.int .i64 kk] w fun e w' => e = .returned (.tuple #[.slice none 0 0, .int .i64 0, .int .i64 (k : Int)]) ∧ w' = w := by
 subst e
 go_enter Tryz.func77, Tryz.ntmps77
 go_wp2
 go_ret3
 exact ⟨rfl, rfl⟩
theorem index_rest (b o n c A : Nat) (L : List UInt8) (en : n = L.length) (w : World) (hn : n ≤ 40000) (hA : A ≤ n)
  (hc : ∀ i, i < n → w.cell? ⟨b, o + i, none⟩ = some (.int .u8 ((L.getD i 0).toNat : Int))) :
  Calls Tryz.prog 78 #[.slice (some ⟨b, o + A, none⟩) (n - A) c, .int .u8 10] w fun e w' => e = .returned (.int .i64 (whereB 10 (L.drop A))) ∧ w' = w := by
 rcases Nat.eq_zero_or_pos (n - A) with h0 | h0
 ·rw [h0]
  have e : L.drop A = [] := List.drop_of_length_le (by omega)
  rw [e]
  exact index_nil _ _ 10 w
 ·refine index_some b (o + A) (n - A) c (L.drop A) (by rw [List.length_drop]; omega) 10 10 rfl w h0 (by omega) (fun i hi => ?_)
  rw [Nat.add_assoc, hc (A + i) (by omega)]
  simp [List.getD_eq_getElem?_getD]
theorem conv_line (b o n c A k : Nat) (L a r : List UInt8) (en : n = L.length) (w : World) (hd : L.drop A = a ++ 10 :: r) (hk : k = a.length) (hA : A ≤ n)
  (hc : ∀ i, i < n → w.cell? ⟨b, o + i, none⟩ = some (.int .u8 ((L.getD i 0).toNat : Int))) :
  (convert 22 9 (.slice (some ⟨b, o + A, none⟩) k c)).run Tryz.prog w = .ok (.string ⟨a.toArray⟩) w := by
 subst hk
 have hl : n = A + (a.length + 1 + r.length) := by
  have := congrArg List.length hd
  rw [List.length_drop, List.length_append, List.length_cons] at this
  omega
 refine run_convert_bytes_back (P := Tryz.prog) w 22 9 5 ⟨b, o + A, none⟩ c a Tryz.underlying22 Tryz.underlying5 Tryz.underlying9 (fun j hj => ?_)
 rw [Addr.add_lit, Nat.add_assoc, hc (A + j) (by omega)]
 have : L[A + j]? = a[j]? := by
  rw [← List.getElem?_drop, hd, List.getElem?_append_left hj]
 rw [List.getD_eq_getElem?_getD, this, List.getElem?_eq_getElem hj]
 rfl
theorem parse_step {A n : Nat} {L a r : List UInt8} {fs : List Fld} (en : n = L.length) (hA : A ≤ n) (hc : cutB 10 (L.drop A) = some (a, r)) :
  A + a.length + 1 ≤ n ∧ L.drop (A + a.length + 1) = r ∧ (noCR a = [] → parseGo (n - A + 1) (L.drop A) A fs = (if checkF fs = 0 then (fs, A + a.length + 1, 0) else ([], 0, checkF fs))) ∧
  (noCR a ≠ [] → ∀ e, addLine fs (noCR a) = .error e → parseGo (n - A + 1) (L.drop A) A fs = ([], 0, e)) ∧
  (noCR a ≠ [] → ∀ fs', addLine fs (noCR a) = .ok fs' → parseGo (n - A + 1) (L.drop A) A fs = parseGo (n - (A + a.length + 1) + 1) (L.drop (A + a.length + 1)) (A + a.length + 1) fs') := by
 obtain ⟨hd, _⟩ := cutB_some 10 _ _ _ hc
 have hl : n = A + (a.length + 1 + r.length) := by
  have := congrArg List.length hd
  rw [List.length_drop, List.length_append, List.length_cons] at this
  omega
 have hr : L.drop (A + a.length + 1) = r := by
  rw [Nat.add_assoc, ← List.drop_drop, hd]
  simp
 refine ⟨by omega, hr, fun h => ?_, fun h e he => ?_, fun h fs' he => ?_⟩
 ·rw [parseGo, hc]; simp only; rw [if_pos h]
 ·rw [parseGo, hc]; simp only; rw [if_neg h, he]
 ·rw [parseGo, hc]; simp only; rw [if_neg h, he, hr]
  exact parseGo_fuel _ r _ _ _ (by omega) (by omega)
theorem parse_end {A n : Nat} {L : List UInt8} {fs : List Fld} (hc : cutB 10 (L.drop A) = none) : parseGo (n - A + 1) (L.drop A) A fs = ([], 0, 1) := by
 rw [parseGo, hc]
theorem ba_first (t : ByteArray) (n : Nat) (h : t.size = n + 1) : ∃ c, t.extract 0 1 = ⟨#[c]⟩ ∧ t.data.toList.head? = some c := by
 have hl : t.data.toList.length = n + 1 := by rw [Array.length_toList]; exact h
 obtain ⟨a, l, ht⟩ : ∃ a l, t.data.toList = a :: l := by
  cases ht : t.data.toList with
  | nil => rw [ht] at hl; cases hl
  | cons a l => exact ⟨a, l, rfl⟩
 refine ⟨a, ?_, by rw [ht]; rfl⟩
 apply ByteArray.ext
 apply Array.toList_inj.1
 rw [Lib.extract_data, List.drop_zero, Nat.sub_zero, ht]
 rfl
theorem blank_first (c : UInt8) (w : World) : Calls Tryz.prog 18 #[.string ⟨#[32, 9]⟩, .string ⟨#[c]⟩] w fun e w' => e = .returned (.bool (isBT c)) ∧ w' = w := by
 refine (Tryz.strings_Contains_one ⟨#[32, 9]⟩ c w).mono ?_
 rintro e w' ⟨rfl, rfl⟩
 exact ⟨by rw [indexByte_mem]; rfl, rfl⟩
theorem colon_at (X : ByteArray) (w : World) : Calls Tryz.prog 52 #[.string X, .string ⟨#[58]⟩] w fun e w' => e = .returned (.int .i64 (whereB 58 X.data.toList)) ∧ w' = w := by
 refine (Tryz.strings_Index_one X 58 w).mono ?_
 rintro e w' ⟨rfl, rfl⟩
 exact ⟨by rw [indexByte_where], rfl⟩
theorem ba_part (X : ByteArray) (n v : List UInt8) (h : X.data.toList = n ++ 58 :: v) : ∃ NM VL : ByteArray, X.extract 0 n.length = NM ∧ X.extract (n.length + 1) X.size = VL ∧ NM.data.toList = n ∧ VL.data.toList = v ∧ NM.size = n.length ∧ VL.size = v.length ∧ X.size = n.length + 1 + v.length := by
 have hl : X.size = n.length + 1 + v.length := by rw [Lib.size_eq, h]; simp; omega
 have e1 : (X.extract 0 n.length).data.toList = n := by rw [Lib.extract_data, h]; simp
 have e2 : (X.extract (n.length + 1) X.size).data.toList = v := by
  rw [Lib.extract_data, h, hl, show n.length + 1 + v.length - (n.length + 1) = v.length from by omega, ← List.drop_drop]
  simp
 exact ⟨_, _, rfl, rfl, e1, e2, by rw [Lib.size_eq, e1], by rw [Lib.size_eq, e2], hl⟩
theorem add_none {line : List UInt8} {c : UInt8} (h : line.head? = some c) (hb : isBT c = true) : addLine [] line = .error 1 := by
 rw [addLine, if_pos (by rw [h]; simp [hb])]; rfl
theorem add_more {fs : List Fld} {f : Fld} {line : List UInt8} {c : UInt8} (h : line.head? = some c) (hb : isBT c = true) : addLine (fs ++ [f]) line = .ok (fs ++ [(f.1, trimBy isSp (f.2 ++ [32] ++ trimBy isBT line))]) := by
 rw [addLine, if_pos (by rw [h]; simp [hb])]
 simp
theorem add_bad {fs : List Fld} {line : List UInt8} {c : UInt8} (h : line.head? = some c) (hb : isBT c = false) (hc : cutB 58 line = none) : addLine fs line = .error 1 := by
 rw [addLine, if_neg (by rw [h]; simp [hb]), hc]
theorem add_many {fs : List Fld} {line : List UInt8} {c : UInt8} {x : List UInt8 × List UInt8} (h : line.head? = some c) (hb : isBT c = false) (hc : cutB 58 line = some x) (hl : 20 < fs.length + 1) : addLine fs line = .error 2 := by
 rw [addLine, if_neg (by rw [h]; simp [hb]), hc]; simp only; rw [if_pos hl]
theorem add_new {fs : List Fld} {line : List UInt8} {c : UInt8} {x : List UInt8 × List UInt8} (h : line.head? = some c) (hb : isBT c = false) (hc : cutB 58 line = some x) (hl : ¬ 20 < fs.length + 1) : addLine fs line = .ok (fs ++ [(x.1, trimBy isBT x.2)]) := by
 rw [addLine, if_neg (by rw [h]; simp [hb]), hc]; simp only; rw [if_neg hl]
theorem fv_set (l : List FV) (a b c : ByteArray) : (fv (l ++ [(a, b)])).set (l.length * 2 + 1) (.string c) = fv (l ++ [(a, c)]) := by
 rw [fv_snoc, fv_snoc, List.set_append_right (l.length * 2 + 1) _ (by rw [fv_length]; omega), fv_length, show l.length * 2 + 1 - l.length * 2 = 1 from by omega]
 rfl
theorem cell_pair (w : World) (v v' : Value) (t : TypeId) : ∀ j x, [v, v'][j]? = some x → (w.alloc (.cells #[v, v'] t)).cell? ((⟨w.heap.size, 0, none⟩ : Addr).add j) = some x := cell_two w v v' t
end Go.Proofs.YtlndhdimamnnlaaGreatDoor



namespace Go.Proofs.YtlndhdimamnnlaaGreatDoor
open Go.RowKit
theorem info_fieldH : (Tryz.prog.info? 105).map (fun i => (i.zero, i.size, i.bytes)) = some (some (.agg #[.string ⟨#[]⟩, .string ⟨#[]⟩]), 2, 32) := by kernel_rfl
theorem head_facts {S : ByteArray} {c0 : UInt8} (h : S.data.toList.head? = some c0) : ∃ n, S.size = n + 1 := by
 cases hl : S.data.toList with
 | nil => rw [hl] at h; cases h
 | cons a l => exact ⟨l.length, by rw [Lib.size_eq, hl]; rfl⟩
theorem isBT_no {c : UInt8} (h : isBT c = false) : ((c.toNat : Int) == 32) = false ∧ ((c.toNat : Int) == 9) = false := by
 rw [← Bool.not_eq_true, isBT_eq] at h
 constructor
 ·rw [beq_eq_false_iff_ne]; intro e; exact h (.inl (UInt8.toNat_inj.1 (by show c.toNat = 32; omega)))
 ·rw [beq_eq_false_iff_ne]; intro e; exact h (.inr (UInt8.toNat_inj.1 (by show c.toNat = 9; omega)))
theorem line_none (S : ByteArray) (c0 : UInt8) (hh : S.data.toList.head? = some c0) (hb : isBT c0 = true) (p : Option Addr) (c : Nat) (w : World) (hs : S.size ≤ 1000000) :
  Calls Tryz.prog 116 #[.slice p 0 c, .string S] w fun e w' => e = .returned (.tuple #[.slice none 0 0, .bool false]) ∧ w' = w := by
 obtain ⟨n, hn⟩ := head_facts hh
 obtain ⟨d, t8, h1, _, _, h4⟩ := ba_head S n hn
 obtain rfl : d = c0 := by rw [h4] at hh; exact Option.some.inj hh
 have hpos : (0 : Int) < (S.size : Int) := by omega
 clear h4 hh
 rw [isBT_eq] at hb
 rcases hb with rfl | rfl
 all_goals
  go_enter Tryz.func116, Tryz.ntmps116
  go_wp2
  go_ret2
  exact ⟨rfl, rfl⟩
theorem line_bad (S : ByteArray) (c0 : UInt8) (hh : S.data.toList.head? = some c0) (hb : isBT c0 = false) (hc : cutB 58 S.data.toList = none) (lv : Value) (w : World) (hs : S.size ≤ 1000000) :
  Calls Tryz.prog 116 #[lv, .string S] w fun e w' => e = .returned (.tuple #[.slice none 0 0, .bool false]) ∧ Below w.heap.size w w' := by
 obtain ⟨n, hn⟩ := head_facts hh
 obtain ⟨d, t8, h1, _, _, h4⟩ := ba_head S n hn
 obtain rfl : d = c0 := by rw [h4] at hh; exact Option.some.inj hh
 have hpos : (0 : Int) < (S.size : Int) := by omega
 clear h4 hh
 obtain ⟨e1, e2⟩ := isBT_no hb
 have HC : Hid (∀ w, Calls Tryz.prog 114 #[.string S, .string ⟨#[58]⟩] w fun e w' => e = .returned (.tuple #[.string S, .string ⟨#[]⟩, .bool false]) ∧ Below w.heap.size w w') := fun w => cut_none 58 S w hc
 clear hc
 go_enter Tryz.func116, Tryz.ntmps116
 go_wp2_with fail
 refine (HC.out _).mono ?_
 rintro e w1 ⟨rfl, hb1⟩
 clear HC
 go_wp2
 go_ret2
 exact ⟨rfl, hb1⟩
set_option maxHeartbeats 2000000 in
theorem line_new (B : Nat) (S : ByteArray) (c0 : UInt8) (hh : S.data.toList.head? = some c0) (hb : isBT c0 = false) (NM VL T : ByteArray) (hc : cutB 58 S.data.toList = some (NM.data.toList, VL.data.toList)) (hT : T.data.toList = trimBy isBT VL.data.toList)
  (lv : Value) (fs : List FV) (w : World) (hs : S.size ≤ 1000000) (hv : VL.size ≤ 1000000) (hB : B ≤ w.heap.size) (h20 : fs.length ≤ 1000000) (hown : w.ownsRow B 105 2 lv fs.length (fv fs)) :
  Calls Tryz.prog 116 #[lv, .string S] w fun e w' => Below B w w' ∧ ∃ v, e = .returned (.tuple #[v, .bool true]) ∧ w'.ownsRow B 105 2 v (fs ++ [(NM, T)]).length (fv (fs ++ [(NM, T)])) := by
 obtain ⟨i0, hi, hz0, hz1, hz2⟩ := info_parts info_fieldH
 obtain ⟨n, hn⟩ := head_facts hh
 obtain ⟨d, t8, h1, _, _, h4⟩ := ba_head S n hn
 obtain rfl : d = c0 := by rw [h4] at hh; exact Option.some.inj hh
 have hpos : (0 : Int) < (S.size : Int) := by omega
 clear h4 hh
 obtain ⟨e1, e2⟩ := isBT_no hb
 have HC : Hid (∀ w, Calls Tryz.prog 114 #[.string S, .string ⟨#[58]⟩] w fun e w' => e = .returned (.tuple #[.string NM, .string VL, .bool true]) ∧ Below w.heap.size w w') := fun w => cut_some 58 S NM VL w (by omega) hc
 have HT : Hid (∀ w', Calls Tryz.prog 79 #[.string VL, .string ⟨#[32, 9]⟩] w' fun e w'' => e = .returned (.string T) ∧ Below w'.heap.size w' w'') := fun w' => trimBT_any VL T hT w' (by omega)
 clear hc hT
 obtain ⟨p0, c1, rfl, hl1, hl2, _, _, _, _⟩ := owned_fields hown
 go_enter Tryz.func116, Tryz.ntmps116
 go_wp2_with fail
 refine (HC.out _).mono ?_
 rintro e w1 ⟨rfl, hb1⟩
 clear HC
 go_wp2_with fail
 refine (HT.out _).mono ?_
 rintro e w2 ⟨rfl, hb2⟩
 clear HT
 have hbw : Below w.heap.size w w2 := hb1.trans (hb2.mono hb1.size)
 have hs2 := hbw.size
 have hown2 := ownsRow_below hown hbw
 clear hb1 hb2
 go_wp2_with (at_builtin; refine wpList_append_own _ rfl (.tmp 47) (.tmp 52) 66 rfl B 105 i0 (.agg #[.string ⟨#[]⟩, .string ⟨#[]⟩]) 2 32 Tryz.underlying66 hi hz0 hz1 hz2 rfl (by decide) _ _ _ rfl (hown2.alloc _) ⟨w2.heap.size, 0, none⟩ 1 1 [.string NM, .string T] rfl rfl ?c1 ?c2 ?c3 ?c4 ?c5 ?_)
 case c1 => exact cell_pair _ _ _ _
 case c2 => intro u hu; simp at hu; rcases hu with rfl | rfl <;> rfl
 case c3 => unfold maxLen; omega
 case c4 => omega
 case c5 => simp; omega
 intro v3 w3 hown3 hg3 _
 have RB : Below B w w3 := ((hbw.mono hB).alloc (by omega) _).grown hg3 (by simp; omega) (fun j hj => (hown2.lt j hj).1)
 have R : w3.ownsRow B 105 2 v3 (fs ++ [(NM, T)]).length (fv (fs ++ [(NM, T)])) := by rw [fv_snoc, List.length_append]; exact hown3
 clear hg3 hown3 hown2 hown
 go_wp2
 go_ret2
 exact ⟨RB, v3, rfl, R⟩
set_option maxHeartbeats 4000000 in
theorem line_more (B : Nat) (S : ByteArray) (c0 : UInt8) (hh : S.data.toList.head? = some c0) (hb : isBT c0 = true) (fs0 : List FV) (Na Va T2 : ByteArray) (hT2 : T2.data.toList = trimBy isSp (Va.data.toList ++ [32] ++ trimBy isBT S.data.toList))
  (lv : Value) (w : World) (hs : S.size ≤ 1000000) (hv : Va.size ≤ 1000000) (hB : B ≤ w.heap.size) (h20 : fs0.length ≤ 1000000) (hown : w.ownsRow B 105 2 lv (fs0 ++ [(Na, Va)]).length (fv (fs0 ++ [(Na, Va)]))) :
  Calls Tryz.prog 116 #[lv, .string S] w fun e w' => Below B w w' ∧ ∃ v, e = .returned (.tuple #[v, .bool true]) ∧ w'.ownsRow B 105 2 v (fs0 ++ [(Na, T2)]).length (fv (fs0 ++ [(Na, T2)])) := by
 obtain ⟨n, hn⟩ := head_facts hh
 obtain ⟨d, t8, h1, _, _, h4⟩ := ba_head S n hn
 obtain rfl : d = c0 := by rw [h4] at hh; exact Option.some.inj hh
 have hpos : (0 : Int) < (S.size : Int) := by omega
 clear h4 hh
 obtain ⟨T1, hT1, hT1s⟩ := mk_trim isBT S.data.toList
 obtain ⟨X, hX⟩ : ∃ X : ByteArray, X = Va ++ ⟨#[32]⟩ ++ T1 := ⟨_, rfl⟩
 have hXd : X.data.toList = Va.data.toList ++ [32] ++ T1.data.toList := by rw [hX]; simp
 rw [← Lib.size_eq] at hT1s
 have hXs : X.size = Va.size + 1 + T1.size := by rw [Lib.size_eq, hXd]; simp only [List.length_append, List.length_cons, List.length_nil]; rw [← Lib.size_eq, ← Lib.size_eq]
 have CT1 : Hid (∀ w', Calls Tryz.prog 79 #[.string S, .string ⟨#[32, 9]⟩] w' fun e w'' => e = .returned (.string T1) ∧ Below w'.heap.size w' w'') := fun w' => trimBT_any S T1 hT1 w' (by omega)
 have CT2 : Hid (∀ w', Calls Tryz.prog 79 #[.string X, .string ⟨#[32]⟩] w' fun e w'' => e = .returned (.string T2) ∧ Below w'.heap.size w' w'') := fun w' => trimSp_any X T2 (by rw [hT2, hXd, hT1]) w' (by omega)
 obtain ⟨p1, c1, rfl, hl1, hl2, hl3, hob, hgg, hfr⟩ := owned_fields hown
 obtain ⟨g, rfl, hgo⟩ := hgg (by simp)
 obtain ⟨_, hgB, hgl⟩ := hob g hgo
 obtain ⟨b', o', he', hcell⟩ := hfr (by simp)
 obtain ⟨rfl, rfl⟩ : b' = g ∧ o' = 0 := by injection he' with he'; injection he' with h1 h2; exact ⟨h1.symm, h2.symm⟩
 have hld := (hcell fs0.length (by simp)).2
 rw [show ((fs0 ++ [(Na, Va)]).getD fs0.length default) = (Na, Va) from by simp [List.getD_eq_getElem?_getD], Nat.zero_add] at hld
 have e1 : (fs0 ++ [(Na, Va)]).length = fs0.length + 1 := by simp
 have hfz := hown.frozenAt (fs0.length * 2 + 1)
 have HO : Hid (w.ownsRow B 105 2 (.slice (some ⟨b', 0, none⟩) (fs0.length + 1) c1) (fs0.length + 1) (fv (fs0 ++ [(Na, Va)]))) := by unfold Hid; rw [← e1]; exact hown
 have h44 : Below w.heap.size w w := Below.refl _ _
 rw [e1] at hl1 ⊢
 have hl2i : (fs0.length : Int) + 1 ≤ (c1 : Int) := by omega
 have hXe : Va ++ ⟨#[32]⟩ ++ T1 = X := hX.symm
 have hVs : Va.size + T1.size + 1 ≤ 3000000 := by omega
 have hcat1 : ¬ 9223372036854775807 < Va.size + 1 := by omega
 have hcat2 : ¬ 9223372036854775807 < Va.size + 1 + T1.size := by omega
 have hm1 : ¬ ((fs0.length : Int) + 1 == 0) = true := by rw [beq_iff_eq]; omega
 clear hXs hcell hfr he' hob hgo hown e1 hX hXd hT1 hT2 hT1s hl3
 rw [isBT_eq] at hb
 rcases hb with rfl | rfl
 all_goals
  go_enter Tryz.func116, Tryz.ntmps116
  go_wp2
  go_region_with (first
   | (go_at_call_of 79 S; refine (CT1.out _).mono ?_; rintro e w2 ⟨rfl, hb2⟩; have hbw2 : Below w.heap.size w w2 := (h44.drew).trans hb2; have hld2 := (hbw2.cell (p := ⟨b', fs0.length * 2 + 1, none⟩) hgl).trans hld; clear hb2)
   | (go_at_call_of 79 X; refine (CT2.out _).mono ?_; rintro e w3 ⟨rfl, hb3⟩; have hbw3 : Below w.heap.size w w3 := hbw2.trans (hb3.mono hbw2.size); have hld3 := (hbw3.cell (p := ⟨b', fs0.length * 2 + 1, none⟩) hgl).trans hld; have hfz3 := (hbw3.frozen (p := ⟨b', fs0.length * 2 + 1, none⟩) hgl).trans hfz; clear hb3))
  all_goals (
   have st := (ownsRow_below HO.out hbw3).stored (fs0.length * 2 + 1) (.string T2)
   rw [fv_set] at st
   have hbe4 : Below B w (w3.setCell ⟨b', fs0.length * 2 + 1, none⟩ (.string T2)) := (hbw3.mono hB).setCell hgB _
   have HST : Hid ((w3.setCell ⟨b', fs0.length * 2 + 1, none⟩ (.string T2)).ownsRow B 105 2 (.slice (some ⟨b', 0, none⟩) (fs0.length + 1) c1) (fs0.length + 1) (fv (fs0 ++ [(Na, T2)]))) := st.1
   clear st
   go_wp2
   go_ret2
   exact ⟨hbe4, _, rfl, by rw [show (fs0 ++ [(Na, T2)]).length = fs0.length + 1 from by simp]; exact HST.out⟩)
end Go.Proofs.YtlndhdimamnnlaaGreatDoor

