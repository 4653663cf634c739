
import Derived.Test.YtlndhdimamnnlaaGreatDoorXmimesays1
import Derived.Test.YtlndhdimamnnlaaGreatDoorXmimesays2
import Derived.Deep.WholeRow
import Derived.Lib.Strings
import Derived.Lib.Bytealg
namespace Go.Proofs.YtlndhdimamnnlaaGreatDoor
open Go.RowKit
theorem strt_eq {s : ByteArray} {l : List UInt8} (h : s.data.toList = l) : Value.string s = .string ⟨l.toArray⟩ := by
 subst h
 rfl
theorem ba_tail (t : ByteArray) (n : Nat) (h : t.size = n + 1) : ∃ (c : UInt8) (t8 : ByteArray), t[n] = c ∧ t.extract 0 n = t8 ∧ t8.size = n ∧ t.data.toList = t8.data.toList ++ [c] := by
 have hl : t.data.toList.length = n + 1 := by rw [Array.length_toList]; exact h
 refine ⟨_, _, rfl, rfl, ?_, ?_⟩
 ·rw [Lib.size_eq, Lib.extract_data, List.length_take]; simp; omega
 ·rw [Lib.extract_data, List.drop_zero, Nat.sub_zero]
  conv => lhs; rw [← List.take_append_drop n t.data.toList]
  rw [List.drop_eq_getElem_cons (by omega), List.drop_of_length_le (by omega)]
  rfl
theorem ba_head (t : ByteArray) (n : Nat) (h : t.size = n + 1) : ∃ (c : UInt8) (t8 : ByteArray), t[0] = c ∧ t.extract 1 (n + 1) = t8 ∧ t8.size = n ∧ t.data.toList = c :: t8.data.toList := by
 have hl : t.data.toList.length = n + 1 := by rw [Array.length_toList]; exact h
 refine ⟨_, _, rfl, rfl, ?_, ?_⟩
 ·rw [Lib.size_eq, Lib.extract_data, List.length_take]; simp; omega
 ·rw [Lib.extract_data, List.take_of_length_le (by rw [List.length_drop]; omega)]
  conv => lhs; rw [← List.drop_zero (l := t.data.toList), List.drop_eq_getElem_cons (by omega)]
  rfl
theorem zero256 (w : World) : (zeroValue 121).run Tryz.prog w = .ok (.agg (Array.replicate 256 (.bool false))) w := by kernel_rfl
theorem in_set (g : Nat) (c : UInt8) (cc : Int) (e : cc = (c.toNat : Int)) (v : Bool) (w : World) (hc : w.cell? ⟨g, c.toNat, none⟩ = some (.bool v)) :
  Calls Tryz.prog 141 #[.pointer (some ⟨g, 0, none⟩), .int .u8 cc] w fun e w' => e = .returned (.bool v) ∧ w' = w := by
 subst e
 have := c.toNat_lt
 go_enter Tryz.func141, Tryz.ntmps141
 go_wp2
 go_ret
 exact ⟨rfl, rfl⟩
end Go.Proofs.YtlndhdimamnnlaaGreatDoor



namespace Go.Proofs.YtlndhdimamnnlaaGreatDoor
def dropEnd (p : UInt8 → Bool) (l : List UInt8) : List UInt8 := (l.reverse.dropWhile p).reverse
def trimBy (p : UInt8 → Bool) (l : List UInt8) : List UInt8 := (dropEnd p l).dropWhile p
theorem dropEnd_yes (p : UInt8 → Bool) (x : List UInt8) (c : UInt8) (h : p c = true) : dropEnd p (x ++ [c]) = dropEnd p x := by
 unfold dropEnd; rw [List.reverse_append, List.reverse_singleton, List.singleton_append, List.dropWhile_cons, if_pos h]
theorem dropEnd_no (p : UInt8 → Bool) (x : List UInt8) (c : UInt8) (h : p c = false) : dropEnd p (x ++ [c]) = x ++ [c] := by
 unfold dropEnd; rw [List.reverse_append, List.reverse_singleton, List.singleton_append, List.dropWhile_cons, if_neg (by simp [h])]; simp
theorem dropEnd_length (p : UInt8 → Bool) (l : List UInt8) : (dropEnd p l).length ≤ l.length := by
 unfold dropEnd
 rw [List.length_reverse]
 have := (List.dropWhile_sublist p (l := l.reverse)).length_le
 simpa using this
theorem trimBy_length (p : UInt8 → Bool) (l : List UInt8) : (trimBy p l).length ≤ l.length :=
 Nat.le_trans (List.dropWhile_sublist p).length_le (dropEnd_length p l)
theorem dropEnd_last (p : UInt8 → Bool) (l : List UInt8) (h : ∀ c, l.getLast? = some c → p c = false) : dropEnd p l = l := by
 rcases List.eq_nil_or_concat l with rfl | ⟨x, c, rfl⟩
 ·rfl
 ·rw [List.concat_eq_append] at h ⊢
  exact dropEnd_no p x c (h c (by simp))
theorem dropWhile_head (p : UInt8 → Bool) (l : List UInt8) (h : ∀ c, l.head? = some c → p c = false) : l.dropWhile p = l := by
 cases l with
 | nil => rfl
 | cons a l => rw [List.dropWhile_cons, if_neg (by simp [h a rfl])]
theorem trimBy_self (p : UInt8 → Bool) (l : List UInt8) (h1 : ∀ c, l.head? = some c → p c = false) (h2 : ∀ c, l.getLast? = some c → p c = false) : trimBy p l = l := by
 rw [trimBy, dropEnd_last p l h2, dropWhile_head p l h1]
theorem trimBy_cons (p : UInt8 → Bool) (d : UInt8) (l : List UInt8) (hd : p d = true) (h1 : ∀ c, l.head? = some c → p c = false) (h2 : ∀ c, l.getLast? = some c → p c = false) : trimBy p (d :: l) = l := by
 cases l with
 | nil => simp [trimBy, dropEnd, hd]
 | cons a l =>
  have e : dropEnd p (d :: a :: l) = d :: a :: l := dropEnd_last p _ (fun c hc => h2 c (by rw [List.getLast?_cons_cons] at hc; exact hc))
  rw [trimBy, e, List.dropWhile_cons, if_pos hd, dropWhile_head p _ h1]
end Go.Proofs.YtlndhdimamnnlaaGreatDoor



namespace Go.Proofs.YtlndhdimamnnlaaGreatDoor
open Go.RowKit
set_option maxHeartbeats 1000000 in
theorem right_set (p : UInt8 → Bool) (g : Nat) (s : ByteArray) (w : World) (hs : s.size ≤ 1000000000) (hg : ∀ c : UInt8, w.cell? ⟨g, c.toNat, none⟩ = some (.bool (p c))) :
  Calls Tryz.prog 94 #[.string s, .pointer (some ⟨g, 0, none⟩)] w fun e w' => e = .returned (.string ⟨(dropEnd p s.data.toList).toArray⟩) ∧ w' = w := by
 have HG : Hid (∀ c : UInt8, w.cell? ⟨g, c.toNat, none⟩ = some (.bool (p c))) := hg
 clear hg
 go_enter Tryz.func94, Tryz.ntmps94
 go_wp2
 go_loopw [0] (fun v wr => ∃ t : ByteArray, v = .string t ∧ t.size ≤ s.size ∧ wr = w ∧ Hid (dropEnd p t.data.toList = dropEnd p s.data.toList)) (fun v _ => strLen v)
 case atStart => exact ⟨s, rfl, Nat.le_refl _, rfl, rfl⟩
 case round =>
  obtain ⟨t, rfl, hts, rfl, HT⟩ := hrel
  rcases Nat.eq_zero_or_pos t.size with h0 | h0
  ·go_wp2
   go_ret
   have e : t.data.toList = [] := List.length_eq_zero_iff.1 (by rw [← Lib.size_eq]; exact h0)
   exact ⟨congrArg Ending.returned (strt_eq (by rw [← HT.out, e]; rfl)), rfl⟩
  ·obtain ⟨n, hn⟩ : ∃ n, t.size = n + 1 := ⟨t.size - 1, by omega⟩
   obtain ⟨c, t8, h1, h2, h3, h4⟩ := ba_tail t n hn
   have hcell := HG.out c
   cases hb : p c
   ·have HE : Hid (dropEnd p t.data.toList = t.data.toList) := by unfold Hid; rw [h4]; exact dropEnd_no p _ _ hb
    rw [hb] at hcell
    clear h4 hb
    go_wp2_with (go_at_call 141; refine (in_set g c _ rfl false _ hcell).mono ?_; rintro e w' ⟨rfl, hw'⟩; have hw'' := hw'.symm; subst hw'')
    go_ret
    exact ⟨congrArg Ending.returned (strt_eq (by rw [← HT.out, HE.out])), rfl⟩
   ·have HE : Hid (dropEnd p t8.data.toList = dropEnd p t.data.toList) := by unfold Hid; rw [h4]; exact (dropEnd_yes p _ _ hb).symm
    rw [hb] at hcell
    clear h4 hb
    go_wp2_with (go_at_call 141; refine (in_set g c _ rfl true _ hcell).mono ?_; rintro e w' ⟨rfl, hw'⟩; have hw'' := hw'.symm; subst hw'')
    go_roundw
    case rel => exact ⟨t8, rfl, by omega, trivial, HE.out.trans HT.out⟩
    case measure => simp [strLen]; omega
set_option maxHeartbeats 1000000 in
theorem left_set (p : UInt8 → Bool) (g : Nat) (s : ByteArray) (w : World) (hg : ∀ c : UInt8, w.cell? ⟨g, c.toNat, none⟩ = some (.bool (p c))) :
  Calls Tryz.prog 128 #[.string s, .pointer (some ⟨g, 0, none⟩)] w fun e w' => e = .returned (.string ⟨(s.data.toList.dropWhile p).toArray⟩) ∧ w' = w := by
 have HG : Hid (∀ c : UInt8, w.cell? ⟨g, c.toNat, none⟩ = some (.bool (p c))) := hg
 clear hg
 go_enter Tryz.func128, Tryz.ntmps128
 go_wp2
 go_loopw [0] (fun v wr => ∃ t : ByteArray, v = .string t ∧ t.size ≤ s.size ∧ wr = w ∧ Hid (t.data.toList.dropWhile p = s.data.toList.dropWhile p)) (fun v _ => strLen v)
 case atStart => exact ⟨s, rfl, Nat.le_refl _, rfl, rfl⟩
 case round =>
  obtain ⟨t, rfl, hts, rfl, HT⟩ := hrel
  rcases Nat.eq_zero_or_pos t.size with h0 | h0
  ·go_wp2
   go_ret
   have e : t.data.toList = [] := List.length_eq_zero_iff.1 (by rw [← Lib.size_eq]; exact h0)
   exact ⟨congrArg Ending.returned (strt_eq (by rw [← HT.out, e]; rfl)), rfl⟩
  ·obtain ⟨n, hn⟩ : ∃ n, t.size = n + 1 := ⟨t.size - 1, by omega⟩
   obtain ⟨c, t8, h1, h2, h3, h4⟩ := ba_head t n hn
   have hcell := HG.out c
   cases hb : p c
   ·have HE : Hid (t.data.toList.dropWhile p = t.data.toList) := by unfold Hid; rw [h4, List.dropWhile_cons, if_neg (by simp [hb])]
    rw [hb] at hcell
    clear h4 hb
    go_wp2_with (go_at_call 141; refine (in_set g c _ rfl false _ hcell).mono ?_; rintro e w' ⟨rfl, hw'⟩; have hw'' := hw'.symm; subst hw'')
    go_ret
    exact ⟨congrArg Ending.returned (strt_eq (by rw [← HT.out, HE.out])), rfl⟩
   ·have HE : Hid (t8.data.toList.dropWhile p = t.data.toList.dropWhile p) := by unfold Hid; rw [h4, List.dropWhile_cons, if_pos hb]
    rw [hb] at hcell
    clear h4 hb
    go_wp2_with (go_at_call 141; refine (in_set g c _ rfl true _ hcell).mono ?_; rintro e w' ⟨rfl, hw'⟩; have hw'' := hw'.symm; subst hw'')
    go_roundw
    case rel => exact ⟨t8, rfl, by omega, trivial, HE.out.trans HT.out⟩
    case measure => simp [strLen]; omega
set_option maxHeartbeats 2000000 in
set_option maxRecDepth 100000 in
theorem trim_set (cs : ByteArray) (s : ByteArray) (w : World) (hs : s.size ≤ 1000000000) (hc2 : 2 ≤ cs.size) (hcm : cs.size ≤ 1000) (hasc : ∀ (j : Nat) (b : UInt8), cs.data.toList[j]? = some b → b.toNat < 128) :
  Calls Tryz.prog 79 #[.string s, .string cs] w fun e w' => e = .returned (.string ⟨(trimBy cs.data.toList.contains s.data.toList).toArray⟩) ∧ Below w.heap.size w w' := by
 have hcne : cs.toList.isEmpty = false := by
  rw [ByteArray.toList_eq]
  cases h : cs.data.toList with
  | nil => have := congrArg List.length h; rw [← Lib.size_eq] at this; rw [List.length_nil] at this; omega
  | cons a b => rfl
 rcases Nat.eq_zero_or_pos s.size with h0 | h0
 ·have e : s.data.toList = [] := List.length_eq_zero_iff.1 (by rw [← Lib.size_eq]; exact h0)
  obtain rfl : s = ⟨#[]⟩ := ByteArray.ext (Array.toList_inj.1 e)
  clear e h0 hs
  go_enter Tryz.func79, Tryz.ntmps79
  go_wp2
  go_ret
  exact ⟨rfl, Below.refl _ _⟩
 ·have hne : s.toList.isEmpty = false := by
   rw [ByteArray.toList_eq]
   cases h : s.data.toList with
   | nil => have := congrArg List.length h; rw [← Lib.size_eq] at this; rw [List.length_nil] at this; omega
   | cons a b => rfl
  have hn1 : ((cs.size : Int) == 1) = false := by rw [beq_eq_false_iff_ne]; omega
  have HM := Tryz.strings_makeASCIISet zero256 cs w (by omega) hasc
  have HS1 : Hid ((Lib.setCells cs.data.toList).size = 256) := Lib.setCells_size _
  have HS2 : Hid (∀ c : UInt8, (Lib.setCells cs.data.toList)[c.toNat]? = some (.bool (cs.data.toList.contains c))) := fun c => Lib.setCells_at _ c
  have HS3 : Hid ((Lib.setCells cs.data.toList).all (·.oneCell') = true) := Lib.setCells_one _
  generalize Lib.setCells cs.data.toList = SA at *
  have HMM : Hid (Calls Tryz.prog 93 #[.string cs] w _) := HM
  clear HM hasc
  go_enter Tryz.func79, Tryz.ntmps79
  go_wp2_with fail
  refine HMM.out.mono ?_
  rintro e w1 ⟨rfl, rfl⟩
  clear HMM
  have hA1 := HS1.out
  have hsc : (storeCells ⟨w.heap.size + 1, 0, none⟩ SA.toList 0).run Tryz.prog ((w.alloc (.cells SA 121)).alloc (.cells Tryz.zeroCells121 121)) = .ok () ((w.alloc (.cells SA 121)).alloc (.cells SA 121)) := by
   have := run_storeCells_new (P := Tryz.prog) (w.alloc (.cells SA 121)) 121 Tryz.zeroCells121 SA (by rw [hA1]; kernel_rfl) (by rw [hA1]; kernel_rfl) HS3.out
   simpa using this
  have HC : Hid (∀ c : UInt8, ((w.alloc (.cells SA 121)).alloc (.cells SA 121)).cell? ⟨w.heap.size + 1, c.toNat, none⟩ = some (.bool (cs.data.toList.contains c))) := fun c => by
   rw [World.cell?_alloc_at _ _ _ _ (by simp)]; exact HS2.out c
  have hb2 : Below w.heap.size w ((w.alloc (.cells SA 121)).alloc (.cells SA 121)) := ((Below.refl _ _).alloc (Nat.le_refl _) _).alloc (by simp) _
  go_wp2_with fail
  clear hsc
  generalize ((w.alloc (.cells SA 121)).alloc (.cells SA 121)) = w2 at *
  refine (right_set cs.data.toList.contains (w.heap.size + 1) s w2 hs HC.out).mono ?_
  rintro e w3 ⟨rfl, hw3⟩
  have hw3' := hw3.symm
  subst hw3'
  go_wp2_with fail
  refine (left_set cs.data.toList.contains (w.heap.size + 1) ⟨(dropEnd cs.data.toList.contains s.data.toList).toArray⟩ w2 HC.out).mono ?_
  rintro e w3 ⟨rfl, hw3⟩
  have hw3' := hw3.symm
  subst hw3'
  clear HC
  go_wp2
  go_ret
  exact ⟨rfl, hb2⟩
end Go.Proofs.YtlndhdimamnnlaaGreatDoor



namespace Go.Proofs.YtlndhdimamnnlaaGreatDoor
def specials : List UInt8 := [40, 41, 60, 62, 64, 44, 59, 58, 92, 34, 47, 91, 93, 63, 61]
def inB (lo hi : Nat) (but : List UInt8) (c : UInt8) : Bool := decide (lo ≤ c.toNat) && decide (c.toNat ≤ hi) && !but.contains c
def betw (lo hi : Nat) (but l : List UInt8) : Bool := l.all (inB lo hi but)
theorem betw_cons (lo hi : Nat) (but : List UInt8) (c : UInt8) (l : List UInt8) : betw lo hi but (c :: l) = (inB lo hi but c && betw lo hi but l) := rfl
def tokenS (l : List UInt8) : Bool := decide (1 ≤ l.length) && decide (l.length ≤ 30) && betw 33 126 specials l
def valueS (l : List UInt8) : Bool := decide (l.length ≤ 900) && betw 32 126 [] l && !(l.head? == some 32) && !(l.getLast? == some 32)
abbrev Fld := List UInt8 × List UInt8
def okF (f : Fld) : Bool := tokenS f.1 && valueS f.2
def checkF (fs : List Fld) : Nat := if 20 < fs.length then 2 else if fs.all okF = true then 0 else 1
def lineF (f : Fld) : List UInt8 := f.1 ++ [58, 32] ++ f.2 ++ [13, 10]
def textF (fs : List Fld) : List UInt8 := fs.flatMap lineF ++ [13, 10]
theorem indexByte_mem (l : List UInt8) (c : UInt8) : decide (0 ≤ Lib.indexByte l c) = l.contains c := by
  induction l with
  | nil => rfl
  | cons b l ih =>
    rw [Lib.indexByte]
    by_cases h : b = c
    · subst h; simp
    · have h2 : (c == b) = false := by rw [beq_eq_false_iff_ne]; exact fun e => h e.symm
      rw [if_neg (by simpa using h), List.contains_cons, h2, Bool.false_or, ← ih]
      by_cases h1 : Lib.indexByte l c = -1
      · rw [h1]; rfl
      · rw [if_neg (by simpa using h1)]
        have : -1 ≤ Lib.indexByte l c := by
          clear ih h h2 h1
          induction l with
          | nil => simp [Lib.indexByte]
          | cons b l ih => rw [Lib.indexByte]; split; · omega
                           · split; · omega
                             · omega
        by_cases h0 : 0 ≤ Lib.indexByte l c
        · simp [h0]; omega
        · omega
end Go.Proofs.YtlndhdimamnnlaaGreatDoor



namespace Go.Proofs.YtlndhdimamnnlaaGreatDoor
def cutB (d : UInt8) : List UInt8 → Option (List UInt8 × List UInt8)
 | [] => none
 | c :: r => if c = d then some ([], r) else (cutB d r).map fun x => (c :: x.1, x.2)
theorem cutB_some (d : UInt8) : ∀ (l a b : List UInt8), cutB d l = some (a, b) → l = a ++ d :: b ∧ ∀ c ∈ a, c ≠ d
 | [], _, _, h => by cases h
 | c :: r, a, b, h => by
  rw [cutB] at h
  split at h
  ·rename_i e; subst e; cases h; exact ⟨rfl, by simp⟩
  ·rename_i e
   cases hr : cutB d r with
   | none => rw [hr] at h; cases h
   | some x =>
    obtain ⟨x1, x2⟩ := x
    rw [hr] at h
    cases h
    obtain ⟨h1, h2⟩ := cutB_some d r x1 x2 hr
    refine ⟨by rw [h1]; rfl, ?_⟩
    intro y hy
    rcases List.mem_cons.1 hy with rfl | hy
    ·exact e
    ·exact h2 y hy
theorem cutB_at (d : UInt8) : ∀ (a b : List UInt8), (∀ c ∈ a, c ≠ d) → cutB d (a ++ d :: b) = some (a, b)
 | [], b, _ => by simp [cutB]
 | c :: a, b, h => by
  rw [List.cons_append, cutB, if_neg (h c (by simp)), cutB_at d a b (fun x hx => h x (by simp [hx]))]
  rfl
def noCR (l : List UInt8) : List UInt8 := if l.getLast? = some 13 then l.dropLast else l
def isBT (c : UInt8) : Bool := [32, 9].contains c
def isSp (c : UInt8) : Bool := [32].contains c
def addLine (fs : List Fld) (line : List UInt8) : Except Nat (List Fld) :=
 if (line.head?.map isBT) = some true then
  match fs.getLast? with
  | none => .error 1
  | some f => .ok (fs.dropLast ++ [(f.1, trimBy isSp (f.2 ++ [32] ++ trimBy isBT line))])
 else
  match cutB 58 line with
  | none => .error 1
  | some (n, v) => if 20 < fs.length + 1 then .error 2 else .ok (fs ++ [(n, trimBy isBT v)])
def parseGo : Nat → List UInt8 → Nat → List Fld → List Fld × Nat × Nat
 | 0, _, _, _ => ([], 0, 1)
 | g + 1, r, at_, fs =>
  match cutB 10 r with
  | none => ([], 0, 1)
  | some (a, r') =>
   if noCR a = [] then (if checkF fs = 0 then (fs, at_ + a.length + 1, 0) else ([], 0, checkF fs))
   else match addLine fs (noCR a) with
    | .error e => ([], 0, e)
    | .ok fs' => parseGo g r' (at_ + a.length + 1) fs'
def parseF (b : List UInt8) : List Fld × Nat × Nat := if 40000 < b.length then ([], 0, 2) else parseGo (b.length + 1) b 0 []
theorem addLine_err {fs : List Fld} {line : List UInt8} {e : Nat} (h : addLine fs line = .error e) : e ≠ 0 := by
 unfold addLine at h
 split at h
 ·split at h
  ·cases h; decide
  ·cases h
 ·split at h
  ·cases h; decide
  ·split at h
   ·cases h; decide
   ·cases h
theorem parseGo_fuel : ∀ (g : Nat) (r : List UInt8) (at_ : Nat) (fs : List Fld) (g' : Nat), r.length < g → r.length < g' → parseGo g' r at_ fs = parseGo g r at_ fs
 | 0, r, _, _, _, h, _ => absurd h (Nat.not_lt_zero _)
 | g + 1, r, at_, fs, 0, _, h => absurd h (Nat.not_lt_zero _)
 | g + 1, r, at_, fs, g' + 1, h1, h2 => by
  rw [parseGo, parseGo]
  cases hc : cutB 10 r with
  | none => rfl
  | some x =>
   obtain ⟨a, r'⟩ := x
   have hl : r'.length < r.length := by rw [(cutB_some 10 r a r' hc).1]; simp; omega
   simp only
   split
   ·rfl
   ·split
    ·rfl
    ·exact parseGo_fuel g r' _ _ g' (by omega) (by omega)
theorem parseGo_more : ∀ (g : Nat) (r : List UInt8) (at_ : Nat) (fs l : List Fld) (k : Nat), parseGo g r at_ fs = (l, k, 0) →
  checkF l = 0 ∧ at_ < k ∧ k - at_ ≤ r.length ∧ ∀ (more : List UInt8) (g' : Nat), k - at_ + more.length < g' → parseGo g' (r.take (k - at_) ++ more) at_ fs = (l, k, 0)
 | 0, r, _, _, _, _, h => by rw [parseGo] at h; cases h
 | g + 1, r, at_, fs, l, k, h => by
  rw [parseGo] at h
  cases hc : cutB 10 r with
  | none => rw [hc] at h; cases h
  | some x =>
   obtain ⟨a, r'⟩ := x
   rw [hc] at h
   obtain ⟨hr, ha⟩ := cutB_some 10 r a r' hc
   simp only at h
   by_cases hn : noCR a = []
   ·rw [if_pos hn] at h
    by_cases hk : checkF fs = 0
    ·rw [if_pos hk] at h
     have h2 := (Prod.mk.inj (Prod.mk.inj h).2).1
     have h1 := (Prod.mk.inj h).1
     clear h
     subst h1
     subst h2
     refine ⟨hk, by omega, by rw [hr]; simp; omega, fun more g' hg => ?_⟩
     have e : r.take (at_ + a.length + 1 - at_) ++ more = a ++ 10 :: more := by
      rw [show at_ + a.length + 1 - at_ = a.length + 1 from by omega, hr, List.take_append, List.take_of_length_le (by omega)]
      simp
     obtain ⟨g'', rfl⟩ : ∃ g'', g' = g'' + 1 := ⟨g' - 1, by omega⟩
     rw [e, parseGo, cutB_at 10 a more ha]
     simp only
     rw [if_pos hn, if_pos hk]
    ·rw [if_neg hk] at h
     have := (Prod.mk.inj (Prod.mk.inj h).2).2
     exact absurd this hk
   ·rw [if_neg hn] at h
    cases hl : addLine fs (noCR a) with
    | error e =>
     rw [hl] at h
     have := (Prod.mk.inj (Prod.mk.inj h).2).2
     exact absurd this (addLine_err hl)
    | ok fs' =>
     rw [hl] at h
     obtain ⟨i1, i2, i3, i4⟩ := parseGo_more g r' _ fs' l k h
     have hrl : r.length = a.length + 1 + r'.length := by rw [hr]; simp; omega
     refine ⟨i1, by omega, by omega, fun more g' hg => ?_⟩
     obtain ⟨g'', rfl⟩ : ∃ g'', g' = g'' + 1 := ⟨g' - 1, by omega⟩
     have e : r.take (k - at_) ++ more = a ++ 10 :: (r'.take (k - (at_ + a.length + 1)) ++ more) := by
      rw [hr, show k - at_ = a.length + (1 + (k - (at_ + a.length + 1))) from by omega, List.take_append]
      simp [List.take_of_length_le, show a.length + (1 + (k - (at_ + a.length + 1))) - a.length = (k - (at_ + a.length + 1)) + 1 from by omega]
     rw [e, parseGo, cutB_at 10 a _ ha]
     simp only
     rw [if_neg hn, hl]
     exact i4 more g'' (by omega)
theorem inB_at {lo hi : Nat} {but l : List UInt8} (h : betw lo hi but l = true) {c : UInt8} (hc : c ∈ l) : lo ≤ c.toNat ∧ c.toNat ≤ hi ∧ but.contains c = false := by
 have := List.all_eq_true.1 h c hc
 rw [inB, Bool.and_eq_true, Bool.and_eq_true] at this
 exact ⟨of_decide_eq_true this.1.1, of_decide_eq_true this.1.2, by simpa using this.2⟩
theorem token_facts {l : List UInt8} (h : tokenS l = true) : l ≠ [] ∧ l.length ≤ 30 ∧ ∀ c ∈ l, 33 ≤ c.toNat ∧ c.toNat ≤ 126 ∧ specials.contains c = false := by
 rw [tokenS, Bool.and_eq_true, Bool.and_eq_true] at h
 have h1 := of_decide_eq_true h.1.1
 refine ⟨fun e => by rw [e] at h1; simp at h1, of_decide_eq_true h.1.2, fun c hc => inB_at h.2 hc⟩
theorem value_facts {l : List UInt8} (h : valueS l = true) : l.length ≤ 900 ∧ (∀ c ∈ l, 32 ≤ c.toNat ∧ c.toNat ≤ 126) ∧ l.head? ≠ some 32 ∧ l.getLast? ≠ some 32 := by
 rw [valueS, Bool.and_eq_true, Bool.and_eq_true, Bool.and_eq_true] at h
 refine ⟨of_decide_eq_true h.1.1.1, fun c hc => ⟨(inB_at h.1.1.2 hc).1, (inB_at h.1.1.2 hc).2.1⟩, ?_, ?_⟩
 ·simpa using h.1.2
 ·simpa using h.2
theorem isBT_eq (c : UInt8) : isBT c = true ↔ c = 32 ∨ c = 9 := by simp [isBT]
theorem value_trim {v : List UInt8} (h : valueS v = true) : trimBy isBT (32 :: v) = v := by
 obtain ⟨_, h2, h3, h4⟩ := value_facts h
 have key : ∀ c ∈ v, c ≠ 32 → isBT c = false := by
  intro c hc hne
  rw [← Bool.not_eq_true, isBT_eq]
  rintro (rfl | rfl)
  ·exact hne rfl
  ·exact absurd (h2 9 hc).1 (by decide)
 refine trimBy_cons isBT 32 v (by rw [isBT_eq]; exact .inl rfl) (fun c hc => key c (List.mem_of_mem_head? hc) (fun e => h3 (by rw [hc, e]))) (fun c hc => key c (List.mem_of_getLast? hc) (fun e => h4 (by rw [hc, e])))
theorem noCR_snoc (l : List UInt8) : noCR (l ++ [13]) = l := by rw [noCR, if_pos (by simp)]; simp
theorem addLine_field (fs : List Fld) (f : Fld) (h : okF f = true) (hl : fs.length < 20) : addLine fs (f.1 ++ [58, 32] ++ f.2) = .ok (fs ++ [f]) := by
 rw [okF, Bool.and_eq_true] at h
 obtain ⟨ht, hv⟩ := h
 obtain ⟨hne, _, hc⟩ := token_facts ht
 obtain ⟨n, v⟩ := f
 simp only at *
 have h1 : ¬ ((n ++ [58, 32] ++ v).head?.map isBT = some true) := by
  cases n with
  | nil => exact absurd rfl hne
  | cons a n =>
   simp only [List.cons_append, List.head?_cons, Option.map_some, Option.some.injEq]
   rw [isBT_eq]
   rintro (rfl | rfl)
   ·exact absurd (hc 32 (by simp)).1 (by decide)
   ·exact absurd (hc 9 (by simp)).1 (by decide)
 have h2 : cutB 58 (n ++ [58, 32] ++ v) = some (n, 32 :: v) := by
  rw [show n ++ [58, 32] ++ v = n ++ 58 :: (32 :: v) from by simp]
  exact cutB_at 58 n _ (fun c hcn e => by subst e; exact absurd (hc 58 hcn).2.2 (by decide))
 rw [addLine, if_neg h1, h2]
 simp only
 rw [if_neg (by omega), value_trim hv]
theorem lineF_cut (f : Fld) (h : okF f = true) (rest : List UInt8) : cutB 10 (lineF f ++ rest) = some (f.1 ++ [58, 32] ++ f.2 ++ [13], rest) := by
 rw [okF, Bool.and_eq_true] at h
 have ht := token_facts h.1
 have hv := value_facts h.2
 rw [show lineF f ++ rest = (f.1 ++ [58, 32] ++ f.2 ++ [13]) ++ 10 :: rest from by simp [lineF]]
 refine cutB_at 10 _ _ (fun c hc e => ?_)
 subst e
 simp only [List.mem_append, List.mem_cons, List.not_mem_nil, or_false] at hc
 rcases hc with ((hc | hc) | hc) | hc
 ·exact absurd (ht.2.2 10 hc).1 (by decide)
 ·exact absurd hc (by decide)
 ·exact absurd (hv.2.1 10 hc).1 (by decide)
 ·exact absurd hc (by decide)
theorem parseGo_text : ∀ (fs : List Fld) (gs : List Fld) (at_ g : Nat) (more : List UInt8), gs.length + fs.length ≤ 20 → gs.all okF = true → fs.all okF = true → (textF fs ++ more).length < g →
  parseGo g (textF fs ++ more) at_ gs = (gs ++ fs, at_ + (textF fs).length, 0)
 | [], gs, at_, g, more, hl, hg, _, hf => by
  obtain ⟨g', rfl⟩ : ∃ g', g = g' + 1 := ⟨g - 1, by omega⟩
  rw [show textF [] ++ more = [13] ++ 10 :: more from rfl, parseGo, cutB_at 10 [13] more (by simp)]
  simp only
  rw [if_pos (by rfl), if_pos (by rw [checkF, if_neg (by simpa using hl), if_pos hg])]
  simp [textF]
 | f :: fs, gs, at_, g, more, hl, hg, hf, hlt => by
  obtain ⟨g', rfl⟩ : ∃ g', g = g' + 1 := ⟨g - 1, by omega⟩
  rw [List.all_cons, Bool.and_eq_true] at hf
  have e : textF (f :: fs) ++ more = lineF f ++ (textF fs ++ more) := by simp [textF]
  have hlen : (textF (f :: fs)).length = (lineF f).length + (textF fs).length := by simp [textF]
  rw [e] at hlt ⊢
  rw [parseGo, lineF_cut f hf.1]
  simp only
  have hne : ¬ f.1 ++ [58, 32] ++ f.2 = [] := by simp
  rw [noCR_snoc, if_neg hne, addLine_field gs f hf.1 (by simp at hl; omega)]
  simp only
  have hll : (f.1 ++ [58, 32] ++ f.2 ++ [13]).length + 1 = (lineF f).length := by simp [lineF]; omega
  have hl1 : 1 ≤ (lineF f).length := by omega
  rw [parseGo_text fs (gs ++ [f]) _ g' more (by simp at hl ⊢; omega) (by rw [List.all_append, hg]; simp [hf.1]) hf.2 (by rw [List.length_append] at hlt; omega)]
  rw [hlen]
  simp only [List.append_assoc, List.singleton_append, Prod.mk.injEq, true_and, and_true]
  simp only [List.append_assoc] at hll
  omega
theorem checkF_facts {fs : List Fld} (h : checkF fs = 0) : fs.length ≤ 20 ∧ fs.all okF = true := by
 unfold checkF at h
 split at h
 ·cases h
 ·split at h
  ·rename_i h1 h2; exact ⟨by omega, h2⟩
  ·cases h
theorem lineF_le (f : Fld) (h : okF f = true) : (lineF f).length ≤ 934 := by
 rw [okF, Bool.and_eq_true] at h
 have h1 := (token_facts h.1).2.1
 have h2 := (value_facts h.2).1
 simp [lineF]
 omega
theorem textF_le : ∀ (fs : List Fld), fs.all okF = true → (textF fs).length ≤ 934 * fs.length + 2
 | [], _ => by simp [textF]
 | f :: fs, h => by
  rw [List.all_cons, Bool.and_eq_true] at h
  have h1 := lineF_le f h.1
  have h2 := textF_le fs h.2
  have hlen : (textF (f :: fs)).length = (lineF f).length + (textF fs).length := by simp [textF]
  rw [hlen, List.length_cons]
  omega
theorem parseF_more (b : List UInt8) (l : List Fld) (k : Nat) (h : parseF b = (l, k, 0)) : checkF l = 0 ∧ k ≤ b.length ∧ ∀ more : List UInt8, k + more.length ≤ 40000 → parseF (b.take k ++ more) = (l, k, 0) := by
 unfold parseF at h
 split at h
 ·cases h
 ·obtain ⟨h1, h2, h3, h4⟩ := parseGo_more _ _ _ _ _ _ h
  rw [Nat.sub_zero] at h3 h4
  refine ⟨h1, h3, fun more hm => ?_⟩
  have hl : (b.take k ++ more).length = k + more.length := by rw [List.length_append, List.length_take]; omega
  rw [parseF, if_neg (by omega)]
  exact h4 more _ (by omega)
end Go.Proofs.YtlndhdimamnnlaaGreatDoor



namespace Go.Proofs.YtlndhdimamnnlaaGreatDoor
structure PT where
 ty : ByteArray
 cs : ByteArray
 id : ByteArray
 loc : ByteArray
 how : Int
 body : List UInt8
 kids : List PT
def pt0 : PT := ⟨⟨#[]⟩, ⟨#[]⟩, ⟨#[]⟩, ⟨#[]⟩, 0, [], []⟩
def PT.alone (p : PT) : PT := { p with kids := [] }
def multi : List UInt8 := [109, 117, 108, 116, 105, 112, 97, 114, 116, 47]
def typeS (s : List UInt8) : Bool := match cutB 47 s with
 | none => false
 | some x => tokenS x.1 && tokenS x.2 && !s.any (fun c => decide (65 ≤ c.toNat) && decide (c.toNat ≤ 90))
def manyS (s : List UInt8) : Bool := Lib.hasPrefix s multi
def wordC : UInt8 → Bool := inB 33 126 [34, 60, 62]
def wordS (s : List UInt8) : Bool := decide (s.length ≤ 120) && s.all wordC
def textsOk (p : PT) : Bool := typeS p.ty.data.toList && (p.cs.data.toList.isEmpty || tokenS p.cs.data.toList) && wordS p.id.data.toList && wordS p.loc.data.toList
def formedP (p : PT) : Bool :=
 if manyS p.ty.data.toList then !p.kids.isEmpty && p.body.isEmpty && decide (p.how = 0) && p.cs.data.toList.isEmpty
 else p.kids.isEmpty
def chkA (p : PT) : Nat :=
 if textsOk p = false then 1 else if p.how < 0 ∨ 2 < p.how then 3 else if 4000 < p.body.length then 2 else if formedP p = false then 4 else 0
def put : Nat → List (PT × Int) → PT → Nat → Int → Option (List (PT × Int))
 | 0, _, _, _, _ => none
 | f + 1, l, p, depth, inn =>
  if l.length = 12 ∨ 3 < depth then none
  else p.kids.foldl (fun acc k => acc.bind fun m => put f m k (depth + 1) l.length) (some (l ++ [(p, inn)]))
def putAll (f : Nat) (depth : Nat) (inn : Int) (l : List (PT × Int)) (ks : List PT) : Option (List (PT × Int)) :=
 ks.foldl (fun acc k => acc.bind fun m => put f m k depth inn) (some l)
theorem foldl_none (f : Nat) (depth : Nat) (inn : Int) : ∀ ks : List PT, ks.foldl (fun acc k => acc.bind fun m => put f m k depth inn) none = none
 | [] => rfl
 | _ :: ks => by rw [List.foldl_cons]; exact foldl_none f depth inn ks
theorem putAll_nil (f depth : Nat) (inn : Int) (l : List (PT × Int)) : putAll f depth inn l [] = some l := rfl
theorem putAll_some (f depth : Nat) (inn : Int) (l m : List (PT × Int)) (k : PT) (ks : List PT) (h : put f l k depth inn = some m) : putAll f depth inn l (k :: ks) = putAll f depth inn m ks := by
 unfold putAll; rw [List.foldl_cons, Option.bind_some, h]
theorem putAll_none (f depth : Nat) (inn : Int) (l : List (PT × Int)) (k : PT) (ks : List PT) (h : put f l k depth inn = none) : putAll f depth inn l (k :: ks) = none := by
 unfold putAll; rw [List.foldl_cons, Option.bind_some, h, foldl_none]
theorem put_stop (f : Nat) (l : List (PT × Int)) (p : PT) (depth : Nat) (inn : Int) (h : l.length = 12 ∨ 3 < depth) : put (f + 1) l p depth inn = none := by rw [put, if_pos h]
theorem put_go (f : Nat) (l : List (PT × Int)) (p : PT) (depth : Nat) (inn : Int) (h : ¬ (l.length = 12 ∨ 3 < depth)) : put (f + 1) l p depth inn = putAll f (depth + 1) l.length (l ++ [(p, inn)]) p.kids := by rw [put, if_neg h]; rfl
theorem putAll_length (f : Nat) (ih : ∀ l m p depth inn, l.length ≤ 12 → put f l p depth inn = some m → l.length ≤ m.length ∧ m.length ≤ 12) (depth : Nat) (inn : Int) : ∀ (ks : List PT) (l m : List (PT × Int)), l.length ≤ 12 → putAll f depth inn l ks = some m → l.length ≤ m.length ∧ m.length ≤ 12
 | [], l, m, hl, h => by rw [putAll_nil] at h; cases h; exact ⟨Nat.le_refl _, hl⟩
 | k :: ks, l, m, hl, h => by
  cases hk : put f l k depth inn with
  | none => rw [putAll_none f depth inn l k ks hk] at h; cases h
  | some n =>
   rw [putAll_some f depth inn l n k ks hk] at h
   have h1 := ih l n k depth inn hl hk
   have h2 := putAll_length f ih depth inn ks n m h1.2 h
   omega
theorem put_length : ∀ (f : Nat) (l m : List (PT × Int)) (p : PT) (depth : Nat) (inn : Int), l.length ≤ 12 → put f l p depth inn = some m → l.length ≤ m.length ∧ m.length ≤ 12
 | 0, _, _, _, _, _, _, h => by rw [put] at h; cases h
 | f + 1, l, m, p, depth, inn, hl, h => by
  by_cases hs : l.length = 12 ∨ 3 < depth
  ·rw [put_stop f l p depth inn hs] at h; cases h
  ·rw [put_go f l p depth inn hs] at h
   have := putAll_length f (put_length f) (depth + 1) l.length p.kids (l ++ [(p, inn)]) m (by rw [List.length_append]; simp; omega) h
   rw [List.length_append] at this
   omega
def firstBad : List (PT × Int) → Nat
 | [] => 0
 | x :: l => if chkA x.1 = 0 then firstBad l else chkA x.1
def placesP (p : PT) : Nat × List (PT × Int) := match put 4 [] p 1 (-1) with
 | none => (2, [])
 | some l => if firstBad l = 0 then (0, l) else (firstBad l, [])
end Go.Proofs.YtlndhdimamnnlaaGreatDoor

