
import Derived.Test.YtlndhdimamnnlaaGreatDoorXmimesays29
namespace Go.Proofs.YtlndhdimamnnlaaGreatDoor
theorem fold_has : ∀ (zs : List Int) (a n : Int), a ≤ n → n < zs.foldl stepL a → n ∈ zs
 | [], a, n, h1, h2 => by simp at h2; omega
 | z :: zs, a, n, h1, h2 => by
  rw [List.foldl_cons] at h2
  by_cases h : z = a
  ·have e : stepL a z = a + 1 := by unfold stepL; rw [if_pos h]
   rw [e] at h2
   by_cases hn : n = a
   ·rw [hn, ← h]; simp
   ·have := fold_has zs (a + 1) n (by omega) h2
    simp [this]
  ·have e : stepL a z = a := by unfold stepL; rw [if_neg h]
   rw [e] at h2
   have := fold_has zs a n h1 h2
   simp [this]
theorem dec_next (m d : Nat) (hd : d < 10) (hm : m ≠ 0) : Lib.decDigits (10 * m + d) = Lib.decDigits m ++ [UInt8.ofNat (48 + d)] := by
 rw [Lib.decDigits, dif_neg (by omega), show (10 * m + d) / 10 = m by omega, show (10 * m + d) % 10 = d by omega]
theorem digC_char {c : UInt8} (h : digC c = true) : c.toNat - 48 < 10 ∧ UInt8.ofNat (48 + (c.toNat - 48)) = c := by
 unfold digC at h
 rw [Bool.and_eq_true, decide_eq_true_iff, decide_eq_true_iff] at h
 refine ⟨by omega, ?_⟩
 rw [show 48 + (c.toNat - 48) = c.toNat by omega]
 exact UInt8.ofNat_toNat
theorem digs_conv : ∀ (l : List UInt8) (m n : Nat), n ∈ digsFrom m l → n ≠ 0 ∧ ∃ ds post, l = ds ++ post ∧ Lib.decDigits n = (if m = 0 then [] else Lib.decDigits m) ++ ds
 | [], m, n, h => by rw [digsFrom] at h; cases h
 | c :: r, m, n, h => by
  rw [digsFrom] at h
  split at h
  ·rename_i hc
   obtain ⟨c1, c2⟩ := digC_char hc
   split at h
   ·cases h
   ·rename_i hv
    have hv0 : 10 * m + (c.toNat - 48) ≠ 0 := fun e => hv (.inl e)
    have hd : Lib.decDigits (10 * m + (c.toNat - 48)) = (if m = 0 then [] else Lib.decDigits m) ++ [c] := by
     by_cases hm : m = 0
     ·subst hm
      rw [if_pos rfl, Lib.decDigits, dif_pos (by omega), Nat.mul_zero, Nat.zero_add, c2]
      rfl
     ·rw [if_neg hm, dec_next m _ c1 hm, c2]
    rcases List.mem_cons.1 h with rfl | h
    ·exact ⟨hv0, [c], r, rfl, hd⟩
    ·obtain ⟨h0, ds, post, e1, e2⟩ := digs_conv r _ n h
     refine ⟨h0, c :: ds, post, by rw [e1]; rfl, ?_⟩
     rw [e2, if_neg hv0, hd]
     simp
  ·cases h
theorem taken_conv : ∀ (f : Nat) (s : List UInt8) (n : Nat), n ∈ takenGo f s → n ≠ 0 ∧ ∃ pre post, s = pre ++ (mark4 ++ (Lib.decDigits n ++ post))
 | 0, s, n, h => by rw [takenGo] at h; cases h
 | f + 1, s, n, h => by
  rw [takenGo] at h
  rcases Lib.index_spec s mark4 with ⟨hi, _⟩ | ⟨i, hi, hile, hocc, _⟩
  ·have : (Lib.cut s mark4).2.2 = false := by unfold Lib.cut; rw [hi]; rfl
   rw [this] at h
   cases h
  ·rw [cut_at hi, if_pos rfl] at h
   obtain ⟨a, ha⟩ := (occ_iff _ _ _).1 hocc
   have hs : s = s.take i ++ (mark4 ++ a) := by rw [← ha, List.take_append_drop]
   have hd : s.drop (i + 4) = a := by rw [← List.drop_drop, ha]; rfl
   simp only at h
   rw [hd] at h
   rcases List.mem_append.1 h with h | h
   ·obtain ⟨h0, ds, post, e1, e2⟩ := digs_conv a 0 n h
    rw [if_pos rfl, List.nil_append] at e2
    exact ⟨h0, s.take i, post, by rw [e2, ← e1]; exact hs⟩
   ·obtain ⟨h0, pre, post, e⟩ := taken_conv f a n h
    exact ⟨h0, s.take i ++ mark4 ++ pre, post, by rw [List.append_assoc, List.append_assoc, ← e]; exact hs⟩
theorem least_below (ts : List (List UInt8)) (n : Int) (h1 : 1 ≤ n) (h2 : n < leastP ts) : ∃ t ∈ ts, (dd ++ brd n) <:+: t := by
 have hm := fold_has _ 1 n h1 h2
 unfold sortZ at hm
 rw [List.mem_mergeSort, List.mem_map] at hm
 obtain ⟨k, hk, rfl⟩ := hm
 obtain ⟨t, ht, hkt⟩ := List.mem_flatMap.1 hk
 obtain ⟨_, pre, post, e⟩ := taken_conv _ _ _ hkt
 refine ⟨t, ht, pre, post, ?_⟩
 rw [brd_nat _ h1, e, Int.toNat_natCast]
 simp [dd, mark4]
theorem contains_of {s sub : List UInt8} (h : sub <:+: s) : Lib.contains s sub = true := by
 obtain ⟨a, b, e⟩ := h
 unfold Lib.contains
 rcases Lib.index_spec s sub with ⟨_, h2⟩ | ⟨i, h1, _⟩
 ·have h3 := h2 a.length (by rw [← e]; simp)
  unfold Lib.occAt at h3
  rw [← e, List.append_assoc, List.drop_left] at h3
  rw [List.isPrefixOf_iff_prefix.2 (List.prefix_append _ _)] at h3
  cases h3
 ·rw [h1]
  simp
theorem infix_of {s sub : List UInt8} (h : Lib.contains s sub = true) : sub <:+: s := by
 unfold Lib.contains at h
 rcases Lib.index_spec s sub with ⟨h1, _⟩ | ⟨i, h1, h2, h3, _⟩
 ·rw [h1] at h; simp at h
 ·obtain ⟨post, hp⟩ := (occ_iff _ _ _).1 h3
  exact ⟨s.take i, post, by rw [List.append_assoc, ← hp, List.take_append_drop]⟩
def inSome (ts : List (List UInt8)) (n : Int) : Bool := ts.any fun t => Lib.contains t (dd ++ brd n)
theorem inSome_below (ts : List (List UInt8)) (n : Int) (h1 : 1 ≤ n) (h2 : n < leastP ts) : inSome ts n = true := by
 obtain ⟨t, ht, hi⟩ := least_below ts n h1 h2
 unfold inSome
 rw [List.any_eq_true]
 exact ⟨t, ht, contains_of hi⟩
theorem inSome_least (ts : List (List UInt8)) (h : (ts.map List.length).sum ≤ 400000) : inSome ts (leastP ts) = false := by
 unfold inSome
 rw [List.any_eq_false]
 intro t ht hc
 exact least_border ts h t ht (infix_of hc)
end Go.Proofs.YtlndhdimamnnlaaGreatDoor



namespace Go.Proofs.YtlndhdimamnnlaaGreatDoor
open Go.RowKit
theorem tclos_any (T TR DB : ByteArray) (g : Nat) (m : Int) (w : World) (hT : T.size ≤ 1000000) (hR : TR.size ≤ 1000) (hD : ⟨#[45, 45]⟩ ++ TR = DB) (hc : w.cell? ⟨g, 0, none⟩ = some (.string TR)) (hm : w.cell? ⟨1, 0, none⟩ = some (.int .i64 m)) :
  Calls Tryz.prog 38 #[.string T, .pointer (some ⟨g, 0, none⟩)] w fun e w' => e = .returned (.bool (Lib.contains T.data.toList DB.data.toList)) ∧ w' = w := by
 have CC : Hid (Calls Tryz.prog 18 #[.string T, .string DB] w fun e w' => e = .returned (.bool (Lib.contains T.data.toList DB.data.toList)) ∧ w' = w) := Tryz.strings_Contains T DB m w (by omega) hm
 generalize Lib.contains T.data.toList DB.data.toList = bb at *
 clear hm
 go_enter Tryz.func38, Tryz.ntmps38
 go_wp2_with fail
 refine CC.out.mono ?_
 rintro e w1 ⟨rfl, hw1⟩
 have hw2 := hw1.symm
 subst hw2
 clear CC
 go_wp2
 go_ret
 exact ⟨rfl, rfl⟩
theorem any_take (ts : List ByteArray) (f : ByteArray → Bool) (k : Nat) (hk : k < ts.length) (h : (ts.take k).any f = false) (h2 : f (ts.getD k ⟨#[]⟩) = false) : (ts.take (k + 1)).any f = false := by
 rw [List.take_add_one, List.getElem?_eq_getElem hk, List.any_append, h]
 rw [List.getD_eq_getElem?_getD, List.getElem?_eq_getElem hk] at h2
 simpa using h2
theorem any_at (ts : List ByteArray) (f : ByteArray → Bool) (k : Nat) (hk : k < ts.length) (h2 : f (ts.getD k ⟨#[]⟩) = true) : ts.any f = true := by
 rw [List.any_eq_true]
 rw [List.getD_eq_getElem?_getD, List.getElem?_eq_getElem hk] at h2
 exact ⟨_, List.getElem_mem hk, h2⟩
set_option maxHeartbeats 1000000 in
theorem tindex_any (b o n c : Nat) (ts : List ByteArray) (en : n = ts.length) (g : Nat) (bb : ByteArray → Bool) (w : World) (hn : n ≤ 1000)
  (hc : ∀ i, i < n → w.cell? ⟨b, o + i, none⟩ = some (.string (ts.getD i ⟨#[]⟩)))
  (hF : ∀ i, i < n → Calls Tryz.prog 38 #[.string (ts.getD i ⟨#[]⟩), .pointer (some ⟨g, 0, none⟩)] w fun e w' => e = .returned (.bool (bb (ts.getD i ⟨#[]⟩))) ∧ w' = w) :
  Calls Tryz.prog 74 #[.slice (some ⟨b, o, none⟩) n c, .func (Fn.func 38) #[] #[.pointer (some ⟨g, 0, none⟩)]] w fun e w' => ∃ i : Int, e = .returned (.int .i64 i) ∧ decide (0 ≤ i) = ts.any bb ∧ w' = w := by
 have HL : Hid (n = ts.length) := en
 have HC : Hid (∀ i, i < n → w.cell? ⟨b, o + i, none⟩ = some (.string (ts.getD i ⟨#[]⟩))) := hc
 have HF : Hid (∀ i, i < n → Calls Tryz.prog 38 #[.string (ts.getD i ⟨#[]⟩), .pointer (some ⟨g, 0, none⟩)] w fun e w' => e = .returned (.bool (bb (ts.getD i ⟨#[]⟩))) ∧ w' = w) := hF
 clear en hc hF
 go_enter Tryz.func74, Tryz.ntmps74
 go_wp2_with fail
 go_loop [8] (fun iv => ∃ k : Nat, k ≤ n ∧ iv = .int .i64 k ∧ Hid ((ts.take k).any bb = false)) (fun iv => n - (intOf iv).toNat)
 case atStart => exact ⟨0, Nat.zero_le _, rfl, rfl⟩
 case round =>
  obtain ⟨k, hk, rfl, HK⟩ := hrel
  by_cases hlt : k < n
  ·have hlz : (k : Int) < (n : Int) := by omega
   have hkl : k < ts.length := by rw [← HL.out]; exact hlt
   have h1 := HC.out k hlt
   have CF : Hid (Calls Tryz.prog 38 #[.string (ts.getD k ⟨#[]⟩), .pointer (some ⟨g, 0, none⟩)] w fun e w' => e = .returned (.bool (bb (ts.getD k ⟨#[]⟩))) ∧ w' = w) := HF.out k hlt
   cases hb : bb (ts.getD k ⟨#[]⟩)
   ·have HN : Hid ((ts.take (k + 1)).any bb = false) := any_take ts bb k hkl HK.out hb
    rw [hb] at CF
    clear hb
    generalize ts.getD k ⟨#[]⟩ = tx at *
    go_wp2_with fail
    refine CF.out.mono ?_
    rintro e w2 ⟨rfl, hw2⟩
    have hw3 := hw2.symm
    subst hw3
    clear CF
    go_wp2_with fail
    go_round
    case rel => exact ⟨k + 1, by omega, by go_num, HN⟩
    case measure => simp [intOf]; omega
   ·have HN : Hid (ts.any bb = true) := any_at ts bb k hkl hb
    rw [hb] at CF
    clear hb
    generalize ts.getD k ⟨#[]⟩ = tx at *
    go_wp2_with fail
    refine CF.out.mono ?_
    rintro e w2 ⟨rfl, hw2⟩
    have hw3 := hw2.symm
    subst hw3
    clear CF
    go_wp2_with fail
    go_ret
    exact ⟨(k : Int), rfl, by rw [HN.out]; simp, rfl⟩
  ·obtain rfl : k = n := by omega
   have HN : Hid (ts.any bb = false) := by have := HK.out; unfold Hid; rw [HL.out, List.take_length] at this; exact this
   go_wp2_with fail
   go_ret
   exact ⟨-1, rfl, by rw [HN.out]; decide, rfl⟩
theorem tcont_any (q : Option Addr) (m c : Nat) (ts : List ByteArray) (em : m = ts.length) (g : Nat) (TR : ByteArray) (n M : Int) (w : World) (hm1 : 1 ≤ m) (hm : m ≤ 1000) (hts : ∀ t ∈ ts, t.size ≤ 1000000) (hR : TR.size ≤ 1000) (hRd : TR.data.toList = brd n)
  (hr : TRow w q ts) (hg : w.cell? ⟨g, 0, none⟩ = some (.string TR)) (hM : w.cell? ⟨1, 0, none⟩ = some (.int .i64 M)) :
  Calls Tryz.prog 37 #[.slice q m c, .func (Fn.func 38) #[] #[.pointer (some ⟨g, 0, none⟩)]] w fun e w' => e = .returned (.bool (inSome (ts.map (·.data.toList)) n)) ∧ w' = w := by
 obtain ⟨b, o, rfl, hc⟩ := hr (fun e => by rw [e] at em; simp at em; omega)
 have hs : inSome (ts.map (·.data.toList)) n = ts.any fun t => Lib.contains t.data.toList (⟨#[45, 45]⟩ ++ TR : ByteArray).data.toList := by
  unfold inSome
  rw [List.any_map]
  have e : (⟨#[45, 45]⟩ ++ TR : ByteArray).data.toList = dd ++ brd n := by simp [hRd, dd]
  rw [e]
  rfl
 have CI : Hid (Calls Tryz.prog 74 #[.slice (some ⟨b, o, none⟩) m c, .func (Fn.func 38) #[] #[.pointer (some ⟨g, 0, none⟩)]] w fun e w' => ∃ i : Int, e = .returned (.int .i64 i) ∧ decide (0 ≤ i) = inSome (ts.map (·.data.toList)) n ∧ w' = w) := by
  unfold Hid
  rw [hs]
  exact tindex_any b o m c ts em g _ w hm (fun i hi => hc i (by omega)) (fun i hi => tclos_any _ TR _ g M w (hts _ (by rw [List.getD_eq_getElem?_getD, List.getElem?_eq_getElem (by omega)]; exact List.getElem_mem _)) hR rfl hg hM)
 generalize inSome (ts.map (·.data.toList)) n = bb at *
 clear hs hc hr em hts hM hg
 go_enter Tryz.func37, Tryz.ntmps37
 go_wp2_with fail
 refine CI.out.mono ?_
 rintro e w2 ⟨i, rfl, hi, hw2⟩
 have hw3 := hw2.symm
 subst hw3
 clear CI
 have HB : Hid (decide (0 ≤ i) = bb) := hi
 clear hi
 go_wp2_with fail
 go_ret
 exact ⟨by rw [HB.out]; rfl, rfl⟩
end Go.Proofs.YtlndhdimamnnlaaGreatDoor



namespace Go.Proofs.YtlndhdimamnnlaaGreatDoor
def bitAt (T : List UInt8) (p : Nat) : Nat := (T.getD (p / 8) 0).toNat / 2 ^ (7 - p % 8) % 2
def bitsV (T : List UInt8) (k : Nat) : Nat → Nat
 | 0 => 0
 | m + 1 => bitsV T k m * 2 + bitAt T (6 * k + m)
theorem bitsV_lt (T : List UInt8) (k m : Nat) : bitsV T k m < 2 ^ m := by
 induction m with
 | zero => simp [bitsV]
 | succ m ih =>
  have : bitAt T (6 * k + m) < 2 := Nat.mod_lt _ (by decide)
  rw [bitsV, Nat.pow_succ]
  omega
theorem bitsV_six (T : List UInt8) (k : Nat) (hk : k < 4) : bitsV T k 6 = val3 T / 2 ^ (18 - 6 * k) % 64 := by
 have h0 := (T.getD 0 0).toNat_lt
 have h1 := (T.getD 1 0).toNat_lt
 have h2 := (T.getD 2 0).toNat_lt
 unfold val3
 rcases (by omega : k = 0 ∨ k = 1 ∨ k = 2 ∨ k = 3) with rfl | rfl | rfl | rfl
 all_goals
  simp only [bitsV, bitAt, Nat.reduceMul, Nat.reduceAdd, Nat.reduceDiv, Nat.reduceMod, Nat.reduceSub, Nat.reducePow, Nat.zero_mul, Nat.zero_add, Nat.zero_div, Nat.zero_mod, Nat.sub_zero, Nat.sub_self, Nat.pow_zero, Nat.div_one, Nat.add_zero, Nat.mul_zero]
  generalize (T.getD 0 0).toNat = a at *
  generalize (T.getD 1 0).toNat = b at *
  generalize (T.getD 2 0).toNat = c at *
  omega
def thereB (T : List UInt8) (k m : Nat) : Bool := decide (0 < m ∧ 6 * k / 8 < T.length)
theorem there_yes (T : List UInt8) (k m : Nat) (h : (6 * k + m) / 8 < T.length) : thereB T k (m + 1) = true := by
 unfold thereB; rw [decide_eq_true_eq]; omega
theorem there_no (T : List UInt8) (k m : Nat) (h : ¬ (6 * k + m) / 8 < T.length) (hm : m < 6) : thereB T k m = thereB T k (m + 1) := by
 unfold thereB; rw [decide_eq_decide]; omega
theorem bitAt_none (T : List UInt8) (p : Nat) (h : ¬ p / 8 < T.length) : bitAt T p = 0 := by
 unfold bitAt
 rw [List.getD_eq_getElem?_getD, List.getElem?_eq_none (by omega)]
 simp
theorem letT_there (T : List UInt8) (k : Nat) (h : thereB T k 6 = true) (hk : k < 4) : letT T k = abc.getD (bitsV T k 6) 0 := by
 unfold thereB at h
 rw [decide_eq_true_eq] at h
 unfold letT
 rw [if_neg (by omega), bitsV_six T k hk]
theorem letT_none (T : List UInt8) (k : Nat) (h : thereB T k 6 = false) : letT T k = 61 := by
 unfold thereB at h
 rw [decide_eq_false_iff_not] at h
 unfold letT
 rw [if_pos (by omega)]
def tx3 (L : List UInt8) (j : Nat) : Nat → List UInt8
 | 0 => text L (4 * j) ++ sepAt (4 * j)
 | k + 1 => tx3 L j k ++ [encAt L (4 * j + k)]
theorem encAt_four (L : List UInt8) (j k : Nat) (hk : k < 4) : encAt L (4 * j + k) = letT (trio L (4 * j)) k := by
 unfold encAt trio
 rw [show (4 * j + k) / 4 = 4 * j / 4 from by omega, show (4 * j + k) % 4 = k from by omega]
theorem tx_zero_none (L : List UInt8) (j : Nat) (h : ¬ (0 < j ∧ j % 19 = 0)) : tx3 L j 0 = text L (4 * j) := by
 rw [tx3, sepAt, if_neg (by omega)]; simp
theorem tx_zero_sep (L : List UInt8) (j : Nat) (h : 0 < j ∧ j % 19 = 0) : tx3 L j 0 = text L (4 * j) ++ [13, 10] := by
 rw [tx3, sepAt, if_pos (by omega)]
theorem tx_four (L : List UInt8) (j : Nat) : tx3 L j 4 = text L (4 * (j + 1)) := by
 have s : ∀ k, k < 4 → k ≠ 0 → sepAt (4 * j + k) = [] := by
  intro k hk h0
  unfold sepAt
  rw [if_neg (by omega)]
 rw [show 4 * (j + 1) = 4 * j + 3 + 1 from by omega, text, s 3 (by decide) (by decide), text, s 2 (by decide) (by decide), text, s 1 (by decide) (by decide), text]
 simp [tx3]
theorem tx_length (L : List UInt8) (j k : Nat) : (tx3 L j k).length ≤ 12 * j + 2 + k := by
 induction k with
 | zero =>
  have h1 := text_length L (4 * j)
  have : (sepAt (4 * j)).length ≤ 2 := by unfold sepAt; split <;> simp
  simp [tx3]; omega
 | succ k ih => simp [tx3]; omega
end Go.Proofs.YtlndhdimamnnlaaGreatDoor



namespace Go.Proofs.YtlndhdimamnnlaaGreatDoor
open Go.RowKit
set_option maxRecDepth 100000
theorem abcB_cut : ∀ S : Fin 64, abcB.extract S.val (S.val + 1) = ⟨#[abc.getD S.val 0]⟩ := by decide +kernel
theorem str_slice (X : List UInt8) (S : Nat) (h : S < 64) : Value.string ((⟨X.toArray⟩ : ByteArray) ++ abcB.extract S (S + 1)) = Value.string ⟨(X ++ [abc.getD S 0]).toArray⟩ := by
 rw [abcB_cut ⟨S, h⟩]
 exact str_push X _
theorem btext_nil (p : Option Addr) (c : Nat) (w : World) :
  Calls Tryz.prog 39 #[.slice p 0 c] w fun e w' => e = .returned (.string ⟨#[]⟩) ∧ w' = w := by
 go_enter Tryz.func39, Tryz.ntmps39
 go_wp2
 refine wp_loop_rounds 1 ?_
 rw [rounds_succ]
 go_wp2
 go_ret
 exact ⟨rfl, rfl⟩
set_option maxHeartbeats 4000000 in
theorem btext_some (b o c : Nat) (L : List UInt8) (w : World) (h0 : L ≠ []) (hn : L.length ≤ 4000)
  (hc : ∀ i, i < L.length → w.cell? ⟨b, o + i, none⟩ = some (.int .u8 ((L.getD i 0).toNat : Int))) :
  Calls Tryz.prog 39 #[.slice (some ⟨b, o, none⟩) L.length c] w fun e w' => e = .returned (.string ⟨(encode L).toArray⟩) ∧ w' = w := by
 have hand := i64_and_1
 obtain ⟨n, hL⟩ : ∃ n, n = L.length := ⟨_, rfl⟩
 rw [← hL] at hn hc ⊢
 have h1 : 1 ≤ n := by rw [hL]; exact List.length_pos_iff.2 h0
 have HL : Hid (n = L.length) := hL
 clear hL
 go_enter Tryz.func39, Tryz.ntmps39
 go_wp2
 go_loop [3, 4] (fun ov av => ∃ j : Nat, j ≤ (n + 2) / 3 ∧ av = .int .i64 ((3 * j : Nat) : Int) ∧ ov = .string ⟨(text L (4 * j)).toArray⟩) (fun _ av => n + 3 - (intOf av).toNat)
 case atStart => exact ⟨0, Nat.zero_le _, rfl, rfl⟩
 case round =>
  obtain ⟨j, hj, rfl, rfl⟩ := hrel
  have hlen := text_length L (4 * j)
  by_cases hlt : 3 * j < n
  ·have hT : (trio L (4 * j)).length = min 3 (n - 3 * j) := by
    unfold trio; rw [List.length_take, List.length_drop, ← HL.out, show 4 * j / 4 * 3 = 3 * j from by omega]
   have hcT : ∀ q, q < (trio L (4 * j)).length → w.cell? ⟨b, o + (3 * j + q), none⟩ = some (.int .u8 (((trio L (4 * j)).getD q 0).toNat : Int)) := by
    intro q hq
    rw [hT] at hq
    rw [hc (3 * j + q) (by omega), trio_getD L (4 * j) q (by omega), show 4 * j / 4 * 3 = 3 * j from by omega]
   clear hc
   have HE : Hid (∀ k, k < 4 → encAt L (4 * j + k) = letT (trio L (4 * j)) k) := fun k hk => encAt_four L j k hk
   have hT3 : (trio L (4 * j)).length ≤ 3 := by omega
   have hT4 : (trio L (4 * j)).length ≤ n - 3 * j := by omega
   have hT5 : n - 3 * j ≤ (trio L (4 * j)).length ∨ 3 ≤ (trio L (4 * j)).length := by omega
   clear hT
   generalize trio L (4 * j) = T at *
   by_cases hs : 0 < j ∧ j % 19 = 0
   ·have hb : (3 * (j : Int) % 57 == 0) = true := by rw [beq_iff_eq]; omega
    have hj0 : 0 < j := hs.1
    have HX : Hid (tx3 L j 0 = text L (4 * j) ++ [13, 10]) := tx_zero_sep L j hs
    clear hs
    go_wp2_with fail
    go_loop [3, 25] (fun ov kv => ∃ k : Nat, k ≤ 4 ∧ kv = .int .i64 k ∧ ov = .string ⟨(tx3 L j k).toArray⟩) (fun _ kv => 4 - (intOf kv).toNat)
    case atStart => exact ⟨0, by omega, rfl, by rw [HX.out]; exact str_two _ 13 10⟩
    case round =>
     obtain ⟨k, hk, rfl, rfl⟩ := hrel
     have hxl := tx_length L j k
     by_cases hk4 : k < 4
     ·have HTX : Hid (tx3 L j (k + 1) = tx3 L j k ++ [letT T k]) := by unfold Hid; rw [tx3, HE.out k hk4]
      have hxl' : (tx3 L j k).length ≤ 20000 := by omega
      clear hxl
      generalize tx3 L j k = X at *
      go_wp2_with fail
      go_loop [6, 7, 8] (fun vv tv bv => ∃ m : Nat, m ≤ 6 ∧ bv = .int .i64 ((6 * k + m : Nat) : Int) ∧ vv = .int .i64 ((bitsV T k m : Nat) : Int) ∧ tv = .bool (thereB T k m)) (fun _ _ bv => 6 * k + 6 - (intOf bv).toNat)
      case atStart => exact ⟨0, by omega, rfl, rfl, by simp [thereB]⟩
      case round =>
       obtain ⟨m, hm, rfl, rfl, rfl⟩ := hrel
       have hvl : bitsV T k m < 64 := Nat.lt_of_lt_of_le (bitsV_lt T k m) (Nat.pow_le_pow_right (by decide) hm)
       by_cases hm6 : m < 6
       ·have HB : Hid (bitsV T k (m + 1) = bitsV T k m * 2 + bitAt T (6 * k + m)) := rfl
        by_cases hb8 : (6 * k + m) / 8 < T.length
        ·have hcell := hcT ((6 * k + m) / 8) hb8
         have hin : 3 * (j : Int) + (6 * (k : Int) + (m : Int)) / 8 < (n : Int) := by omega
         have HY : Hid (thereB T k (m + 1) = true) := there_yes T k m hb8
         have HA : Hid (bitAt T (6 * k + m) = (T.getD ((6 * k + m) / 8) 0).toNat / 2 ^ (7 - (6 * k + m) % 8) % 2) := rfl
         clear hcT hb8
         have hx256 := (T.getD ((6 * k + m) / 8) 0).toNat_lt
         generalize (T.getD ((6 * k + m) / 8) 0).toNat = x at *
         generalize bitsV T k m = V at *
         go_wp2
         go_round
         case rel => exact ⟨m + 1, by omega, by go_num, by rw [HB.out, HA.out]; exact int_eq (by simp), by rw [HY.out]⟩
         case measure => simp [intOf]; omega
        ·have hin : ¬ 3 * (j : Int) + (6 * (k : Int) + (m : Int)) / 8 < (n : Int) := by omega
         have HY : Hid (thereB T k m = thereB T k (m + 1)) := there_no T k m hb8 hm6
         have HA : Hid (bitAt T (6 * k + m) = 0) := bitAt_none T _ hb8
         clear hcT hb8
         generalize bitsV T k m = V at *
         go_wp2
         go_round
         case rel => exact ⟨m + 1, by omega, by go_num, by rw [HB.out, HA.out]; exact int_eq (by simp), by rw [HY.out]⟩
         case measure => simp [intOf]; omega
       ·obtain rfl : m = 6 := by omega
        clear hcT
        by_cases hth : thereB T k 6 = true
        ·have HL6 : Hid (letT T k = abc.getD (bitsV T k 6) 0) := letT_there T k hth hk4
         generalize bitsV T k 6 = S at *
         go_wp2
         go_round
         case rel => exact ⟨k + 1, by omega, by go_num, by rw [HTX.out, HL6.out]; exact str_slice X S hvl⟩
         case measure => simp [intOf]; omega
        ·rw [Bool.not_eq_true] at hth
         have HL6 : Hid (letT T k = 61) := letT_none T k hth
         go_wp2
         go_round
         case rel => exact ⟨k + 1, by omega, by go_num, by rw [HTX.out, HL6.out]; exact str_push X 61⟩
         case measure => simp [intOf]; omega
     ·obtain rfl : k = 4 := by omega
      clear hcT HX
      go_wp2
      go_round
      case rel => exact ⟨j + 1, by omega, by go_num, by rw [tx_four]⟩
      case measure => simp [intOf]; omega
   ·by_cases hj0 : 0 < j
    ·have hb : (3 * (j : Int) % 57 == 0) = false := by rw [beq_eq_false_iff_ne]; omega
     have HX : Hid (tx3 L j 0 = text L (4 * j)) := tx_zero_none L j hs
     clear hs
     go_wp2_with fail
     go_loop [3, 25] (fun ov kv => ∃ k : Nat, k ≤ 4 ∧ kv = .int .i64 k ∧ ov = .string ⟨(tx3 L j k).toArray⟩) (fun _ kv => 4 - (intOf kv).toNat)
     case atStart => exact ⟨0, by omega, rfl, by rw [HX.out]⟩
     case round =>
      obtain ⟨k, hk, rfl, rfl⟩ := hrel
      have hxl := tx_length L j k
      by_cases hk4 : k < 4
      ·have HTX : Hid (tx3 L j (k + 1) = tx3 L j k ++ [letT T k]) := by unfold Hid; rw [tx3, HE.out k hk4]
       have hxl' : (tx3 L j k).length ≤ 20000 := by omega
       clear hxl
       generalize tx3 L j k = X at *
       go_wp2_with fail
       go_loop [6, 7, 8] (fun vv tv bv => ∃ m : Nat, m ≤ 6 ∧ bv = .int .i64 ((6 * k + m : Nat) : Int) ∧ vv = .int .i64 ((bitsV T k m : Nat) : Int) ∧ tv = .bool (thereB T k m)) (fun _ _ bv => 6 * k + 6 - (intOf bv).toNat)
       case atStart => exact ⟨0, by omega, rfl, rfl, by simp [thereB]⟩
       case round =>
        obtain ⟨m, hm, rfl, rfl, rfl⟩ := hrel
        have hvl : bitsV T k m < 64 := Nat.lt_of_lt_of_le (bitsV_lt T k m) (Nat.pow_le_pow_right (by decide) hm)
        by_cases hm6 : m < 6
        ·have HB : Hid (bitsV T k (m + 1) = bitsV T k m * 2 + bitAt T (6 * k + m)) := rfl
         by_cases hb8 : (6 * k + m) / 8 < T.length
         ·have hcell := hcT ((6 * k + m) / 8) hb8
          have hin : 3 * (j : Int) + (6 * (k : Int) + (m : Int)) / 8 < (n : Int) := by omega
          have HY : Hid (thereB T k (m + 1) = true) := there_yes T k m hb8
          have HA : Hid (bitAt T (6 * k + m) = (T.getD ((6 * k + m) / 8) 0).toNat / 2 ^ (7 - (6 * k + m) % 8) % 2) := rfl
          clear hcT hb8
          have hx256 := (T.getD ((6 * k + m) / 8) 0).toNat_lt
          generalize (T.getD ((6 * k + m) / 8) 0).toNat = x at *
          generalize bitsV T k m = V at *
          go_wp2
          go_round
          case rel => exact ⟨m + 1, by omega, by go_num, by rw [HB.out, HA.out]; exact int_eq (by simp), by rw [HY.out]⟩
          case measure => simp [intOf]; omega
         ·have hin : ¬ 3 * (j : Int) + (6 * (k : Int) + (m : Int)) / 8 < (n : Int) := by omega
          have HY : Hid (thereB T k m = thereB T k (m + 1)) := there_no T k m hb8 hm6
          have HA : Hid (bitAt T (6 * k + m) = 0) := bitAt_none T _ hb8
          clear hcT hb8
          generalize bitsV T k m = V at *
          go_wp2
          go_round
          case rel => exact ⟨m + 1, by omega, by go_num, by rw [HB.out, HA.out]; exact int_eq (by simp), by rw [HY.out]⟩
          case measure => simp [intOf]; omega
        ·obtain rfl : m = 6 := by omega
         clear hcT
         by_cases hth : thereB T k 6 = true
         ·have HL6 : Hid (letT T k = abc.getD (bitsV T k 6) 0) := letT_there T k hth hk4
          generalize bitsV T k 6 = S at *
          go_wp2
          go_round
          case rel => exact ⟨k + 1, by omega, by go_num, by rw [HTX.out, HL6.out]; exact str_slice X S hvl⟩
          case measure => simp [intOf]; omega
         ·rw [Bool.not_eq_true] at hth
          have HL6 : Hid (letT T k = 61) := letT_none T k hth
          go_wp2
          go_round
          case rel => exact ⟨k + 1, by omega, by go_num, by rw [HTX.out, HL6.out]; exact str_push X 61⟩
          case measure => simp [intOf]; omega
      ·obtain rfl : k = 4 := by omega
       clear hcT HX
       go_wp2
       go_round
       case rel => exact ⟨j + 1, by omega, by go_num, by rw [tx_four]⟩
       case measure => simp [intOf]; omega
    ·have hd : decide ((0 : Int) < 3 * (j : Int)) = false := by simp; omega
     have HX : Hid (tx3 L j 0 = text L (4 * j)) := tx_zero_none L j hs
     clear hs
     go_wp2_with fail
     go_loop [3, 25] (fun ov kv => ∃ k : Nat, k ≤ 4 ∧ kv = .int .i64 k ∧ ov = .string ⟨(tx3 L j k).toArray⟩) (fun _ kv => 4 - (intOf kv).toNat)
     case atStart => exact ⟨0, by omega, rfl, by rw [HX.out]⟩
     case round =>
      obtain ⟨k, hk, rfl, rfl⟩ := hrel
      have hxl := tx_length L j k
      by_cases hk4 : k < 4
      ·have HTX : Hid (tx3 L j (k + 1) = tx3 L j k ++ [letT T k]) := by unfold Hid; rw [tx3, HE.out k hk4]
       have hxl' : (tx3 L j k).length ≤ 20000 := by omega
       clear hxl
       generalize tx3 L j k = X at *
       go_wp2_with fail
       go_loop [6, 7, 8] (fun vv tv bv => ∃ m : Nat, m ≤ 6 ∧ bv = .int .i64 ((6 * k + m : Nat) : Int) ∧ vv = .int .i64 ((bitsV T k m : Nat) : Int) ∧ tv = .bool (thereB T k m)) (fun _ _ bv => 6 * k + 6 - (intOf bv).toNat)
       case atStart => exact ⟨0, by omega, rfl, rfl, by simp [thereB]⟩
       case round =>
        obtain ⟨m, hm, rfl, rfl, rfl⟩ := hrel
        have hvl : bitsV T k m < 64 := Nat.lt_of_lt_of_le (bitsV_lt T k m) (Nat.pow_le_pow_right (by decide) hm)
        by_cases hm6 : m < 6
        ·have HB : Hid (bitsV T k (m + 1) = bitsV T k m * 2 + bitAt T (6 * k + m)) := rfl
         by_cases hb8 : (6 * k + m) / 8 < T.length
         ·have hcell := hcT ((6 * k + m) / 8) hb8
          have hin : 3 * (j : Int) + (6 * (k : Int) + (m : Int)) / 8 < (n : Int) := by omega
          have HY : Hid (thereB T k (m + 1) = true) := there_yes T k m hb8
          have HA : Hid (bitAt T (6 * k + m) = (T.getD ((6 * k + m) / 8) 0).toNat / 2 ^ (7 - (6 * k + m) % 8) % 2) := rfl
          clear hcT hb8
          have hx256 := (T.getD ((6 * k + m) / 8) 0).toNat_lt
          generalize (T.getD ((6 * k + m) / 8) 0).toNat = x at *
          generalize bitsV T k m = V at *
          go_wp2
          go_round
          case rel => exact ⟨m + 1, by omega, by go_num, by rw [HB.out, HA.out]; exact int_eq (by simp), by rw [HY.out]⟩
          case measure => simp [intOf]; omega
         ·have hin : ¬ 3 * (j : Int) + (6 * (k : Int) + (m : Int)) / 8 < (n : Int) := by omega
          have HY : Hid (thereB T k m = thereB T k (m + 1)) := there_no T k m hb8 hm6
          have HA : Hid (bitAt T (6 * k + m) = 0) := bitAt_none T _ hb8
          clear hcT hb8
          generalize bitsV T k m = V at *
          go_wp2
          go_round
          case rel => exact ⟨m + 1, by omega, by go_num, by rw [HB.out, HA.out]; exact int_eq (by simp), by rw [HY.out]⟩
          case measure => simp [intOf]; omega
        ·obtain rfl : m = 6 := by omega
         clear hcT
         by_cases hth : thereB T k 6 = true
         ·have HL6 : Hid (letT T k = abc.getD (bitsV T k 6) 0) := letT_there T k hth hk4
          generalize bitsV T k 6 = S at *
          go_wp2
          go_round
          case rel => exact ⟨k + 1, by omega, by go_num, by rw [HTX.out, HL6.out]; exact str_slice X S hvl⟩
          case measure => simp [intOf]; omega
         ·rw [Bool.not_eq_true] at hth
          have HL6 : Hid (letT T k = 61) := letT_none T k hth
          go_wp2
          go_round
          case rel => exact ⟨k + 1, by omega, by go_num, by rw [HTX.out, HL6.out]; exact str_push X 61⟩
          case measure => simp [intOf]; omega
      ·obtain rfl : k = 4 := by omega
       clear hcT HX
       go_wp2
       go_round
       case rel => exact ⟨j + 1, by omega, by go_num, by rw [tx_four]⟩
       case measure => simp [intOf]; omega
  ·have hfin : Hid (encode L = text L (4 * j)) := by
    unfold Hid encode; rw [← HL.out, show (n + 2) / 3 * 4 = 4 * j from by omega]
   go_wp2
   go_ret
   exact ⟨by rw [hfin.out]; rfl, rfl⟩
theorem btext_any (p : Option Addr) (n c : Nat) (L : List UInt8) (en : n = L.length) (w : World) (hn : L.length ≤ 4000) (hr : BRow w p L) :
  Calls Tryz.prog 39 #[.slice p n c] w fun e w' => e = .returned (.string ⟨(encode L).toArray⟩) ∧ w' = w := by
 subst en
 by_cases h0 : L = []
 ·subst h0
  exact btext_nil p c w
 ·obtain ⟨b, o, rfl, hc⟩ := hr h0
  exact btext_some b o c L w h0 hn hc
end Go.Proofs.YtlndhdimamnnlaaGreatDoor

