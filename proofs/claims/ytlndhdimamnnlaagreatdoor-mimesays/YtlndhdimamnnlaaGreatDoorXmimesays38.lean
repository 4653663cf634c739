
import Derived.Test.YtlndhdimamnnlaaGreatDoorXmimesays31
import Derived.Test.YtlndhdimamnnlaaGreatDoorXmimesays29
namespace Go.Proofs.YtlndhdimamnnlaaGreatDoor
open Go.RowKit
theorem take_ten (l : List UInt8) : manyS l = decide (l.take 10 = multi) := by
 unfold manyS Lib.hasPrefix
 rw [Bool.eq_iff_iff, List.isPrefixOf_iff_prefix, List.prefix_iff_eq_take]
 simp only [decide_eq_true_eq]
 exact ⟨fun h => h.symm, fun h => h.symm⟩
theorem rmany_any (s : ByteArray) (w : World) (hs : s.size ≤ maxLen) :
  Calls Tryz.prog 32 #[.string s] w fun e w' => e = .returned (.bool (manyS s.data.toList)) ∧ w' = w := by
 unfold maxLen at hs
 have hle := Lib.size_eq s
 by_cases h10 : 10 ≤ s.size
 ·have h10' : (10 : Int) ≤ (s.size : Int) := by omega
  obtain ⟨X, hX⟩ : ∃ X, s.extract 0 10 = X := ⟨_, rfl⟩
  have hXl : X.data.toList = s.data.toList.take 10 := by rw [← hX, Lib.extract_data]; simp
  have HN : Hid (manyS s.data.toList = decide (X.data.toList = multi)) := by unfold Hid; rw [hXl]; exact take_ten _
  have e1 : (X.toList == (⟨#[109, 117, 108, 116, 105, 112, 97, 114, 116, 47]⟩ : ByteArray).toList) = decide (X.data.toList = multi) := by
   rw [ByteArray.toList_eq, ByteArray.toList_eq, Bool.eq_iff_iff, beq_iff_eq, decide_eq_true_eq]; exact Iff.rfl
  have e2 : (X.toList == [109, 117, 108, 116, 105, 112, 97, 114, 116, 47]) = decide (X.data.toList = multi) := by
   rw [ByteArray.toList_eq, Bool.eq_iff_iff, beq_iff_eq, decide_eq_true_eq]; exact Iff.rfl
  generalize decide (X.data.toList = multi) = T at *
  clear hXl hle
  go_enter Tryz.func32, Tryz.ntmps32
  go_wp2_with fail
  go_ret
  exact ⟨by rw [HN.out]; first | rfl | (rw [e1]; rfl) | (rw [e2]; rfl) | (simp [e1, e2]), rfl⟩
 ·have h10' : decide ((10 : Int) ≤ (s.size : Int)) = false := by simp; omega
  have HN : Hid (manyS s.data.toList = false) := by
   unfold Hid
   rw [take_ten]
   apply decide_eq_false
   intro h
   have := congrArg List.length h
   rw [List.length_take, ← hle] at this
   simp [multi] at this
   omega
  clear hle
  go_enter Tryz.func32, Tryz.ntmps32
  go_wp2_with fail
  go_ret
  exact ⟨by rw [HN.out]; rfl, rfl⟩
theorem rword_any (s : ByteArray) (w : World) (hs : s.size ≤ maxLen) :
  Calls Tryz.prog 35 #[.string s] w fun e w' => e = .returned (.bool (wordS s.data.toList)) ∧ w' = w := by
 unfold maxLen at hs
 have hle := Lib.size_eq s
 by_cases h2 : s.size ≤ 120
 ·have h2' : (s.size : Int) ≤ 120 := by omega
  have HN : Hid (wordS s.data.toList = betw 33 126 [34, 60, 62] s.data.toList) := by unfold Hid wordS betw; rw [← hle]; simp [h2]; rfl
  have C : Hid (∀ w, Calls Tryz.prog 72 #[.string s, .int .u8 33, .int .u8 126, .string ⟨#[34, 60, 62]⟩] w fun e w' => e = .returned (.bool (betw 33 126 [34, 60, 62] s.data.toList)) ∧ w' = w) := fun w => between_any s ⟨#[34, 60, 62]⟩ [34, 60, 62] rfl 33 126 33 126 rfl rfl w (by omega)
  generalize betw 33 126 [34, 60, 62] s.data.toList = V at *
  clear hle
  go_enter Tryz.func35, Tryz.ntmps35
  go_wp2_with fail
  refine (C.out _).mono ?_
  rintro e w' ⟨rfl, hw'⟩
  have hw'' := hw'.symm
  subst hw''
  go_wp2_with fail
  go_ret
  exact ⟨by rw [HN.out]; rfl, rfl⟩
 ·have h2' : decide ((s.size : Int) ≤ 120) = false := by simp; omega
  have HN : Hid (wordS s.data.toList = false) := by unfold Hid wordS; rw [← hle]; simp; omega
  clear hle
  go_enter Tryz.func35, Tryz.ntmps35
  go_wp2_with fail
  go_ret
  exact ⟨by rw [HN.out]; rfl, rfl⟩
theorem low_every : ((List.range 256).all fun n => decide (Lib.lowerB (UInt8.ofNat n) = UInt8.ofNat n) == !upR n) = true := by decide +kernel
theorem low_same (c : UInt8) : Lib.lowerB c = c ↔ upR c.toNat = false := by
 have h := List.all_eq_true.1 low_every c.toNat (by rw [List.mem_range]; exact UInt8.toNat_lt c)
 rw [UInt8.ofNat_toNat, beq_iff_eq] at h
 constructor
 ·intro e
  rw [decide_eq_true e] at h
  simpa using h.symm
 ·intro e
  rw [e] at h
  simpa using h
theorem small_same : ∀ l : List UInt8, decide (small8 l = l) = !(l.any fun c => upR c.toNat)
 | [] => rfl
 | c :: l => by
  have ih := small_same l
  have hc := low_same c
  rw [List.any_cons, Bool.eq_iff_iff]
  rw [Bool.eq_iff_iff] at ih
  have e : small8 (c :: l) = Lib.lowerB c :: small8 l := rfl
  rw [e]
  simp only [decide_eq_true_eq, List.cons.injEq, Bool.not_or, Bool.and_eq_true, Bool.not_eq_true'] at ih ⊢
  rw [ih, hc]
set_option maxHeartbeats 1000000 in
set_option maxRecDepth 100000 in
theorem rtype_any (s : ByteArray) (w : World) (hs : s.size ≤ maxLen) (hT : ∀ w', Below w.heap.size w w' → Lib.Utf8Tabs 6 7 w') :
  Calls Tryz.prog 33 #[.string s] w fun e w' => e = .returned (.bool (typeS s.data.toList)) ∧ Below w.heap.size w w' := by
 unfold maxLen at hs
 have C0 := fun w => Tryz.strings_Index_one s 47 w
 cases hc : cutB 47 s.data.toList with
 | none =>
  have HN : Hid (typeS s.data.toList = false) := by unfold Hid typeS; rw [hc]
  have C : Hid (∀ w, Calls Tryz.prog 52 #[.string s, .string ⟨#[47]⟩] w fun e w' => e = .returned (.int .i64 (-1)) ∧ w' = w) := fun w => by
   have := C0 w
   rwa [indexByte_where, whereB_none hc] at this
  clear hc C0 hT
  go_enter Tryz.func33, Tryz.ntmps33
  go_wp2_with fail
  refine (C.out _).mono ?_
  rintro e w' ⟨rfl, hw'⟩
  have hw'' := hw'.symm
  subst hw''
  go_wp2_with fail
  go_ret
  exact ⟨by rw [HN.out]; rfl, Below.refl _ _⟩
 | some x =>
  obtain ⟨a, r, hx, hsz⟩ := cut_parts hc
  subst hx
  obtain ⟨A, R, h1, h2, h3, h4, h5⟩ := ba_cut 47 s _ _ (cutB_some 47 _ _ _ hc).1
  have hA := ba_inj h3
  have hR := ba_inj h4
  subst hA hR
  obtain ⟨I, hI⟩ : ∃ I, I = A.data.toList.length := ⟨_, rfl⟩
  rw [← hI] at h1 h2 h5
  have C : Hid (∀ w, Calls Tryz.prog 52 #[.string s, .string ⟨#[47]⟩] w fun e w' => e = .returned (.int .i64 (I : Int)) ∧ w' = w) := fun w => by
   have := C0 w
   rw [indexByte_where, whereB_some hc] at this
   rw [hI]
   exact this
  have hI1 : (I : Int) ≤ (s.size : Int) := by omega
  have hI2 : (I : Int) + 1 ≤ (s.size : Int) := by omega
  have HT : Hid (typeS s.data.toList = (tokenS A.data.toList && tokenS R.data.toList && !s.data.toList.any (fun c => decide (65 ≤ c.toNat) && decide (c.toNat ≤ 90)))) := by unfold Hid typeS; rw [hc]
  have CA : Hid (∀ w, Calls Tryz.prog 34 #[.string A] w fun e w' => e = .returned (.bool (tokenS A.data.toList)) ∧ w' = w) := fun w => token_any A w (by unfold maxLen; omega)
  have CR : Hid (∀ w, Calls Tryz.prog 34 #[.string R] w fun e w' => e = .returned (.bool (tokenS R.data.toList)) ∧ w' = w) := fun w => token_any R w (by unfold maxLen; omega)
  have HA : Hid (tokenS A.data.toList = true → tokenS R.data.toList = true → s.data.toList.length ≤ 1000000 ∧ ∀ c ∈ s.data.toList, c.toNat < 128) := fun h1 h2 => by
   have l1 : A.data.toList.length ≤ 30 := by unfold tokenS at h1; simp at h1; simpa using h1.1.2
   have l2 : R.data.toList.length ≤ 30 := by unfold tokenS at h2; simp at h2; simpa using h2.1.2
   refine ⟨?_, fun c hm => ?_⟩
   ·rw [(cutB_some 47 _ _ _ hc).1]; simp only [List.length_append, List.length_cons]; omega
   ·rw [(cutB_some 47 _ _ _ hc).1] at hm
    rcases List.mem_append.1 hm with h | h
    ·exact tok_ascii _ h1 c h
    ·rcases List.mem_cons.1 h with h | h
     ·subst h; decide
     ·exact tok_ascii _ h2 c h
  clear hc hsz C0 h3 h4 h5 hI
  cases ha : tokenS A.data.toList
  ·have HN : Hid (typeS s.data.toList = false) := by unfold Hid; rw [HT.out, ha]; rfl
   rw [ha] at CA
   clear HT HA CR ha hT
   go_enter Tryz.func33, Tryz.ntmps33
   go_wp2_with fail
   refine (C.out _).mono ?_
   rintro e w' ⟨rfl, hw'⟩
   have hw'' := hw'.symm
   subst hw''
   go_wp2_with fail
   refine (CA.out _).mono ?_
   rintro e w2 ⟨rfl, hw2⟩
   have hw2' := hw2.symm
   subst hw2'
   go_wp2_with fail
   go_ret
   exact ⟨by rw [HN.out]; rfl, Below.refl _ _⟩
  ·cases hr : tokenS R.data.toList
   ·have HN : Hid (typeS s.data.toList = false) := by unfold Hid; rw [HT.out, ha, hr]; rfl
    rw [ha] at CA
    rw [hr] at CR
    clear HT HA ha hr hT
    go_enter Tryz.func33, Tryz.ntmps33
    go_wp2_with fail
    refine (C.out _).mono ?_
    rintro e w' ⟨rfl, hw'⟩
    have hw'' := hw'.symm
    subst hw''
    go_wp2_with fail
    refine (CA.out _).mono ?_
    rintro e w2 ⟨rfl, hw2⟩
    have hw2' := hw2.symm
    subst hw2'
    go_wp2_with fail
    refine (CR.out _).mono ?_
    rintro e w3 ⟨rfl, hw3⟩
    have hw3' := hw3.symm
    subst hw3'
    go_wp2_with fail
    go_ret
    exact ⟨by rw [HN.out]; rfl, Below.refl _ _⟩
   ·obtain ⟨hl, hasc⟩ := HA.out ha hr
    have HN : Hid (typeS s.data.toList = decide (small8 s.data.toList = s.data.toList)) := by unfold Hid; rw [HT.out, ha, hr, small_same]; rfl
    have CS : Hid (Calls Tryz.prog 71 #[.string s] w fun e w' => e = .returned (.string (ba (small8 s.data.toList))) ∧ Below w.heap.size w w') := rsmall_any s.data.toList w hl hasc (hT w (Below.refl _ _))
    have e1 : ((ba (small8 s.data.toList)).toList == s.toList) = decide (small8 s.data.toList = s.data.toList) := by
     rw [ByteArray.toList_eq, ByteArray.toList_eq, Bool.eq_iff_iff]; simp [ba]
    rw [ha] at CA
    rw [hr] at CR
    clear HT HA ha hr hT hl hasc
    generalize decide (small8 s.data.toList = s.data.toList) = T at *
    generalize ba (small8 s.data.toList) = SM at *
    go_enter Tryz.func33, Tryz.ntmps33
    go_wp2_with fail
    refine (C.out _).mono ?_
    rintro e w' ⟨rfl, hw'⟩
    have hw'' := hw'.symm
    subst hw''
    go_wp2_with fail
    refine (CA.out _).mono ?_
    rintro e w2 ⟨rfl, hw2⟩
    have hw2' := hw2.symm
    subst hw2'
    go_wp2_with fail
    refine (CR.out _).mono ?_
    rintro e w3 ⟨rfl, hw3⟩
    have hw3' := hw3.symm
    subst hw3'
    go_wp2_with fail
    refine CS.out.mono ?_
    rintro e w4 ⟨rfl, hb4⟩
    go_wp2_with fail
    go_ret
    exact ⟨by rw [HN.out]; first | rfl | (rw [e1]; rfl) | simp [e1], hb4⟩
end Go.Proofs.YtlndhdimamnnlaaGreatDoor



namespace Go.Proofs.YtlndhdimamnnlaaGreatDoor
theorem eqByte_low (a b : UInt8) : eqByte a.toNat (Lib.lowerB b).toNat = eqByte a.toNat b.toNat := by
 have h1 := lower_num8 b
 have ha := a.toNat_lt
 have hb := b.toNat_lt
 unfold eqByte
 rw [h1]
 generalize a.toNat = x at *
 generalize b.toNat = y at *
 by_cases hu : 65 ≤ y ∧ y ≤ 90
 ·rw [if_pos hu, Bool.eq_iff_iff]
  simp only [Bool.or_eq_true, decide_eq_true_eq]
  omega
 ·rw [if_neg hu]
theorem small_or (a b : Nat) (ha : a < 128) (hb : b < 128) : ¬ 128 ≤ (a ||| b) := by
 have := Nat.or_lt_two_pow (n := 7) ha hb
 omega
theorem eqF_low : ∀ (x y : List UInt8), (∀ c ∈ x, c.toNat < 128) → (∀ c ∈ y, c.toNat < 128) → eqF x (y.map Lib.lowerB) = eqF x y
 | [], y, _, _ => by rw [eqF_end _ _ (.inl rfl), eqF_end _ _ (.inl rfl), List.length_map]
 | a :: x, [], _, _ => by rw [List.map_nil]
 | a :: x, b :: y, hx, hy => by
  have ha := hx a (by simp)
  have hb := hy b (by simp)
  have hlb : (Lib.lowerB b).toNat < 128 := ascii_low b hb
  have ih := eqF_low x y (fun c hc => hx c (by simp [hc])) (fun c hc => hy c (by simp [hc]))
  rw [List.map_cons]
  cases h : eqByte a.toNat b.toNat
  ·rw [eqF_no a b x y (small_or _ _ ha hb) h, eqF_no a (Lib.lowerB b) x _ (small_or _ _ ha hlb) (by rw [eqByte_low]; exact h)]
  ·rw [eqF_yes a b x y (small_or _ _ ha hb) h, eqF_yes a (Lib.lowerB b) x _ (small_or _ _ ha hlb) (by rw [eqByte_low]; exact h), ih]
theorem token_ascii {l : List UInt8} (h : tokenS l = true) : ∀ c ∈ l, c.toNat < 128 := fun c hc => by
 rw [tokenS, Bool.and_eq_true] at h
 have := inB_at h.2 hc
 omega
theorem getN_low (nm : List UInt8) (hnm : ∀ c ∈ nm, c.toNat < 128) : ∀ (fs : List Fld), (∀ f ∈ fs, tokenS f.1 = true) → getN (nm.map Lib.lowerB) fs = getN nm fs
 | [], _ => rfl
 | f :: fs, h => by
  have ih := getN_low nm hnm fs (fun x hx => h x (by simp [hx]))
  unfold getN at ih ⊢
  rw [List.find?_cons, List.find?_cons]
  rw [eqF_low f.1 nm (token_ascii (h f (by simp))) hnm]
  cases eqF f.1 nm
  ·exact ih
  ·rfl
theorem fields_tok {fs : List Fld} (h : checkF fs = 0) : ∀ f ∈ fs, tokenS f.1 = true := fun f hf => by
 obtain ⟨_, h2⟩ := checkF_facts h
 have := List.all_eq_true.1 h2 f hf
 rw [okF, Bool.and_eq_true] at this
 exact this.1
end Go.Proofs.YtlndhdimamnnlaaGreatDoor



namespace Go.Proofs.YtlndhdimamnnlaaGreatDoor
open Go.RowKit
theorem cell_lone1 (w : World) (v : Value) (t : TypeId) : ∀ j x, [v][j]? = some x → (w.alloc (.cells #[v] t)).cell? ((⟨w.heap.size, 0, none⟩ : Addr).add j) = some x := cell_one w v t rfl
theorem one_str (s : ByteArray) : ∀ u ∈ [Value.string s], u.oneCell' = true := by
 intro u hu; simp at hu; subst hu; rfl
theorem ts_take (ts : List ByteArray) (i : Nat) (hi : i < ts.length) : ts.take (i + 1) = ts.take i ++ [ts.getD i ⟨#[]⟩] := by
 rw [List.take_add_one, List.getElem?_eq_getElem hi, List.getD_eq_getElem?_getD, List.getElem?_eq_getElem hi]
 rfl
set_option maxHeartbeats 8000000 in
set_option maxRecDepth 100000 in
theorem text_many (b o m : Nat) (bk ok ck : Nat) (ty : ByteArray) (ts : List ByteArray) (br HD R : ByteArray) (n : Int) (w : World) (hm12 : m ≤ 12) (hm1 : 1 ≤ m) (hck : m ≤ ck) (hem : Hid (m = ts.length)) (hbb : b < w.heap.size)
  (hHD : HD.size ≤ 3738) (hts : Hid (∀ t ∈ ts, t.size ≤ 240000))
  (c0 : w.cell? ⟨b, o, none⟩ = some (.string ty)) (c6 : w.cell? ⟨b, o + 6, none⟩ = some (.slice (some ⟨bk, ok, none⟩) m ck))
  (CM : Hid (Calls Tryz.prog 57 #[.string ty] w fun e w' => e = .returned (.bool true) ∧ w' = w))
  (CT : Hid (∀ W i, i < m → Below w.heap.size w W → Calls Tryz.prog 24 #[.pointer (some ⟨bk, ok + i * 7, none⟩)] W fun e w' => e = .returned (.string (ts.getD i ⟨#[]⟩)) ∧ Below W.heap.size W w'))
  (CL : Hid (∀ W q c, Below w.heap.size w W → TRow W q ts → Calls Tryz.prog 60 #[.slice q m c] W fun e w' => e = .returned (.int .i64 n) ∧ Below W.heap.size W w'))
  (CI : Hid (∀ W, Below w.heap.size w W → Calls Tryz.prog 36 #[.int .i64 n] W fun e w' => e = .returned (.string ⟨(Lib.itoa n).toArray⟩) ∧ Below W.heap.size W w'))
  (hbr : Hid (br = ⟨#[61, 95]⟩ ++ ⟨(Lib.itoa n).toArray⟩)) (hbs : br.size ≤ 9)
  (CH : Hid (∀ W, Below w.heap.size w W → Calls Tryz.prog 58 #[.pointer (some ⟨b, o, none⟩), .string br] W fun e w' => e = .returned (.string HD) ∧ Below W.heap.size W w'))
  (hR : Hid (R = HD ++ ba ((ts.map fun t => t.data.toList).flatMap (pieceT br.data.toList)) ++ ⟨#[45, 45]⟩ ++ br ++ ⟨#[45, 45]⟩ ++ ⟨#[13, 10]⟩)) :
  Calls Tryz.prog 24 #[.pointer (some ⟨b, o, none⟩)] w fun e w' => e = .returned (.string R) ∧ Below w.heap.size w w' := by
 obtain ⟨i0, hi, hz0, hz1, hz2⟩ := info_parts info_strM
 obtain ⟨j0, gi, gz0, gz1, gz2⟩ := info_parts info_u8
 have HC6 : Hid (∀ W, Below w.heap.size w W → W.cell? ⟨b, o + 6, none⟩ = some (.slice (some ⟨bk, ok, none⟩) m ck)) := fun W hb => (hb.cell (p := ⟨b, o + 6, none⟩) hbb).trans c6
 go_enter Tryz.func24, Tryz.ntmps24
 go_wp2_with fail
 refine CM.out.mono ?_
 rintro e w1 ⟨rfl, hw1⟩
 have hw2 := hw1.symm
 subst hw2
 clear CM
 go_wp2_with fail
 go_loopw [3, 25] (fun ov iv wr => ∃ (i : Nat) (q : Option Addr) (c : Nat), i ≤ m ∧ iv = .int .i64 i ∧ ov = .slice q i c ∧ Below w.heap.size w wr ∧ Hid (wr.ownsRow w.heap.size 9 1 (.slice q i c) i (stv (ts.take i)))) (fun _ iv _ => m - (intOf iv).toNat)
 case atStart => exact ⟨0, none, 0, Nat.zero_le _, rfl, rfl, Below.refl _ _, World.ownsRow_nil _ _ _ _⟩
 case round =>
  obtain ⟨i, q, c, hi2, rfl, rfl, hbr1, HO⟩ := hrel
  have hsz := hbr1.size
  by_cases hlt : i < m
  ·have hlz : (i : Int) < (m : Int) := by omega
   have hc6 := HC6.out wr hbr1
   have CTi : Hid (Calls Tryz.prog 24 #[.pointer (some ⟨bk, ok + i * 7, none⟩)] wr fun e w' => e = .returned (.string (ts.getD i ⟨#[]⟩)) ∧ Below wr.heap.size wr w') := CT.out wr i hlt hbr1
   have HTK : Hid (stv (ts.take (i + 1)) = stv (ts.take i) ++ [.string (ts.getD i ⟨#[]⟩)]) := by unfold Hid; rw [ts_take ts i (by rw [← hem.out]; exact hlt), stv_snoc]
   generalize ts.getD i ⟨#[]⟩ = tx at *
   go_wp2_with fail
   refine CTi.out.mono ?_
   rintro e w2 ⟨rfl, hb2⟩
   clear CTi hc6
   have hbe2 : Below w.heap.size w w2 := hbr1.trans (hb2.mono hbr1.size)
   have own2 : w2.ownsRow w.heap.size 9 1 (.slice q i c) i (stv (ts.take i)) := ownsRow_below HO.out hb2
   have hsz2 := hbe2.size
   clear hb2 HO
   go_wp2_with (at_builtin; refine wpList_append_own _ rfl (.tmp 28) (.tmp 36) 41 rfl w.heap.size 9 i0 (.string ⟨#[]⟩) 1 16 Tryz.underlying41 hi hz0 hz1 hz2 rfl (by decide) _ _ _ rfl (own2.alloc _) ⟨w2.heap.size, 0, none⟩ 1 1 [.string tx] rfl rfl (cell_lone1 _ _ _) (one_str _) ?d1 ?d2 ?d3 ?_)
   case d1 => unfold maxLen; omega
   case d2 => omega
   case d3 => simp; omega
   intro v9 w9 own9 g9 _
   have b9 : Below w.heap.size w w9 := (hbe2.alloc hbe2.size _).grown g9 (by simp; omega) (fun j hj => (own2.lt j hj).1)
   obtain ⟨q9, c9, rfl⟩ := owned_slice own9
   have HO9 : Hid (w9.ownsRow w.heap.size 9 1 (.slice q9 (i + 1) c9) (i + 1) (stv (ts.take (i + 1)))) := by unfold Hid; rw [HTK.out]; exact own9
   clear own9 g9 own2 HTK
   go_wp2_with fail
   go_roundw
   case rel => exact ⟨i + 1, q9, c9, by omega, by go_num, rfl, b9, HO9⟩
   case measure => simp [intOf]; omega
  ·obtain rfl : i = m := by omega
   have hlz : ¬ (i : Int) < (i : Int) := by omega
   have HT : Hid (TRow wr q ts) := by
    have h := HO.out
    rw [List.take_of_length_le (by rw [← hem.out]; omega)] at h
    have h2 : wr.ownsRow w.heap.size 9 1 (.slice q i c) ts.length (stv ts) := by rw [← hem.out]; exact h
    obtain ⟨p', c', e, _, _, hr⟩ := owned_texts h2
    cases e
    exact hr
   clear HO CT HC6
   obtain ⟨IT, hIT⟩ : ∃ IT : ByteArray, (⟨(Lib.itoa n).toArray⟩ : ByteArray) = IT := ⟨_, rfl⟩
   have hbq : (⟨#[61, 95]⟩ : ByteArray) ++ IT = br := by rw [← hIT]; exact hbr.out.symm
   have hIs : IT.size ≤ 9 := by
    have := congrArg ByteArray.size hbq
    rw [ByteArray.size_append] at this
    omega
   rw [hIT] at CI
   clear hIT hbr
   go_wp2_with fail
   refine (CL.out wr q c hbr1 HT.out).mono ?_
   rintro e w3 ⟨rfl, hb3⟩
   have hbe3 : Below w.heap.size w w3 := hbr1.trans (hb3.mono hbr1.size)
   have HT3 : Hid (TRow w3 q ts) := HT.out.under hb3
   clear CL HT hb3 hbr1
   go_wp2_with fail
   refine (CI.out _ hbe3).mono ?_
   rintro e w4 ⟨rfl, hb4⟩
   have hbe4 : Below w.heap.size w w4 := hbe3.trans (hb4.mono hbe3.size)
   have HT4 : Hid (TRow w4 q ts) := HT3.out.under hb4
   clear CI HT3 hb4 hbe3
   go_wp2_with fail
   clear hbq
   go_loopw [6, 45] (fun ov iv wr => ∃ (j : Nat) (O : List UInt8), j ≤ i ∧ iv = .int .i64 j ∧ wr.ownsRow w4.heap.size 5 1 ov O.length (bv O) ∧ O.length ≤ 240020 * j ∧ Below w4.heap.size w4 wr ∧ Hid (O = ((ts.take j).map fun t => t.data.toList).flatMap (pieceT br.data.toList))) (fun _ iv _ => i - (intOf iv).toNat)
   case atStart => exact ⟨0, [], Nat.zero_le _, rfl, World.ownsRow_nil _ _ _ _, Nat.zero_le _, Below.refl _ _, rfl⟩
   case round =>
    obtain ⟨j, O, hj, rfl, hown, hO, hbel, HK⟩ := hrel
    have hsz4 := hbel.size
    by_cases hjl : j < i
    ·have hjz : (j : Int) < (i : Int) := by omega
     have hjt : j < ts.length := by rw [← hem.out]; exact hjl
     obtain ⟨b5, o5, rfl, hc5⟩ := HT4.out.under hbel (fun e => by rw [e] at hjt; simp at hjt)
     have hcj := hc5 j hjt
     have hsj : (ts.getD j ⟨#[]⟩).size ≤ 240000 := by
      rw [List.getD_eq_getElem?_getD, List.getElem?_eq_getElem hjt]
      exact hts.out _ (List.getElem_mem hjt)
     have HN : Hid (((ts.take (j + 1)).map fun t => t.data.toList).flatMap (pieceT br.data.toList) = ((ts.take j).map fun t => t.data.toList).flatMap (pieceT br.data.toList) ++ pieceT br.data.toList (ts.getD j ⟨#[]⟩).data.toList) := by
      unfold Hid
      rw [ts_take ts j hjt, List.map_append, List.flatMap_append]
      simp
     clear hc5 hjt
     generalize ts.getD j ⟨#[]⟩ = tx at *
     have hXd : (⟨#[45, 45]⟩ ++ br ++ ⟨#[13, 10]⟩ ++ tx ++ ⟨#[13, 10]⟩ : ByteArray).data.toList = pieceT br.data.toList tx.data.toList := by simp [pieceT, dd, crlf2]
     have hk1 : (ByteArray.mk #[45, 45]).size = 2 := rfl
     have hk2 : (ByteArray.mk #[13, 10]).size = 2 := rfl
     have hXs : (⟨#[45, 45]⟩ ++ br ++ ⟨#[13, 10]⟩ ++ tx ++ ⟨#[13, 10]⟩ : ByteArray).size = br.size + tx.size + 6 := by
      rw [ByteArray.size_append, ByteArray.size_append, ByteArray.size_append, ByteArray.size_append, hk1, hk2]; omega
     go_wp2_with (at_builtin; refine Lib.wpList_append_own_string _ rfl (.tmp 49) (.tmp 55) 22 9 rfl w4.heap.size 5 j0 Tryz.underlying22 Tryz.underlying9 gi gz0 gz1 gz2 _ _ _ rfl hown (⟨#[45, 45]⟩ ++ br ++ ⟨#[13, 10]⟩ ++ tx ++ ⟨#[13, 10]⟩) rfl ?e1 ?e2 ?e3 ?_)
     case e1 => rw [hXs]; unfold maxLen; omega
     case e2 => rw [hXs]; omega
     case e3 => exact hsz4
     intro v2 w2 hown2 hg2 _
     have RB2 : Below w4.heap.size w4 w2 := hbel.grown hg2 hsz4 (fun k hk => (hown.lt k hk).1)
     have R2 : w2.ownsRow w4.heap.size 5 1 v2 (O ++ pieceT br.data.toList tx.data.toList).length (bv (O ++ pieceT br.data.toList tx.data.toList)) := by
      have e2 : (O ++ pieceT br.data.toList tx.data.toList).length = O.length + (br.size + tx.size + 6) := by rw [List.length_append, ← hXd, ← Lib.size_eq, hXs]
      rw [e2, bv_append, ← hXd, ← strCells_bv]
      exact hown2
     have hl2 : (O ++ pieceT br.data.toList tx.data.toList).length ≤ 240020 * (j + 1) := by
      rw [List.length_append, ← hXd, ← Lib.size_eq, hXs]; omega
     clear hg2 hown hown2 hXd hXs hcj
     go_wp2_with fail
     go_roundw
     case rel => exact ⟨j + 1, _, by omega, by go_num, R2, hl2, RB2, by unfold Hid; rw [HN.out, ← HK.out]⟩
     case measure => simp [intOf]; omega
    ·obtain rfl : j = i := by omega
     have hjz : ¬ (j : Int) < (j : Int) := by omega
     obtain ⟨q7, c7, rfl, _, _, hq7, hbr7⟩ := owned_row hown
     have HOE : Hid (ba O = ba ((ts.map fun t => t.data.toList).flatMap (pieceT br.data.toList))) := by
      unfold Hid
      rw [HK.out, List.take_of_length_le (by rw [← hem.out]; omega)]
     have hOs : (ba O).size ≤ 2900000 := by rw [ba_size]; omega
     have hbe7 : Below w.heap.size w wr := hbe4.trans (hbel.mono hbe4.size)
     have hconv : ∀ w', Below wr.heap.size wr w' → (convert 22 9 (.slice q7 O.length c7)).run Tryz.prog w' = .ok (.string (ba O)) w' := fun w' hb => conv_bytes w' q7 _ c7 O rfl (hbr7.under hb) hq7
     have hb0 : Below wr.heap.size wr wr := Below.refl _ _
     have HR2 : Hid (R = HD ++ ba O ++ ⟨#[45, 45]⟩ ++ br ++ ⟨#[45, 45]⟩ ++ ⟨#[13, 10]⟩) := by unfold Hid; rw [hR.out, HOE.out]
     have hk1 : (ByteArray.mk #[45, 45]).size = 2 := rfl
     have hk2 : (ByteArray.mk #[13, 10]).size = 2 := rfl
     clear hown HK HOE hbr7 hR hbel HT4 hbe4 hO
     generalize ba O = OB at *
     generalize O.length = nO at *
     have s1 : ∀ W, (Op.stringOp .add HD OB).run Tryz.prog W = .ok (.string (HD ++ OB)) W := fun W => run_string_add_sum W _ _ (by omega)
     have s2 : ∀ W, (Op.stringOp .add (HD ++ OB) ⟨#[45, 45]⟩).run Tryz.prog W = .ok (.string (HD ++ OB ++ ⟨#[45, 45]⟩)) W := fun W => run_string_add_sum W _ _ (by rw [ByteArray.size_append]; omega)
     have s3 : ∀ W, (Op.stringOp .add (HD ++ OB ++ ⟨#[45, 45]⟩) br).run Tryz.prog W = .ok (.string (HD ++ OB ++ ⟨#[45, 45]⟩ ++ br)) W := fun W => run_string_add_sum W _ _ (by rw [ByteArray.size_append, ByteArray.size_append]; omega)
     have s4 : ∀ W, (Op.stringOp .add (HD ++ OB ++ ⟨#[45, 45]⟩ ++ br) ⟨#[45, 45]⟩).run Tryz.prog W = .ok (.string (HD ++ OB ++ ⟨#[45, 45]⟩ ++ br ++ ⟨#[45, 45]⟩)) W := fun W => run_string_add_sum W _ _ (by rw [ByteArray.size_append, ByteArray.size_append, ByteArray.size_append]; omega)
     have s5 : ∀ W, (Op.stringOp .add (HD ++ OB ++ ⟨#[45, 45]⟩ ++ br ++ ⟨#[45, 45]⟩) ⟨#[13, 10]⟩).run Tryz.prog W = .ok (.string (HD ++ OB ++ ⟨#[45, 45]⟩ ++ br ++ ⟨#[45, 45]⟩ ++ ⟨#[13, 10]⟩)) W := fun W => run_string_add_sum W _ _ (by rw [ByteArray.size_append, ByteArray.size_append, ByteArray.size_append, ByteArray.size_append]; omega)
     go_wp2_with fail
     go_region_held3 (fun w' => Below wr.heap.size wr w') (first | assumption | exact hb0.drew) (first
      | (go_at_call 58; refine (CH.out _ hbe7.drew).mono ?_; rintro e w8 ⟨rfl, hb8⟩; have hbe8 : Below wr.heap.size wr w8 := (hb0.drew).trans (hb8.mono (Nat.le_refl _)); clear hb8))
     go_wp2_with fail
     go_ret
     exact ⟨by rw [HR2.out]; rfl, hbe7.trans (hbe8.mono hbe7.size)⟩
end Go.Proofs.YtlndhdimamnnlaaGreatDoor



namespace Go.Proofs.YtlndhdimamnnlaaGreatDoor
open Go.RowKit
theorem pcheck_any (p : PT) (pb : Option Addr) (cb : Nat) (pk : Option Addr) (ck F : Nat) (w : World) (hH : PHeld w F p pb cb pk ck) :
  Calls Tryz.prog 23 #[.agg #[.string p.ty, .string p.cs, .string p.id, .string p.loc, .int .i64 p.how, .slice pb p.body.length cb, .slice pk p.kids.length ck]] w fun e w' => e = .returned (.int .i64 ((placesP p).1 : Nat)) ∧ Below w.heap.size w w' := by
 have CC : Hid (∀ w', Below w.heap.size w w' → Calls Tryz.prog 56 #[.agg #[.string p.ty, .string p.cs, .string p.id, .string p.loc, .int .i64 p.how, .slice pb p.body.length cb, .slice pk p.kids.length ck]] w' fun e w'' => CheckedPost w' (placesP p) e w'') := fun w' hb => checked_any p pb cb pk ck F w' (hH.below hb)
 generalize placesP p = R at *
 clear hH
 go_enter Tryz.func23, Tryz.ntmps23
 go_wp2_with fail
 refine (CC.out _ ((Below.refl _ _).alloc (Nat.le_refl _) _)).mono ?_
 rintro e w1 ⟨hb1, h1, h2⟩
 have hbel := ((Below.refl _ w).alloc (Nat.le_refl _) _).trans (hb1.mono (by simp))
 by_cases hr : R.1 = 0
 ·obtain ⟨q, c, X, rfl, _, _⟩ := h2 hr
  have HR : Hid (R.1 = 0) := hr
  clear h1 h2 hr CC
  go_wp2_with fail
  go_ret
  exact ⟨by rw [HR.out]; rfl, hbel⟩
 ·obtain rfl := h1 hr
  clear h1 h2 CC
  obtain ⟨r, hrr⟩ : ∃ r, R.1 = r := ⟨_, rfl⟩
  have HR : Hid (R.1 = r) := hrr
  simp only [hrr]
  clear hrr hr
  go_wp2_with fail
  go_ret
  exact ⟨by rw [HR.out]; rfl, hbel⟩
end Go.Proofs.YtlndhdimamnnlaaGreatDoor

