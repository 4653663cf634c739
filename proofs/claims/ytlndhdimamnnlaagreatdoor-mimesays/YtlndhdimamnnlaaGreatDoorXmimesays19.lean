
import Derived.Test.YtlndhdimamnnlaaGreatDoorXmimesays17
import Derived.Lib.OthersKept
import Derived.ScopeJumps
import Derived.WalkMore
namespace Go.Proofs.YtlndhdimamnnlaaGreatDoor
open Go.RowKit Go.Lib
theorem ex_drop (s : ByteArray) (i : Nat) : (s.extract i s.size).data.toList = s.data.toList.drop i := by
 rw [Lib.extract_data, List.take_of_length_le (by rw [List.length_drop, ← Lib.size_eq]; omega)]
theorem ex_size (s : ByteArray) (i : Nat) : (s.extract i s.size).size = s.size - i := by
 rw [Lib.size_eq, ex_drop, List.length_drop, ← Lib.size_eq]
theorem decGo (T : ByteArray) (h : T.size ≠ 0) : decodeGo T = decodeL T.data.toList := by
 unfold decodeGo
 rw [if_neg h]
 rfl
theorem lastF_stop (h r a b : Nat) (hc : ¬ (r ≠ a ∧ r < b)) : lastF h r a b = r := by
 cases h with
 | zero => rfl
 | succ h => rw [lastF, if_neg hc]
theorem lastF_go (h r a b : Nat) (hc : r ≠ a ∧ r < b) : lastF (h + 1) r a b = lastF h (sfold r) a b := by rw [lastF, if_pos hc]
theorem itF_in (a : Nat) (ha : a ≤ 1114111) : ∀ k, itF k a ≤ 1114111
 | 0 => ha
 | k + 1 => sfold_in _ (itF_in a ha k)
theorem eqRune_same (a : Nat) : eqRune a a = true := by rw [eqRune, if_pos rfl]
theorem eqRune_lt (a b : Nat) (h : b < a) : eqRune a b = twoR b a := by rw [eqRune, if_neg (by omega), if_pos h]
theorem eqRune_gt (a b : Nat) (h : a < b) : eqRune a b = twoR a b := by rw [eqRune, if_neg (by omega), if_neg (by omega)]
theorem twoR_low (a b : Nat) (h : b < 128) : twoR a b = decide (65 ≤ a ∧ a ≤ 90 ∧ b = a + 32) := by rw [twoR, if_pos h]
theorem twoR_far (a b : Nat) (h : ¬ b < 128) : twoR a b = decide (lastF 3 (sfold a) a b = b) := by rw [twoR, if_neg h]
theorem arr_form (tm : Array Value) (hs : tm.size = 123) : tm = #[tm.getD 0 undef, tm.getD 1 undef, tm.getD 2 undef, tm.getD 3 undef, tm.getD 4 undef, tm.getD 5 undef, tm.getD 6 undef, tm.getD 7 undef, tm.getD 8 undef, tm.getD 9 undef, tm.getD 10 undef, tm.getD 11 undef, tm.getD 12 undef, tm.getD 13 undef, tm.getD 14 undef, tm.getD 15 undef, tm.getD 16 undef, tm.getD 17 undef, tm.getD 18 undef, tm.getD 19 undef, tm.getD 20 undef, tm.getD 21 undef, tm.getD 22 undef, tm.getD 23 undef, tm.getD 24 undef, tm.getD 25 undef, tm.getD 26 undef, tm.getD 27 undef, tm.getD 28 undef, tm.getD 29 undef, tm.getD 30 undef, tm.getD 31 undef, tm.getD 32 undef, tm.getD 33 undef, tm.getD 34 undef, tm.getD 35 undef, tm.getD 36 undef, tm.getD 37 undef, tm.getD 38 undef, tm.getD 39 undef, tm.getD 40 undef, tm.getD 41 undef, tm.getD 42 undef, tm.getD 43 undef, tm.getD 44 undef, tm.getD 45 undef, tm.getD 46 undef, tm.getD 47 undef, tm.getD 48 undef, tm.getD 49 undef, tm.getD 50 undef, tm.getD 51 undef, tm.getD 52 undef, tm.getD 53 undef, tm.getD 54 undef, tm.getD 55 undef, tm.getD 56 undef, tm.getD 57 undef, tm.getD 58 undef, tm.getD 59 undef, tm.getD 60 undef, tm.getD 61 undef, tm.getD 62 undef, tm.getD 63 undef, tm.getD 64 undef, tm.getD 65 undef, tm.getD 66 undef, tm.getD 67 undef, tm.getD 68 undef, tm.getD 69 undef, tm.getD 70 undef, tm.getD 71 undef, tm.getD 72 undef, tm.getD 73 undef, tm.getD 74 undef, tm.getD 75 undef, tm.getD 76 undef, tm.getD 77 undef, tm.getD 78 undef, tm.getD 79 undef, tm.getD 80 undef, tm.getD 81 undef, tm.getD 82 undef, tm.getD 83 undef, tm.getD 84 undef, tm.getD 85 undef, tm.getD 86 undef, tm.getD 87 undef, tm.getD 88 undef, tm.getD 89 undef, tm.getD 90 undef, tm.getD 91 undef, tm.getD 92 undef, tm.getD 93 undef, tm.getD 94 undef, tm.getD 95 undef, tm.getD 96 undef, tm.getD 97 undef, tm.getD 98 undef, tm.getD 99 undef, tm.getD 100 undef, tm.getD 101 undef, tm.getD 102 undef, tm.getD 103 undef, tm.getD 104 undef, tm.getD 105 undef, tm.getD 106 undef, tm.getD 107 undef, tm.getD 108 undef, tm.getD 109 undef, tm.getD 110 undef, tm.getD 111 undef, tm.getD 112 undef, tm.getD 113 undef, tm.getD 114 undef, tm.getD 115 undef, tm.getD 116 undef, tm.getD 117 undef, tm.getD 118 undef, tm.getD 119 undef, tm.getD 120 undef, tm.getD 121 undef, tm.getD 122 undef] := by
 have h : tm.toList = (List.range tm.size).map (fun k => tm.getD k undef) := by
  refine List.ext_getElem (by simp) fun k h1 h2 => ?_
  have hk : k < tm.size := by simpa using h1
  simp [Array.getD, hk]
 rw [hs] at h
 exact Array.toList_inj.1 (h.trans rfl)
theorem act_form (a : Act) (s t : ByteArray) (i : Int) (hd : a.defers = []) (hs : a.tmps.size = 123) (h0 : a.tmps.getD 0 undef = .string s) (h1 : a.tmps.getD 1 undef = .string t) (h5 : a.tmps.getD 5 undef = .int .i64 i) :
  ∃ f : Nat → Value, a = { tmps := #[.string s, .string t, f 2, f 3, f 4, .int .i64 i, f 6, f 7, f 8, f 9, f 10, f 11, f 12, f 13, f 14, f 15, f 16, f 17, f 18, f 19, f 20, f 21, f 22, f 23, f 24, f 25, f 26, f 27, f 28, f 29, f 30, f 31, f 32, f 33, f 34, f 35, f 36, f 37, f 38, f 39, f 40, f 41, f 42, f 43, f 44, f 45, f 46, f 47, f 48, f 49, f 50, f 51, f 52, f 53, f 54, f 55, f 56, f 57, f 58, f 59, f 60, f 61, f 62, f 63, f 64, f 65, f 66, f 67, f 68, f 69, f 70, f 71, f 72, f 73, f 74, f 75, f 76, f 77, f 78, f 79, f 80, f 81, f 82, f 83, f 84, f 85, f 86, f 87, f 88, f 89, f 90, f 91, f 92, f 93, f 94, f 95, f 96, f 97, f 98, f 99, f 100, f 101, f 102, f 103, f 104, f 105, f 106, f 107, f 108, f 109, f 110, f 111, f 112, f 113, f 114, f 115, f 116, f 117, f 118, f 119, f 120, f 121, f 122], defers := [] } := by
 refine ⟨fun k => a.tmps.getD k undef, ?_⟩
 rw [← h0, ← h1, ← h5]
 obtain ⟨tm, df⟩ := a
 simp only at hd hs
 subst hd
 exact congrArg (fun x => ({ tmps := x, defers := [] } : Act)) (arr_form tm hs)
def AtJump (s t : ByteArray) (ANS : Bool) (w : World) (a : Act) (w' : World) : Prop :=
 w = w' ∧ a.defers = [] ∧ a.tmps.size = 123 ∧ ∃ i : Nat, a.tmps.getD 0 undef = .string s ∧ a.tmps.getD 1 undef = .string t ∧ a.tmps.getD 5 undef = .int .i64 (i : Int) ∧ i ≤ s.size ∧ i ≤ t.size ∧ Hid (foldL (s.size - i + 1) (s.data.toList.drop i) (t.data.toList.drop i) = ANS)
set_option maxHeartbeats 16000000 in
set_option maxRecDepth 1000000 in
theorem efold_any (s t : ByteArray) (w : World) (hs : s.size ≤ maxLen) (ht : t.size ≤ maxLen) (hT : FoldTabs w) (hU : Lib.Utf8Tabs 6 7 w) :
    Calls Tryz.prog 83 #[.string s, .string t] w fun e w' => e = .returned (.bool (eqF s.data.toList t.data.toList)) ∧ Below w.heap.size w w' := by
  unfold maxLen at hs ht
  have HU : Hid (∀ w2, Below w.heap.size w w2 → Lib.Utf8Tabs 6 7 w2) := fun w2 hb => Utf8Tabs_below hU hb
  have cS : Hid (∀ r : Nat, r ≤ 1114111 → ∀ w2, Below w.heap.size w w2 → Calls Tryz.prog 131 #[.int .i32 (r : Int)] w2 fun e w' => e = .returned (.int .i32 (sfold r : Nat)) ∧ Below w2.heap.size w2 w') := fun r hr w2 hb => sfold_any r hr w2 (hT.below hb)
  clear hT hU
  obtain ⟨ANS, hANS⟩ : ∃ A, eqF s.data.toList t.data.toList = A := ⟨_, rfl⟩
  rw [hANS]
  have HA : Hid (eqF s.data.toList t.data.toList = ANS) := hANS
  clear hANS
  obtain ⟨M, hM⟩ : ∃ M : Nat, min (s.size : Int) (t.size : Int) = (M : Int) := ⟨min s.size t.size, by omega⟩
  have hMs : M ≤ s.size := by omega
  have hMt : M ≤ t.size := by omega
  have hMe : M = s.size ∨ M = t.size := by omega
  go_enter Tryz.func83, Tryz.ntmps83
  go_wp2
  refine wp_scope_jumps 0 (AtJump s t ANS w) (fun _ _ => 0) rfl ?_ ?_
  · go_wp2
    go_loopg [5] M (fun g s5 wx => w = wx ∧ ∃ i : Nat, i + g = M ∧ s5 = .int .i64 i ∧ Hid (eqF (s.data.toList.drop i) (t.data.toList.drop i) = ANS))
    case atStart => exact ⟨rfl, 0, by omega, rfl, HA⟩
    case round =>
      obtain ⟨rfl, i, hig, rfl, HI⟩ := hrel
      clear hM
      cases gk with
      | zero =>
        have hiM : ¬ ((i : Int) < (M : Int)) := by omega
        obtain rfl : i = M := by omega
        have HE : Hid (ANS = decide (s.size = t.size)) := by
          unfold Hid
          rw [← HI.out, eqF_end _ _ (by
            rcases hMe with h | h
            · exact Or.inl (List.drop_eq_nil_of_le (by rw [← Lib.size_eq]; omega))
            · exact Or.inr (List.drop_eq_nil_of_le (by rw [← Lib.size_eq]; omega))), List.length_drop, List.length_drop, ← Lib.size_eq, ← Lib.size_eq]
          exact decide_eq_decide.2 (by omega)
        by_cases hst : s.size = t.size
        · have hb : ((s.size : Int) == (t.size : Int)) = true := beq_iff_eq.2 (by omega)
          have HE2 : Hid (ANS = true) := by unfold Hid; rw [HE.out]; exact decide_eq_true hst
          clear HE HI hst
          go_wp2
          simp only [Exit.jump]
          go_ret
          exact ⟨by rw [HE2.out]; rfl, Below.refl _ _⟩
        · have hb : ((s.size : Int) == (t.size : Int)) = false := beq_eq_false_iff_ne.2 (by omega)
          have HE2 : Hid (ANS = false) := by unfold Hid; rw [HE.out]; exact decide_eq_false hst
          clear HE HI hst
          go_wp2
          simp only [Exit.jump]
          go_ret
          exact ⟨by rw [HE2.out]; rfl, Below.refl _ _⟩
      | succ g =>
        have hiM : (i : Int) < (M : Int) := by omega
        have hisz : (i : Int) < (s.size : Int) := by omega
        have hitz : (i : Int) < (t.size : Int) := by omega
        obtain ⟨x, hx⟩ : ∃ x : UInt8, s[i]'(by omega) = x := ⟨_, rfl⟩
        obtain ⟨y, hy⟩ : ∃ y : UInt8, t[i]'(by omega) = y := ⟨_, rfl⟩
        have hxl : s.data.toList[i]? = some x := by rw [← hx]; exact Lib.data_getElem? s i (by omega)
        have hyl : t.data.toList[i]? = some y := by rw [← hy]; exact Lib.data_getElem? t i (by omega)
        have hx256 := UInt8.toNat_lt x
        have hy256 := UInt8.toNat_lt y
        have hor : bits .or .u8 (x.toNat : Int) (y.toNat : Int) = ((x.toNat ||| y.toNat : Nat) : Int) := u8_or_nat _ _ (by omega) (by omega)
        have HX : Hid (s.data.toList.drop i = x :: s.data.toList.drop (i + 1)) := Lib.drop_at hxl
        have HY : Hid (t.data.toList.drop i = y :: t.data.toList.drop (i + 1)) := Lib.drop_at hyl
        clear hxl hyl
        by_cases h128 : 128 ≤ (x.toNat ||| y.toNat)
        · have hz : (128 : Int) ≤ ((x.toNat ||| y.toNat : Nat) : Int) := by omega
          have HF : Hid (foldL (s.size - i + 1) (s.data.toList.drop i) (t.data.toList.drop i) = ANS) := by
            unfold Hid
            rw [← HI.out, HX.out, HY.out, eqF_far x y _ _ h128, List.length_drop, ← Lib.size_eq, show s.size - (i + 1) + 2 = s.size - i + 1 from by omega]
          clear h128 HI HX HY
          go_wp2
          go_step3
          exact ⟨rfl, rfl, rfl, rfl, i, rfl, rfl, rfl, by omega, by omega, HF⟩
        · have hz : ¬ ((128 : Int) ≤ ((x.toNat ||| y.toNat : Nat) : Int)) := by omega
          have hx128 : x.toNat < 128 := by have := Nat.left_le_or (n := x.toNat) (m := y.toNat); omega
          have hy128 : y.toNat < 128 := by have := Nat.right_le_or (n := x.toNat) (m := y.toNat); omega
          have HYes : Hid (eqByte x.toNat y.toNat = true → eqF (s.data.toList.drop (i + 1)) (t.data.toList.drop (i + 1)) = ANS) := fun h => by rw [← HI.out, HX.out, HY.out, eqF_yes x y _ _ h128 h]
          have HNo : Hid (eqByte x.toNat y.toNat = false → ANS = false) := fun h => by rw [← HI.out, HX.out, HY.out, eqF_no x y _ _ h128 h]
          clear h128 HI HX HY
          go_wp2
          all_goals (try simp only [beq_iff_eq, beq_eq_false_iff_ne, ne_eq] at *)
          all_goals first
            | (go_roundg g
               case measure => omega
               case rel => exact ⟨rfl, i + 1, by omega, by first | rfl | simp, HYes.out (by unfold eqByte; simp; omega)⟩)
            | (simp only [Exit.jump]
               go_ret
               refine ⟨?_, Below.refl _ _⟩
               rw [HNo.out (by unfold eqByte; simp; omega)]; rfl)
  · rintro a' w' ⟨rfl, hd, hs0, i, h0, h1, h5, his, hit, HF⟩
    obtain ⟨f, hf⟩ := act_form a' s t i hd hs0 h0 h1 h5
    clear hd hs0 h0 h1 h5
    subst hf
    obtain ⟨S, hS⟩ : ∃ S, s.extract i s.size = S := ⟨_, rfl⟩
    obtain ⟨T0, hT0⟩ : ∃ T0, t.extract i t.size = T0 := ⟨_, rfl⟩
    have hSl : S.data.toList = s.data.toList.drop i := by rw [← hS]; exact ex_drop s i
    have hTl : T0.data.toList = t.data.toList.drop i := by rw [← hT0]; exact ex_drop t i
    have hSz : S.size = s.size - i := by rw [← hS]; exact ex_size s i
    have hTz : T0.size = t.size - i := by rw [← hT0]; exact ex_size t i
    rw [← hSl, ← hTl, ← hSz] at HF
    have hisz : (i : Int) ≤ (s.size : Int) := by omega
    have hitz : (i : Int) ≤ (t.size : Int) := by omega
    have HSS : Hid (S.size ≤ 9223372036854775807) := by unfold Hid; omega
    have HTT : Hid (T0.size ≤ 9223372036854775807) := by unfold Hid; omega
    clear hSl hTl hSz hTz hM
    go_wp2
    go_loopg [1] (S.size + 1) (fun g s1 wx => ∃ (pos : Nat) (T : ByteArray), s1 = .string T ∧ wx.heap[w.heap.size]? = some (.stringIter S pos) ∧ Below w.heap.size w wx ∧ pos ≤ S.size ∧ S.size - pos < g ∧ Hid (foldL g (S.data.toList.drop pos) T.data.toList = ANS))
    case atStart =>
      refine ⟨0, T0, rfl, World.iter_heap w S 0, (Below.refl _ w).alloc (Nat.le_refl _) _, Nat.zero_le _, by omega, ?_⟩
      exact HF
    case round =>
      obtain ⟨pos, T, rfl, hitr, hbel, hps, hg, HI⟩ := hrel
      clear hS hT0 HF
      obtain ⟨g', rfl⟩ : ∃ g', gk = g' + 1 := ⟨gk - 1, by omega⟩
      have hwr : w.heap.size < wr.heap.size := (Array.getElem?_eq_some_iff.1 hitr).1
      by_cases hlt : pos < S.size
      · have hnx : ∀ ty, (Instr.next (.pointer (some ⟨w.heap.size, 0, none⟩)) true ty).run Tryz.prog wr = _ := fun ty => Lib.run_next_any_at wr w.heap.size S pos ty hitr hlt
        have hne : S.data.toList.drop pos ≠ [] := by
          intro h0
          have := congrArg List.length h0
          rw [List.length_drop, ← Lib.size_eq] at this
          simp at this
          omega
        have hwd := Lib.width_pos S pos
        have hwn : pos + (Utf8.decode S pos).2 ≤ S.size := by
          have := Lib.decodeL_le _ hne
          rw [Lib.decodeL_drop, List.length_drop, ← Lib.size_eq] at this
          omega
        have hrl := Lib.rune_le S pos
        have hst := fun h => foldL_step g' (S.data.toList.drop pos) T.data.toList hne h
        rw [Lib.decodeL_drop] at hst
        have hsh := foldL_short g' (S.data.toList.drop pos) hne
        obtain ⟨R, hR⟩ : ∃ R, (Utf8.decode S pos).1 = R := ⟨_, rfl⟩
        obtain ⟨K, hK⟩ : ∃ K, (Utf8.decode S pos).2 = K := ⟨_, rfl⟩
        rw [hR, hK] at hnx hst
        rw [hK] at hwd hwn
        rw [hR] at hrl
        have hit2 := Lib.iterAt_heap wr w.heap.size S pos (pos + K) hitr
        have hbA := Lib.below_iterAt hbel (k := w.heap.size) (Nat.le_refl _) S (pos + K)
        have hsA : w.heap.size + 1 ≤ (wr.iterAt w.heap.size S (pos + K)).heap.size := by rw [Lib.iterAt_size]; omega
        obtain ⟨W, hWd⟩ : ∃ W, wr.iterAt w.heap.size S (pos + K) = W := ⟨_, rfl⟩
        rw [hWd] at hnx hit2 hbA hsA
        clear hitr hbel hWd hR hK hne
        by_cases hT0 : T.size = 0
        · have hTn : T.data.toList = [] := List.eq_nil_of_length_eq_zero (by rw [← Lib.size_eq]; exact hT0)
          have HN : Hid (ANS = false) := by unfold Hid; rw [← HI.out, hTn, hsh]
          have hTz : ((T.size : Int) == 0) = true := beq_iff_eq.2 (by omega)
          clear HI hst hsh hTn
          go_wp2
          simp only [Exit.jump]
          go_ret
          exact ⟨by rw [HN.out]; rfl, hbA⟩
        · have hTn : T.data.toList ≠ [] := fun h => hT0 (by rw [Lib.size_eq, h]; rfl)
          have hTz : ¬ ((T.size : Int) = 0) := by omega
          have CD : Hid (∀ w2, Below w.heap.size w w2 → w.heap.size + 1 ≤ w2.heap.size → Calls Tryz.prog 130 #[.string T] w2 fun e w' => e = .returned (.tuple #[.int .i32 (Lib.decodeGo T).1, .int .i64 (Lib.decodeGo T).2]) ∧ Below w2.heap.size w2 w') := fun w2 hb _ => Tryz.utf8_DecodeRuneInString T w2 (HU.out _ hb)
          have hd2 := Lib.decodeL_le _ hTn
          rw [← Lib.size_eq] at hd2
          have hd3 : 1 ≤ (decodeL T.data.toList).2 := Lib.width_pos _ 0
          have hd4 : (decodeL T.data.toList).1 ≤ 1114111 := Lib.rune_le _ 0
          have hst2 := hst hTn
          rw [decGo T hT0] at CD
          obtain ⟨R2, hR2⟩ : ∃ R2, (decodeL T.data.toList).1 = R2 := ⟨_, rfl⟩
          obtain ⟨K2, hK2⟩ : ∃ K2, (decodeL T.data.toList).2 = K2 := ⟨_, rfl⟩
          rw [hR2, hK2] at CD hst2
          rw [hK2] at hd2 hd3
          rw [hR2] at hd4
          obtain ⟨T', hT'⟩ : ∃ T', T.extract K2 T.size = T' := ⟨_, rfl⟩
          have hTl : T'.data.toList = T.data.toList.drop K2 := by rw [← hT']; exact ex_drop T K2
          have hk2z : (K2 : Int) ≤ (T.size : Int) := by omega
          rw [List.drop_drop, ← hTl] at hst2
          have HY : Hid (eqRune R R2 = true → foldL g' (S.data.toList.drop (pos + K)) T'.data.toList = ANS) := fun h => by rw [← HI.out, hst2, if_pos h]
          have HN : Hid (eqRune R R2 = false → ANS = false) := fun h => by rw [← HI.out, hst2, if_neg (by rw [h]; decide)]
          clear HI hst hst2 hsh hTn hR2 hK2 hTl hT0
          rcases Nat.lt_trichotomy R2 R with hlt2 | heq2 | hlt2
          · have hz1 : ¬ ((R2 : Int) = (R : Int)) := by omega
            have hz2 : (R2 : Int) < (R : Int) := by omega
            by_cases hlow : R < 128
            · have hlz : ((R : Nat) : Int) < 128 := by omega
              have HY2 : Hid (65 ≤ R2 ∧ R2 ≤ 90 ∧ R = R2 + 32 → foldL g' (S.data.toList.drop (pos + K)) T'.data.toList = ANS) := fun h => HY.out (by rw [eqRune_lt _ _ hlt2, twoR_low _ _ hlow]; exact decide_eq_true h)
              have HN2 : Hid (¬ (65 ≤ R2 ∧ R2 ≤ 90 ∧ R = R2 + 32) → ANS = false) := fun h => HN.out (by rw [eqRune_lt _ _ hlt2, twoR_low _ _ hlow]; exact decide_eq_false h)
              clear HY HN cS
              go_wp2_with fail
              refine (CD.out _ hbA hsA).mono ?_
              rintro e W2 ⟨rfl, hb2⟩
              have hit3 := (hb2.block w.heap.size (by omega)).trans hit2
              have hbel3 := hbA.trans (hb2.mono (by have := hbA.size; omega))
              go_wp2
              all_goals (try simp only [beq_iff_eq, beq_eq_false_iff_ne, ne_eq] at *)
              all_goals first
                | (go_roundg g'
                   case measure => omega
                   case rel => exact ⟨pos + K, T', rfl, hit3, hbel3, by omega, by omega, HY2.out (by omega)⟩)
                | (simp only [Exit.jump]
                   go_ret
                   refine ⟨?_, hbel3⟩
                   rw [HN2.out (by omega)]; rfl)
            · have hlz : ¬ (((R : Nat) : Int) < 128) := by omega
              have HY2 : Hid (lastF 3 (sfold R2) R2 R = R → foldL g' (S.data.toList.drop (pos + K)) T'.data.toList = ANS) := fun h => HY.out (by rw [eqRune_lt _ _ hlt2, twoR_far _ _ hlow]; exact decide_eq_true h)
              have HN2 : Hid (¬ lastF 3 (sfold R2) R2 R = R → ANS = false) := fun h => HN.out (by rw [eqRune_lt _ _ hlt2, twoR_far _ _ hlow]; exact decide_eq_false h)
              clear HY HN
              have hs1 := sfold_in R2 (by omega)
              go_wp2_with fail
              refine (CD.out _ hbA hsA).mono ?_
              rintro e W2 ⟨rfl, hb2⟩
              have hit3 := (hb2.block w.heap.size (by omega)).trans hit2
              have hbel3 := hbA.trans (hb2.mono (by have := hbA.size; omega))
              have hs3 : w.heap.size + 1 ≤ W2.heap.size := by have := hb2.size; omega
              go_wp2_with fail
              refine (cS.out R2 (by omega) _ hbel3).mono ?_
              rintro e W3 ⟨rfl, hb3⟩
              have hit4 := (hb3.block w.heap.size (by omega)).trans hit3
              have hbel4 := hbel3.trans (hb3.mono (by omega))
              have hs4 : w.heap.size + 1 ≤ W3.heap.size := by have := hb3.size; omega
              clear hit2 hit3 hb2 hb3 hbA hsA CD
              go_wp2_with fail
              go_loopg [13] 3 (fun h s13 wy => ∃ r : Nat, s13 = .int .i32 (r : Int) ∧ h ≤ 3 ∧ Hid (r = itF (4 - h) R2) ∧ Hid (∀ j, 1 ≤ j → j < 4 - h → itF j R2 ≠ R2) ∧ Hid (lastF h r R2 R = lastF 3 (sfold R2) R2 R) ∧ wy.heap[w.heap.size]? = some (.stringIter S (pos + K)) ∧ Below w.heap.size w wy ∧ w.heap.size + 1 ≤ wy.heap.size)
              case atStart => exact ⟨sfold R2, rfl, Nat.le_refl _, rfl, (fun j h1 h2 => by omega), rfl, hit4, hbel4, hs4⟩
              case round =>
                obtain ⟨r, rfl, hh3, HR, HJ, HL, hit5, hbel5, hs5⟩ := hrel
                have hrin : r ≤ 1114111 := by rw [HR.out]; exact itF_in _ (by omega) _
                by_cases hc : r ≠ R2 ∧ r < R
                · obtain ⟨h', rfl⟩ : ∃ h', gk = h' + 1 := by
                    cases gk with
                    | zero => exact absurd (HR.out.trans (itF_back _ (HJ.out 1 (by omega) (by omega)) (HJ.out 2 (by omega) (by omega)) (HJ.out 3 (by omega) (by omega)))) hc.1
                    | succ n => exact ⟨n, rfl⟩
                  have h1 : ¬ ((r : Int) = ((R2 : Nat) : Int)) := by have := hc.1; omega
                  have h2 : (r : Int) < ((R : Nat) : Int) := by omega
                  have HR2 : Hid (sfold r = itF (4 - h') R2) := by unfold Hid; rw [HR.out, show 4 - h' = (4 - (h' + 1)) + 1 from by omega]; rfl
                  have HJ2 : Hid (∀ j, 1 ≤ j → j < 4 - h' → itF j R2 ≠ R2) := fun j j1 j2 => by
                    by_cases hj : j = 4 - (h' + 1)
                    · rw [hj, ← HR.out]; exact hc.1
                    · exact HJ.out j j1 (by omega)
                  have HL2 : Hid (lastF h' (sfold r) R2 R = lastF 3 (sfold R2) R2 R) := by unfold Hid; rw [← HL.out, lastF_go _ _ _ _ hc]
                  clear HR HJ HL hc
                  go_wp2_with fail
                  refine (cS.out r hrin _ hbel5).mono ?_
                  rintro e W5 ⟨rfl, hb5⟩
                  have hit6 := (hb5.block w.heap.size (by omega)).trans hit5
                  have hbel6 := hbel5.trans (hb5.mono (by omega))
                  have hs6 : w.heap.size + 1 ≤ W5.heap.size := by have := hb5.size; omega
                  go_wp2_with fail
                  go_roundg h'
                  case measure => omega
                  case rel => exact ⟨sfold r, rfl, by omega, HR2, HJ2, HL2, hit6, hbel6, hs6⟩
                · have HL2 : Hid (lastF 3 (sfold R2) R2 R = r) := by unfold Hid; rw [← HL.out, lastF_stop _ _ _ _ hc]
                  have HYr : Hid (r = R → foldL g' (S.data.toList.drop (pos + K)) T'.data.toList = ANS) := fun h => HY2.out (by rw [HL2.out, h])
                  have HNr : Hid (¬ r = R → ANS = false) := fun h => HN2.out (by rw [HL2.out]; exact h)
                  have hcc : r = R2 ∨ (¬ r = R2 ∧ ¬ r < R) := by omega
                  clear HR HJ HL HL2 HY2 HN2 hc cS
                  rcases hcc with hra | ⟨hra, hrb⟩
                  · have hraz : (r : Int) = ((R2 : Nat) : Int) := by omega
                    subst hra
                    go_wp2
                    all_goals (try simp only [beq_eq_false_iff_ne, ne_eq] at *)
                    all_goals first
                      | (simp only [Exit.jump]
                         go_ret
                         refine ⟨?_, hbel5⟩
                         rw [HNr.out (by omega)]; rfl)
                      | (exfalso; omega)
                  · have h1 : ¬ ((r : Int) = ((R2 : Nat) : Int)) := by omega
                    have h2 : ¬ ((r : Int) < ((R : Nat) : Int)) := by omega
                    by_cases hrb2 : r = R
                    · have HYd : Hid (foldL g' (S.data.toList.drop (pos + K)) T'.data.toList = ANS) := HYr.out hrb2
                      clear HYr HNr
                      have hbb : ((r : Int) == ((R : Nat) : Int)) = true := beq_iff_eq.2 (by omega)
                      go_wp2
                      go_roundg g'
                      case measure => omega
                      case rel => exact ⟨pos + K, T', rfl, hit5, hbel5, by omega, by omega, HYd⟩
                    · have HNd : Hid (ANS = false) := HNr.out hrb2
                      clear HYr HNr
                      have hbb : ¬ ((r : Int) = ((R : Nat) : Int)) := by omega
                      go_wp2
                      simp only [Exit.jump]
                      go_ret
                      exact ⟨by rw [HNd.out]; rfl, hbel5⟩
          · have HYd : Hid (foldL g' (S.data.toList.drop (pos + K)) T'.data.toList = ANS) := HY.out (by rw [heq2]; exact eqRune_same R)
            have hz1 : ((R2 : Int) == (R : Int)) = true := beq_iff_eq.2 (by omega)
            subst heq2
            clear HY HN
            go_wp2_with fail
            refine (CD.out _ hbA hsA).mono ?_
            rintro e W2 ⟨rfl, hb2⟩
            have hit3 := (hb2.block w.heap.size (by omega)).trans hit2
            have hbel3 := hbA.trans (hb2.mono (by omega))
            go_wp2
            go_roundg g'
            case measure => omega
            case rel => exact ⟨pos + K, T', rfl, hit3, hbel3, by omega, by omega, HYd⟩
          · have hz1 : ¬ ((R2 : Int) = (R : Int)) := by omega
            have hz2 : ¬ ((R2 : Int) < (R : Int)) := by omega
            by_cases hlow : R2 < 128
            · have hlz : ((R2 : Nat) : Int) < 128 := by omega
              have HY2 : Hid (65 ≤ R ∧ R ≤ 90 ∧ R2 = R + 32 → foldL g' (S.data.toList.drop (pos + K)) T'.data.toList = ANS) := fun h => HY.out (by rw [eqRune_gt _ _ hlt2, twoR_low _ _ hlow]; exact decide_eq_true h)
              have HN2 : Hid (¬ (65 ≤ R ∧ R ≤ 90 ∧ R2 = R + 32) → ANS = false) := fun h => HN.out (by rw [eqRune_gt _ _ hlt2, twoR_low _ _ hlow]; exact decide_eq_false h)
              clear HY HN cS
              go_wp2_with fail
              refine (CD.out _ hbA hsA).mono ?_
              rintro e W2 ⟨rfl, hb2⟩
              have hit3 := (hb2.block w.heap.size (by omega)).trans hit2
              have hbel3 := hbA.trans (hb2.mono (by have := hbA.size; omega))
              go_wp2
              all_goals (try simp only [beq_iff_eq, beq_eq_false_iff_ne, ne_eq] at *)
              all_goals first
                | (go_roundg g'
                   case measure => omega
                   case rel => exact ⟨pos + K, T', rfl, hit3, hbel3, by omega, by omega, HY2.out (by omega)⟩)
                | (simp only [Exit.jump]
                   go_ret
                   refine ⟨?_, hbel3⟩
                   rw [HN2.out (by omega)]; rfl)
            · have hlz : ¬ (((R2 : Nat) : Int) < 128) := by omega
              have HY2 : Hid (lastF 3 (sfold R) R R2 = R2 → foldL g' (S.data.toList.drop (pos + K)) T'.data.toList = ANS) := fun h => HY.out (by rw [eqRune_gt _ _ hlt2, twoR_far _ _ hlow]; exact decide_eq_true h)
              have HN2 : Hid (¬ lastF 3 (sfold R) R R2 = R2 → ANS = false) := fun h => HN.out (by rw [eqRune_gt _ _ hlt2, twoR_far _ _ hlow]; exact decide_eq_false h)
              clear HY HN
              have hs1 := sfold_in R (by omega)
              go_wp2_with fail
              refine (CD.out _ hbA hsA).mono ?_
              rintro e W2 ⟨rfl, hb2⟩
              have hit3 := (hb2.block w.heap.size (by omega)).trans hit2
              have hbel3 := hbA.trans (hb2.mono (by have := hbA.size; omega))
              have hs3 : w.heap.size + 1 ≤ W2.heap.size := by have := hb2.size; omega
              go_wp2_with fail
              refine (cS.out R (by omega) _ hbel3).mono ?_
              rintro e W3 ⟨rfl, hb3⟩
              have hit4 := (hb3.block w.heap.size (by omega)).trans hit3
              have hbel4 := hbel3.trans (hb3.mono (by omega))
              have hs4 : w.heap.size + 1 ≤ W3.heap.size := by have := hb3.size; omega
              clear hit2 hit3 hb2 hb3 hbA hsA CD
              go_wp2_with fail
              go_loopg [13] 3 (fun h s13 wy => ∃ r : Nat, s13 = .int .i32 (r : Int) ∧ h ≤ 3 ∧ Hid (r = itF (4 - h) R) ∧ Hid (∀ j, 1 ≤ j → j < 4 - h → itF j R ≠ R) ∧ Hid (lastF h r R R2 = lastF 3 (sfold R) R R2) ∧ wy.heap[w.heap.size]? = some (.stringIter S (pos + K)) ∧ Below w.heap.size w wy ∧ w.heap.size + 1 ≤ wy.heap.size)
              case atStart => exact ⟨sfold R, rfl, Nat.le_refl _, rfl, (fun j h1 h2 => by omega), rfl, hit4, hbel4, hs4⟩
              case round =>
                obtain ⟨r, rfl, hh3, HR, HJ, HL, hit5, hbel5, hs5⟩ := hrel
                have hrin : r ≤ 1114111 := by rw [HR.out]; exact itF_in _ (by omega) _
                by_cases hc : r ≠ R ∧ r < R2
                · obtain ⟨h', rfl⟩ : ∃ h', gk = h' + 1 := by
                    cases gk with
                    | zero => exact absurd (HR.out.trans (itF_back _ (HJ.out 1 (by omega) (by omega)) (HJ.out 2 (by omega) (by omega)) (HJ.out 3 (by omega) (by omega)))) hc.1
                    | succ n => exact ⟨n, rfl⟩
                  have h1 : ¬ ((r : Int) = ((R : Nat) : Int)) := by have := hc.1; omega
                  have h2 : (r : Int) < ((R2 : Nat) : Int) := by omega
                  have HR2 : Hid (sfold r = itF (4 - h') R) := by unfold Hid; rw [HR.out, show 4 - h' = (4 - (h' + 1)) + 1 from by omega]; rfl
                  have HJ2 : Hid (∀ j, 1 ≤ j → j < 4 - h' → itF j R ≠ R) := fun j j1 j2 => by
                    by_cases hj : j = 4 - (h' + 1)
                    · rw [hj, ← HR.out]; exact hc.1
                    · exact HJ.out j j1 (by omega)
                  have HL2 : Hid (lastF h' (sfold r) R R2 = lastF 3 (sfold R) R R2) := by unfold Hid; rw [← HL.out, lastF_go _ _ _ _ hc]
                  clear HR HJ HL hc
                  go_wp2_with fail
                  refine (cS.out r hrin _ hbel5).mono ?_
                  rintro e W5 ⟨rfl, hb5⟩
                  have hit6 := (hb5.block w.heap.size (by omega)).trans hit5
                  have hbel6 := hbel5.trans (hb5.mono (by omega))
                  have hs6 : w.heap.size + 1 ≤ W5.heap.size := by have := hb5.size; omega
                  go_wp2_with fail
                  go_roundg h'
                  case measure => omega
                  case rel => exact ⟨sfold r, rfl, by omega, HR2, HJ2, HL2, hit6, hbel6, hs6⟩
                · have HL2 : Hid (lastF 3 (sfold R) R R2 = r) := by unfold Hid; rw [← HL.out, lastF_stop _ _ _ _ hc]
                  have HYr : Hid (r = R2 → foldL g' (S.data.toList.drop (pos + K)) T'.data.toList = ANS) := fun h => HY2.out (by rw [HL2.out, h])
                  have HNr : Hid (¬ r = R2 → ANS = false) := fun h => HN2.out (by rw [HL2.out]; exact h)
                  have hcc : r = R ∨ (¬ r = R ∧ ¬ r < R2) := by omega
                  clear HR HJ HL HL2 HY2 HN2 hc cS
                  rcases hcc with hra | ⟨hra, hrb⟩
                  · have hraz : (r : Int) = ((R : Nat) : Int) := by omega
                    subst hra
                    go_wp2
                    all_goals (try simp only [beq_eq_false_iff_ne, ne_eq] at *)
                    all_goals first
                      | (simp only [Exit.jump]
                         go_ret
                         refine ⟨?_, hbel5⟩
                         rw [HNr.out (by omega)]; rfl)
                      | (exfalso; omega)
                  · have h1 : ¬ ((r : Int) = ((R : Nat) : Int)) := by omega
                    have h2 : ¬ ((r : Int) < ((R2 : Nat) : Int)) := by omega
                    by_cases hrb2 : r = R2
                    · have HYd : Hid (foldL g' (S.data.toList.drop (pos + K)) T'.data.toList = ANS) := HYr.out hrb2
                      clear HYr HNr
                      have hbb : ((r : Int) == ((R2 : Nat) : Int)) = true := beq_iff_eq.2 (by omega)
                      go_wp2
                      go_roundg g'
                      case measure => omega
                      case rel => exact ⟨pos + K, T', rfl, hit5, hbel5, by omega, by omega, HYd⟩
                    · have HNd : Hid (ANS = false) := HNr.out hrb2
                      clear HYr HNr
                      have hbb : ¬ ((r : Int) = ((R2 : Nat) : Int)) := by omega
                      go_wp2
                      simp only [Exit.jump]
                      go_ret
                      exact ⟨by rw [HNd.out]; rfl, hbel5⟩
      · have hnx : ∀ ty, (Instr.next (.pointer (some ⟨w.heap.size, 0, none⟩)) true ty).run Tryz.prog wr = _ := fun ty => Lib.run_next_end_at wr w.heap.size S pos ty hitr hlt
        have hpe : S.data.toList.drop pos = [] := List.drop_eq_nil_of_le (by rw [← Lib.size_eq]; omega)
        have HE : Hid (ANS = decide (T.data.toList = [])) := by unfold Hid; rw [← HI.out, hpe, foldL_end]
        clear HI hpe
        by_cases hT0 : T.size = 0
        · have HN : Hid (ANS = true) := by unfold Hid; rw [HE.out]; exact decide_eq_true (List.eq_nil_of_length_eq_zero (by rw [← Lib.size_eq]; exact hT0))
          have hTz : ((T.size : Int) == 0) = true := beq_iff_eq.2 (by omega)
          clear HE
          go_wp2
          simp only [Exit.jump]
          go_ret
          exact ⟨by rw [HN.out]; rfl, hbel⟩
        · have HN : Hid (ANS = false) := by unfold Hid; rw [HE.out]; exact decide_eq_false (fun h => hT0 (by rw [Lib.size_eq, h]; rfl))
          have hTz : ((T.size : Int) == 0) = false := beq_eq_false_iff_ne.2 (by omega)
          clear HE
          go_wp2
          simp only [Exit.jump]
          go_ret
          exact ⟨by rw [HN.out]; rfl, hbel⟩
end Go.Proofs.YtlndhdimamnnlaaGreatDoor

