
import Derived.Test.YtlndhdimamnnlaaGreatDoorXmimesays29
namespace Go.Proofs.YtlndhdimamnnlaaGreatDoor
open Go.RowKit
def PieceAt (w : World) (B : Nat) (y : SY) : Prop := ∃ (g : Nat) (cs : Array Value) (mk : Nat × Nat), y.2.1 = some ⟨g, 0, none⟩ ∧ B ≤ g ∧ w.heap[g]? = some (.cells cs 5 mk) ∧ y.1.length ≤ y.2.2 ∧ y.2.2 ≤ maxLen ∧ ∀ i, i < y.1.length → cs[i]? = some (.int .u8 ((y.1.getD i 0).toNat : Int))
theorem PieceAt.row {w : World} {B : Nat} {y : SY} (h : PieceAt w B y) : BRow w y.2.1 y.1 := by
 obtain ⟨g, cs, mk, h1, _, h3, _, _, h6⟩ := h
 intro _
 refine ⟨g, 0, h1, fun i hi => ?_⟩
 rw [Nat.zero_add]
 simp only [World.cell?, h3]
 simpa using h6 i hi
theorem PieceAt.below {w w' : World} {B : Nat} {y : SY} (h : PieceAt w B y) (hb : Below w.heap.size w w') : PieceAt w' B y := by
 obtain ⟨g, cs, mk, h1, h2, h3, h4⟩ := h
 exact ⟨g, cs, mk, h1, h2, by rw [hb.block _ (Array.getElem?_eq_some_iff.1 h3).1]; exact h3, h4⟩
theorem PieceAt.kept {w w' : World} {B B' n : Nat} {y : SY} {v : Value} {xs : List Value} (h : PieceAt w B y) (ho : w.ownsRow B' 22 1 v n xs) (hg : w.grownBy w' v.ownBlock) : PieceAt w' B y := by
 obtain ⟨g, cs, mk, h1, h2, h3, h4⟩ := h
 refine ⟨g, cs, mk, h1, h2, ?_, h4⟩
 rw [hg.block g (Array.getElem?_eq_some_iff.1 h3).1 (fun e => ?_)]
 ·exact h3
 ·rcases ho.2 with ⟨rfl, _⟩ | ⟨g2, cap, cur, rfl, _, hh, _⟩
  ·cases e
  ·obtain rfl : g = g2 := by simpa [Value.ownBlock] using e
   rw [h3] at hh
   injection hh with hh
   injection hh with _ hh _
   exact absurd hh (by decide)
theorem PieceAt.low {w : World} {B B' : Nat} {y : SY} (h : PieceAt w B y) (hb : B' ≤ B) : PieceAt w B' y := by
 obtain ⟨g, cs, mk, h1, h2, h3⟩ := h
 exact ⟨g, cs, mk, h1, Nat.le_trans hb h2, h3⟩
def SLie (w : World) (B : Nat) (Y : List SY) : Prop := ∀ y ∈ Y, PieceAt w B y
def SplitPostR (w : World) (r : List (List UInt8) × Nat) (e : Ending) (w' : World) : Prop :=
 Below w.heap.size w w' ∧ ∃ v, e = .returned (.tuple #[v, .int .i64 (r.2 : Int)]) ∧ (r.2 ≠ 0 → v = .slice none 0 0) ∧ (r.2 = 0 → ∃ Y : List SY, Y.map (·.1) = r.1 ∧ w'.ownsRow w.heap.size 22 1 v r.1.length (syv Y) ∧ SLie w' w.heap.size Y)
theorem splitPostR_no {w w' : World} {k : Nat} (hb : Below w.heap.size w w') (hk : k ≠ 0) : SplitPostR w ([], k) (.returned (.tuple #[.slice none 0 0, .int .i64 (k : Int)])) w' := ⟨hb, _, rfl, fun _ => rfl, fun h => absurd h hk⟩
theorem splitPostR_ok {w w' : World} {v : Value} {Y : List SY} {l : List (List UInt8)} (hb : Below w.heap.size w w') (hY : Y.map (·.1) = l) (hown : w'.ownsRow w.heap.size 22 1 v Y.length (syv Y)) (hs : SLie w' w.heap.size Y) : SplitPostR w (l, 0) (.returned (.tuple #[v, .int .i64 0])) w' := by
 refine ⟨hb, v, rfl, fun h => absurd rfl h, fun _ => ⟨Y, hY, ?_, hs⟩⟩
 show w'.ownsRow _ _ _ v l.length _
 rw [← hY, List.length_map]
 exact hown
theorem conv_piece (s : ByteArray) (w : World) (hs : s.size ≤ maxLen) : ∃ (W1 : World) (cap : Nat), (convert 9 22 (.string s)).run Tryz.prog w = .ok (.slice (some ⟨w.heap.size, 0, none⟩) s.size cap) W1 ∧ Below w.heap.size w W1 ∧ w.heap.size < W1.heap.size ∧ PieceAt W1 w.heap.size (s.data.toList, some ⟨w.heap.size, 0, none⟩, cap) := by
 refine ⟨_, _, run_bytes_of_string (P := Tryz.prog) w 9 22 5 s Tryz.underlying9 Tryz.underlying22 Tryz.underlying5, ((Below.refl _ _).drew).alloc (Nat.le_refl _) _, by show w.heap.size < (w.heap.push _).size; simp, ?_⟩
 refine ⟨w.heap.size, bytesRow s (grownCap w s.size 0 5), ((bytesRow s (grownCap w s.size 0 5)).size, (bytesRow s (grownCap w s.size 0 5)).size + 1), rfl, Nat.le_refl _, by show (w.heap.push _)[w.heap.size]? = _; simp, ?_, ?_, fun i hi => ?_⟩
 ·show s.data.toList.length ≤ grownCap _ _ _ _
  rw [← Lib.size_eq]
  exact grownCap_ge _ _ _ _
 ·exact grownCap_le_maxLen _ _ _ _ hs
 ·have hi' : i < s.data.size := by simpa using hi
  unfold bytesRow
  rw [Array.getElem?_append_left (by simpa using hi')]
  simp [List.getD_eq_getElem?_getD, Array.getElem?_eq_getElem hi']
theorem str_eqS (X Y : ByteArray) : (X.toList == Y.toList) = decide (X.data.toList = Y.data.toList) := by
 rw [ByteArray.toList_eq, ByteArray.toList_eq]
 by_cases h : X.data.toList = Y.data.toList
 ·rw [h]; simp
 ·rw [decide_eq_false h]; simpa using h
def OpenIs (o : Bool) (C : ByteArray) (cur : Option (List UInt8)) : Prop := (o = true → cur = some C.data.toList) ∧ (o = false → cur = none)
theorem suffix_last (l : List UInt8) (c : UInt8) : Lib.hasSuffix l [c] = decide (l.getLast? = some c) := by
 rw [Bool.eq_iff_iff, decide_eq_true_iff]
 unfold Lib.hasSuffix
 rw [List.isSuffixOf_iff_suffix]
 constructor
 ·rintro ⟨t, rfl⟩; simp
 ·intro h
  obtain ⟨t, rfl⟩ := List.getLast?_eq_some_iff.1 h
  exact ⟨t, rfl⟩
theorem end_yes (C : ByteArray) (c : UInt8) (h : Lib.hasSuffix C.data.toList [c] = true) : ∃ (n : Nat) (C1 : ByteArray), C.size = n + 1 ∧ C.extract 0 n = C1 ∧ C1.size = n ∧ C1.data.toList = noEnd c C.data.toList := by
 rw [suffix_last, decide_eq_true_iff] at h
 have hne : C.data.toList ≠ [] := fun e => by rw [e] at h; cases h
 have hpos : 1 ≤ C.size := by rw [Lib.size_eq]; exact List.length_pos_iff.2 hne
 obtain ⟨n, hn⟩ : ∃ n, C.size = n + 1 := ⟨C.size - 1, by omega⟩
 obtain ⟨d, C1, h1, h2, h3, h4⟩ := ba_tail C n hn
 refine ⟨n, C1, hn, h2, h3, ?_⟩
 unfold noEnd
 rw [if_pos h, h4, List.dropLast_concat]
theorem end_no (C : ByteArray) (c : UInt8) (h : Lib.hasSuffix C.data.toList [c] = false) : C.data.toList = noEnd c C.data.toList := by
 rw [suffix_last, decide_eq_false_iff_not] at h
 unfold noEnd
 rw [if_neg h]
theorem outR_splitS (L B : List UInt8) (h1 : L.length ≤ 40000) (h2 : B ≠ []) (h3 : B.length ≤ 60) : splitS L B = outR (splL B (Lib.splitK [10] 1 (Lib.count L [10]) L) none []) := by
 unfold splitS
 rw [if_neg (by omega), if_neg (by rintro (e | e); exact h2 e; omega), splL_lines B L.length L none [] (L.length + 1) (Nat.le_refl _) (Nat.lt_succ_self _)]
 rfl
theorem flat_drop (LS : List (List UInt8)) (j : Nat) (h : j < LS.length) : (LS.drop j).flatten.length = (LS.getD j []).length + (LS.drop (j + 1)).flatten.length := by
 rw [List.drop_eq_getElem_cons h, List.flatten_cons, List.length_append, List.getD_eq_getElem?_getD, List.getElem?_eq_getElem h]
 rfl
set_option maxHeartbeats 16000000 in
set_option maxRecDepth 100000 in
theorem rsplit_any (p : Option Addr) (n c : Nat) (L : List UInt8) (en : n = L.length) (B : ByteArray) (hB1 : 1 ≤ B.size) (hB2 : B.size ≤ 60) (m0 : Int) (w : World) (hn : n ≤ 40000) (hp : p = none → n = 0 ∧ c = 0) (hr : BRow w p L) (hm : w.cell? ⟨1, 0, none⟩ = some (.int .i64 m0)) :
  Calls Tryz.prog 13 #[.slice p n c, .string B] w fun e w' => SplitPostR w (splitS L B.data.toList) e w' := by
 obtain ⟨i0, hi, hz0, hz1, hz2⟩ := info_parts info_bytes
 have hcv := conv_bytes w p n c L en hr hp
 obtain ⟨S, hS⟩ : ∃ S : ByteArray, (⟨L.toArray⟩ : ByteArray) = S := ⟨_, rfl⟩
 rw [hS] at hcv
 have hSd : S.data.toList = L := by rw [← hS]
 have hSs : S.size ≤ 40000 := by rw [Lib.size_eq, hSd, ← en]; exact hn
 have CSA := splitAfter_any S m0 w (by omega) hm
 rw [hSd] at CSA
 have CSA' : Hid (Calls Tryz.prog 49 #[.string S, .string ⟨#[10]⟩] w fun e w' => ∃ xs : List ByteArray, xs.map (·.data.toList) = Lib.splitK [10] 1 (Lib.count L [10]) L ∧ xs.length ≤ 1000001 ∧
   e = .returned (.slice (some ⟨w.heap.size, 0, none⟩) xs.length xs.length) ∧ w' = w.alloc (.cells (xs.map Value.string).toArray 9)) := CSA
 have hBd : B.data.toList ≠ [] := fun e => by rw [Lib.size_eq, e, List.length_nil] at hB1; omega
 rw [outR_splitS L B.data.toList (by omega) hBd (by rw [← Lib.size_eq]; exact hB2)]
 have hfl := splitK_sum L L.length (Nat.le_refl _)
 have hLn : L.length ≤ 40000 := by omega
 have hfl2 : (Lib.splitK [10] 1 (Lib.count L [10]) L).flatten.length ≤ 40000 := by rw [hfl]; exact hLn
 obtain ⟨LS, hLS⟩ : ∃ LS, Lib.splitK [10] 1 (Lib.count L [10]) L = LS := ⟨_, rfl⟩
 rw [hLS] at hfl2 CSA' ⊢
 obtain ⟨RES, hRES⟩ : ∃ RES, splL B.data.toList LS none [] = RES := ⟨_, rfl⟩
 rw [hRES]
 have HRES : Hid (splL B.data.toList LS none [] = RES) := hRES
 have HFL : Hid (LS.flatten.length ≤ 40000) := hfl2
 obtain ⟨E1, hE1⟩ : ∃ E1 : ByteArray, ⟨#[45, 45]⟩ ++ B = E1 := ⟨_, rfl⟩
 obtain ⟨E2, hE2⟩ : ∃ E2 : ByteArray, E1 ++ ⟨#[45, 45]⟩ = E2 := ⟨_, rfl⟩
 have HE1 : Hid (E1.data.toList = dd ++ B.data.toList) := by unfold Hid; rw [← hE1]; simp [dd]
 have HE2 : Hid (E2.data.toList = dd ++ B.data.toList ++ dd) := by unfold Hid; rw [← hE2]; simp [HE1.out, dd]
 have HAp : Hid (¬ dd ++ B.data.toList = dd ++ B.data.toList ++ dd) := dd_apart _
 have hE1s : E1.size ≤ 62 := by rw [← hE1, ByteArray.size_append]; show 2 + B.size ≤ 62; omega
 have hE2s : E2.size ≤ 64 := by rw [← hE2, ByteArray.size_append]; show E1.size + 2 ≤ 64; omega
 clear CSA hS hSd hm hr hp en hBd hfl hfl2 hLS hRES hLn
 go_enter Tryz.func13, Tryz.ntmps13
 go_wp2_with fail
 refine CSA'.out.mono ?_
 rintro e w1 ⟨xs, hxs, hxl, rfl, hw1⟩
 clear CSA' hcv
 have hLl : LS.length = xs.length := by rw [← hxs, List.length_map]
 have hxc : ∀ j, j < xs.length → w1.cell? ⟨w.heap.size, j, none⟩ = some (.string (ba (LS.getD j []))) := by
  intro j hj
  rw [hw1, World.cell?_alloc_at _ _ _ _ rfl, ← hxs]
  simp [List.getD_eq_getElem?_getD, hj, ba]
 have hb1 : Below w.heap.size w w1 := by rw [hw1]; exact (Below.refl _ _).alloc (Nat.le_refl _) _
 have hg1 : w.heap.size < w1.heap.size := by rw [hw1]; simp
 obtain ⟨N, hN⟩ : ∃ N, xs.length = N := ⟨_, rfl⟩
 rw [hN] at hxc hLl hxl ⊢
 have HX : Hid (∀ j, j < N → w1.cell? ⟨w.heap.size, j, none⟩ = some (.string (ba (LS.getD j [])))) := hxc
 have HLl : Hid (LS.length = N) := hLl
 clear hxs hw1 hxc hN hLl
 go_wp2_with fail
 go_loopw [6, 7, 8, 17] (fun lv ov cv iv wr => ∃ (j : Nat) (o : Bool) (C : ByteArray) (q : Option Addr) (m d : Nat) (Y : List SY) (cur : Option (List UInt8)), j ≤ N ∧ iv = .int .i64 j ∧ ov = .bool o ∧ cv = .string C ∧ lv = .slice q m d ∧ m ≤ j ∧ C.size ≤ 40000 ∧ Below w1.heap.size w1 wr ∧ Hid (m = Y.length) ∧ Hid (C.size + (LS.drop j).flatten.length ≤ 40000) ∧ Hid (wr.ownsRow w1.heap.size 22 1 (.slice q m d) m (syv Y)) ∧ Hid (SLie wr w1.heap.size Y) ∧ Hid (OpenIs o C cur) ∧ Hid (splL B.data.toList (LS.drop j) cur (Y.map (·.1)) = RES)) (fun _ _ _ iv _ => N - (intOf iv).toNat)
 case atStart => exact ⟨0, false, ⟨#[]⟩, none, 0, 0, [], none, Nat.zero_le _, rfl, rfl, rfl, rfl, Nat.le_refl _, by decide, Below.refl _ _, rfl, by unfold Hid; have := HFL.out; show 0 + _ ≤ 40000; rw [Nat.zero_add, List.drop_zero]; exact this, World.ownsRow_nil _ _ _ _, (fun y hy => by cases hy), ⟨(fun h => by cases h), fun _ => rfl⟩, HRES⟩
 case round =>
  obtain ⟨j, o, C, q, m, d, Y, cur, hj, rfl, rfl, rfl, rfl, hmj, hC, hbr, HM, HCF, HO, HS, HOp, HR⟩ := hrel
  clear HRES HFL
  have hsr := hbr.size
  by_cases hlt : j < N
  ·have hlz : (j : Int) < (N : Int) := by omega
   have hjl : j < LS.length := by rw [HLl.out]; exact hlt
   have hcell := HX.out j hlt
   have hcell2 : wr.cell? ⟨w.heap.size, j, none⟩ = some (.string (ba (LS.getD j []))) := (hbr.cell (p := ⟨w.heap.size, j, none⟩) hg1).trans hcell
   have hfd := flat_drop LS j hjl
   have hcf := HCF.out
   have hdr : LS.drop j = LS.getD j [] :: LS.drop (j + 1) := by
    rw [List.drop_eq_getElem_cons hjl, List.getD_eq_getElem?_getD, List.getElem?_eq_getElem hjl]
    rfl
   have hR := HR.out
   rw [hdr, splL] at hR
   rw [hfd] at hcf
   obtain ⟨X, hX⟩ : ∃ X : ByteArray, ba (LS.getD j []) = X := ⟨_, rfl⟩
   rw [hX] at hcell2
   have hXd : X.data.toList = LS.getD j [] := by rw [← hX, ba_data]
   rw [← hXd] at hR hcf
   rw [← Lib.size_eq] at hcf
   have hXs : X.size ≤ 40000 := by omega
   have HCF2 : Hid (C.size + X.size + (LS.drop (j + 1)).flatten.length ≤ 40000) := (by omega : C.size + X.size + (LS.drop (j + 1)).flatten.length ≤ 40000)
   have hCX : C.size + X.size ≤ 40000 := by omega
   obtain ⟨Z, hZ⟩ : ∃ Z : ByteArray, (⟨(dropEnd (ByteArray.mk #[32, 9, 13, 10]).data.toList.contains X.data.toList).toArray⟩ : ByteArray) = Z := ⟨_, rfl⟩
   have hZd : Z.data.toList = bareL X.data.toList := by rw [← hZ]; rfl
   have CT : Hid (∀ W, Calls Tryz.prog 50 #[.string X, .string ⟨#[32, 9, 13, 10]⟩] W fun e w' => e = .returned (.string Z) ∧ Below W.heap.size W w') := fun W => by
    rw [← hZ]
    exact trimR_set ⟨#[32, 9, 13, 10]⟩ X W (by omega) (by decide) (by decide) (fun j c hc => (List.all_eq_true.1 (show [32, 9, 13, 10].all (fun c : UInt8 => decide (c.toNat < 128)) = true by decide) c (List.mem_of_getElem? hc) |> of_decide_eq_true))
   have hq1 := str_eqS Z E1
   have hq2 := str_eqS Z E2
   rw [hZd, HE1.out] at hq1
   rw [hZd, HE2.out] at hq2
   clear hcell hfd hcf hdr hX hXd hZ hZd HX HR HCF
   by_cases h2 : bareL X.data.toList = dd ++ B.data.toList ++ dd
   ·rw [if_pos h2] at hR
    rw [decide_eq_true h2] at hq2
    rw [decide_eq_false (fun h => HAp.out (h.symm.trans h2))] at hq1
    clear h2
    go_wp2_with fail
    refine (CT.out _).mono ?_
    rintro e w2 ⟨rfl, hb2⟩
    have hbe2 : Below w1.heap.size w1 w2 := hbr.trans (hb2.mono hsr)
    have HO2 : Hid (w2.ownsRow w1.heap.size 22 1 (.slice q m d) m (syv Y)) := ownsRow_below HO.out hb2
    have HS2 : Hid (SLie w2 w1.heap.size Y) := fun y hy => (HS.out y hy).below hb2
    clear CT HO HS hb2
    have hsz2 := hbe2.size
    cases o with
    | false =>
     have e1 : RES = some (Y.map (·.1)) := by rw [← hR, HOp.out.2 rfl]; rfl
     have HF : Hid (SplitPostR w (outR RES) (.returned (.tuple #[.slice q m d, .int .i64 0])) w2) := by
      unfold Hid
      rw [e1]
      exact splitPostR_ok (hb1.trans (hbe2.mono hb1.size)) rfl (by rw [← HM.out]; exact owns_low HO2.out hb1.size) (fun y hy => (HS2.out y hy).low hb1.size)
     clear e1 HO2 HS2
     go_wp2_with fail
     go_ret2
     exact HF.out
    | true =>
     have CH10 : Hid (∀ W, Calls Tryz.prog 51 #[.string C, .string ⟨#[10]⟩] W fun e w' => e = .returned (.bool (Lib.hasSuffix C.data.toList [10])) ∧ w' = W) := fun W => Tryz.strings_HasSuffix C ⟨#[10]⟩ W (by omega)
     cases h10 : Lib.hasSuffix C.data.toList [10]
     ·rw [h10] at CH10
      obtain ⟨C1, hC1⟩ : ∃ C1, C = C1 := ⟨_, rfl⟩
      have hd1 : C1.data.toList = noEnd 10 C.data.toList := by rw [← hC1]; exact end_no C 10 h10
      have hs1 : C1.size ≤ 40000 := by rw [← hC1]; exact hC
      clear h10
      have CH13 : Hid (∀ W, Calls Tryz.prog 51 #[.string C1, .string ⟨#[13]⟩] W fun e w' => e = .returned (.bool (Lib.hasSuffix C1.data.toList [13])) ∧ w' = W) := fun W => Tryz.strings_HasSuffix C1 ⟨#[13]⟩ W (by omega)
      cases h13 : Lib.hasSuffix C1.data.toList [13]
      ·rw [h13] at CH13
       obtain ⟨C2, hC2⟩ : ∃ C2, C1 = C2 := ⟨_, rfl⟩
       have hd2 : C2.data.toList = noEnd 13 C1.data.toList := by rw [← hC2]; exact end_no C1 13 h13
       have hs2 : C2.size ≤ 40000 := by rw [← hC2]; omega
       have HQ2 : Hid (C2.data.toList = stripE C.data.toList) := by unfold Hid stripE; rw [hd2, hd1]
       clear hd1 hd2 h13
       subst hC1
       subst hC2
       go_wp2_with fail
       refine (CH10.out _).mono ?_
       rintro e w5 ⟨rfl, hw5⟩
       have hw6 := hw5.symm
       subst hw6
       clear CH10
       go_wp2_with fail
       refine (CH13.out _).mono ?_
       rintro e w5 ⟨rfl, hw5⟩
       have hw6 := hw5.symm
       subst hw6
       clear CH13
       have hQs : C.size ≤ 40000 := by omega
       obtain ⟨W3, cap3, hcv3, hb3, hlt3, hpc3⟩ := conv_piece C w2 (by unfold maxLen; omega)
       have hbe3 : Below w1.heap.size w1 W3 := hbe2.trans (hb3.mono hsz2)
       have hsz3 := hbe3.size
       have HO3 := ownsRow_below HO2.out hb3
       have HP3 : Hid (PieceAt W3 w1.heap.size (C.data.toList, some ⟨w2.heap.size, 0, none⟩, cap3)) := hpc3.low hsz2
       have HS3 : Hid (SLie W3 w1.heap.size Y) := fun y hy => (HS2.out y hy).below hb3
       obtain ⟨nc, hnc⟩ : ∃ nc, C.size = nc := ⟨_, rfl⟩
       have HNC : Hid (C.data.toList.length = nc) := by unfold Hid; rw [← Lib.size_eq]; exact hnc
       clear HO2 HS2 hpc3 hb3
       go_wp2_with (at_builtin; refine wpList_append_own _ rfl (.tmp 54) (.tmp 57) 29 rfl w1.heap.size 22 i0 (.slice none 0 0) 1 24 Tryz.underlying29 hi hz0 hz1 hz2 rfl (by decide) _ _ _ rfl (HO3.alloc _) ⟨W3.heap.size, 0, none⟩ 1 1 [.slice (some ⟨w2.heap.size, 0, none⟩) nc cap3] rfl rfl (cell_lone _ _ _ _ rfl) ?c2 ?c3 ?c4 ?c5 ?_)
       case c2 => intro u hu; simp at hu; subst hu; rfl
       case c3 => unfold maxLen; omega
       case c4 => omega
       case c5 => first | omega | (simp; omega)
       intro v9 w9 hown9 hg9 _
       have hb9 : Below w1.heap.size w1 w9 := (hbe3.alloc hsz3 _).grown hg9 (by simp; omega) (fun j hj => (HO3.lt j hj).1)
       have R9 : w9.ownsRow w1.heap.size 22 1 v9 (m + 1) (syv (Y ++ [(C.data.toList, some ⟨w2.heap.size, 0, none⟩, cap3)])) := by
        rw [syv_snoc, HNC.out]
        exact hown9
       have HS9 : Hid (SLie w9 w1.heap.size (Y ++ [(C.data.toList, some ⟨w2.heap.size, 0, none⟩, cap3)])) := fun y hy => by
        have ha : Below W3.heap.size W3 (W3.alloc (.cells #[.slice (some ⟨w2.heap.size, 0, none⟩) nc cap3] 22)) := (Below.refl _ _).alloc (Nat.le_refl _) _
        rcases List.mem_append.1 hy with hy | hy
        ·exact ((HS3.out y hy).below ha).kept (HO3.alloc _) hg9
        ·obtain rfl : y = (C.data.toList, some ⟨w2.heap.size, 0, none⟩, cap3) := by simpa using hy
         exact (HP3.out.below ha).kept (HO3.alloc _) hg9
       have HM9 : Hid (m + 1 = (Y ++ [(C.data.toList, some (⟨w2.heap.size, 0, none⟩ : Addr), cap3)]).length) := by unfold Hid; rw [List.length_append, ← HM.out]; rfl
       have HY9 : Hid ((Y ++ [(C.data.toList, some (⟨w2.heap.size, 0, none⟩ : Addr), cap3)]).map (·.1) = closed cur (Y.map (·.1))) := by
        unfold Hid
        rw [HOp.out.1 rfl, List.map_append]
        exact congrArg (fun z => Y.map (·.1) ++ [z]) HQ2.out
       obtain ⟨q9, c9, rfl⟩ := owned_slice R9
       have HR9 : Hid (w9.ownsRow w1.heap.size 22 1 (.slice q9 (m + 1) c9) (m + 1) (syv (Y ++ [(C.data.toList, some ⟨w2.heap.size, 0, none⟩, cap3)]))) := R9
       generalize Y ++ [(C.data.toList, some (⟨w2.heap.size, 0, none⟩ : Addr), cap3)] = Y9 at *
       clear hown9 hg9 R9 HO3 HS3 HP3 hcv3 HNC hnc hbe3 hsz3 hlt3
       have e1 : RES = some (closed cur (Y.map (·.1))) := hR.symm
       have HF : Hid (SplitPostR w (outR RES) (.returned (.tuple #[.slice q9 (m + 1) c9, .int .i64 0])) w9) := by
        unfold Hid
        rw [e1]
        exact splitPostR_ok (hb1.trans (hb9.mono hb1.size)) HY9.out (by rw [← HM9.out]; exact owns_low HR9.out hb1.size) (fun y hy => (HS9.out y hy).low hb1.size)
       clear e1 HR9 HS9 HM9 HY9
       go_wp2_with fail
       go_ret2
       exact HF.out
      ·rw [h13] at CH13
       obtain ⟨n2, C2, hn2, hx2, hs2', hd2⟩ := end_yes C1 13 h13
       have hs2 : C2.size ≤ 40000 := by omega
       clear hs2'
       have HQ2 : Hid (C2.data.toList = stripE C.data.toList) := by unfold Hid stripE; rw [hd2, hd1]
       clear hd1 hd2 h13
       subst hC1
       go_wp2_with fail
       refine (CH10.out _).mono ?_
       rintro e w5 ⟨rfl, hw5⟩
       have hw6 := hw5.symm
       subst hw6
       clear CH10
       go_wp2_with fail
       refine (CH13.out _).mono ?_
       rintro e w5 ⟨rfl, hw5⟩
       have hw6 := hw5.symm
       subst hw6
       clear CH13
       have hQs : C2.size ≤ 40000 := by omega
       obtain ⟨W3, cap3, hcv3, hb3, hlt3, hpc3⟩ := conv_piece C2 w2 (by unfold maxLen; omega)
       have hbe3 : Below w1.heap.size w1 W3 := hbe2.trans (hb3.mono hsz2)
       have hsz3 := hbe3.size
       have HO3 := ownsRow_below HO2.out hb3
       have HP3 : Hid (PieceAt W3 w1.heap.size (C2.data.toList, some ⟨w2.heap.size, 0, none⟩, cap3)) := hpc3.low hsz2
       have HS3 : Hid (SLie W3 w1.heap.size Y) := fun y hy => (HS2.out y hy).below hb3
       obtain ⟨nc, hnc⟩ : ∃ nc, C2.size = nc := ⟨_, rfl⟩
       have HNC : Hid (C2.data.toList.length = nc) := by unfold Hid; rw [← Lib.size_eq]; exact hnc
       clear HO2 HS2 hpc3 hb3
       go_wp2_with (at_builtin; refine wpList_append_own _ rfl (.tmp 54) (.tmp 57) 29 rfl w1.heap.size 22 i0 (.slice none 0 0) 1 24 Tryz.underlying29 hi hz0 hz1 hz2 rfl (by decide) _ _ _ rfl (HO3.alloc _) ⟨W3.heap.size, 0, none⟩ 1 1 [.slice (some ⟨w2.heap.size, 0, none⟩) nc cap3] rfl rfl (cell_lone _ _ _ _ rfl) ?c2 ?c3 ?c4 ?c5 ?_)
       case c2 => intro u hu; simp at hu; subst hu; rfl
       case c3 => unfold maxLen; omega
       case c4 => omega
       case c5 => first | omega | (simp; omega)
       intro v9 w9 hown9 hg9 _
       have hb9 : Below w1.heap.size w1 w9 := (hbe3.alloc hsz3 _).grown hg9 (by simp; omega) (fun j hj => (HO3.lt j hj).1)
       have R9 : w9.ownsRow w1.heap.size 22 1 v9 (m + 1) (syv (Y ++ [(C2.data.toList, some ⟨w2.heap.size, 0, none⟩, cap3)])) := by
        rw [syv_snoc, HNC.out]
        exact hown9
       have HS9 : Hid (SLie w9 w1.heap.size (Y ++ [(C2.data.toList, some ⟨w2.heap.size, 0, none⟩, cap3)])) := fun y hy => by
        have ha : Below W3.heap.size W3 (W3.alloc (.cells #[.slice (some ⟨w2.heap.size, 0, none⟩) nc cap3] 22)) := (Below.refl _ _).alloc (Nat.le_refl _) _
        rcases List.mem_append.1 hy with hy | hy
        ·exact ((HS3.out y hy).below ha).kept (HO3.alloc _) hg9
        ·obtain rfl : y = (C2.data.toList, some ⟨w2.heap.size, 0, none⟩, cap3) := by simpa using hy
         exact (HP3.out.below ha).kept (HO3.alloc _) hg9
       have HM9 : Hid (m + 1 = (Y ++ [(C2.data.toList, some (⟨w2.heap.size, 0, none⟩ : Addr), cap3)]).length) := by unfold Hid; rw [List.length_append, ← HM.out]; rfl
       have HY9 : Hid ((Y ++ [(C2.data.toList, some (⟨w2.heap.size, 0, none⟩ : Addr), cap3)]).map (·.1) = closed cur (Y.map (·.1))) := by
        unfold Hid
        rw [HOp.out.1 rfl, List.map_append]
        exact congrArg (fun z => Y.map (·.1) ++ [z]) HQ2.out
       obtain ⟨q9, c9, rfl⟩ := owned_slice R9
       have HR9 : Hid (w9.ownsRow w1.heap.size 22 1 (.slice q9 (m + 1) c9) (m + 1) (syv (Y ++ [(C2.data.toList, some ⟨w2.heap.size, 0, none⟩, cap3)]))) := R9
       generalize Y ++ [(C2.data.toList, some (⟨w2.heap.size, 0, none⟩ : Addr), cap3)] = Y9 at *
       clear hown9 hg9 R9 HO3 HS3 HP3 hcv3 HNC hnc hbe3 hsz3 hlt3
       have e1 : RES = some (closed cur (Y.map (·.1))) := hR.symm
       have HF : Hid (SplitPostR w (outR RES) (.returned (.tuple #[.slice q9 (m + 1) c9, .int .i64 0])) w9) := by
        unfold Hid
        rw [e1]
        exact splitPostR_ok (hb1.trans (hb9.mono hb1.size)) HY9.out (by rw [← HM9.out]; exact owns_low HR9.out hb1.size) (fun y hy => (HS9.out y hy).low hb1.size)
       clear e1 HR9 HS9 HM9 HY9
       go_wp2_with fail
       go_ret2
       exact HF.out
     ·rw [h10] at CH10
      obtain ⟨n1, C1, hn1, hx1, hs1', hd1⟩ := end_yes C 10 h10
      have hs1 : C1.size ≤ 40000 := by omega
      clear hs1'
      clear h10
      have CH13 : Hid (∀ W, Calls Tryz.prog 51 #[.string C1, .string ⟨#[13]⟩] W fun e w' => e = .returned (.bool (Lib.hasSuffix C1.data.toList [13])) ∧ w' = W) := fun W => Tryz.strings_HasSuffix C1 ⟨#[13]⟩ W (by omega)
      cases h13 : Lib.hasSuffix C1.data.toList [13]
      ·rw [h13] at CH13
       obtain ⟨C2, hC2⟩ : ∃ C2, C1 = C2 := ⟨_, rfl⟩
       have hd2 : C2.data.toList = noEnd 13 C1.data.toList := by rw [← hC2]; exact end_no C1 13 h13
       have hs2 : C2.size ≤ 40000 := by rw [← hC2]; omega
       have HQ2 : Hid (C2.data.toList = stripE C.data.toList) := by unfold Hid stripE; rw [hd2, hd1]
       clear hd1 hd2 h13
       subst hC2
       go_wp2_with fail
       refine (CH10.out _).mono ?_
       rintro e w5 ⟨rfl, hw5⟩
       have hw6 := hw5.symm
       subst hw6
       clear CH10
       go_wp2_with fail
       refine (CH13.out _).mono ?_
       rintro e w5 ⟨rfl, hw5⟩
       have hw6 := hw5.symm
       subst hw6
       clear CH13
       have hQs : C1.size ≤ 40000 := by omega
       obtain ⟨W3, cap3, hcv3, hb3, hlt3, hpc3⟩ := conv_piece C1 w2 (by unfold maxLen; omega)
       have hbe3 : Below w1.heap.size w1 W3 := hbe2.trans (hb3.mono hsz2)
       have hsz3 := hbe3.size
       have HO3 := ownsRow_below HO2.out hb3
       have HP3 : Hid (PieceAt W3 w1.heap.size (C1.data.toList, some ⟨w2.heap.size, 0, none⟩, cap3)) := hpc3.low hsz2
       have HS3 : Hid (SLie W3 w1.heap.size Y) := fun y hy => (HS2.out y hy).below hb3
       obtain ⟨nc, hnc⟩ : ∃ nc, C1.size = nc := ⟨_, rfl⟩
       have HNC : Hid (C1.data.toList.length = nc) := by unfold Hid; rw [← Lib.size_eq]; exact hnc
       clear HO2 HS2 hpc3 hb3
       go_wp2_with (at_builtin; refine wpList_append_own _ rfl (.tmp 54) (.tmp 57) 29 rfl w1.heap.size 22 i0 (.slice none 0 0) 1 24 Tryz.underlying29 hi hz0 hz1 hz2 rfl (by decide) _ _ _ rfl (HO3.alloc _) ⟨W3.heap.size, 0, none⟩ 1 1 [.slice (some ⟨w2.heap.size, 0, none⟩) nc cap3] rfl rfl (cell_lone _ _ _ _ rfl) ?c2 ?c3 ?c4 ?c5 ?_)
       case c2 => intro u hu; simp at hu; subst hu; rfl
       case c3 => unfold maxLen; omega
       case c4 => omega
       case c5 => first | omega | (simp; omega)
       intro v9 w9 hown9 hg9 _
       have hb9 : Below w1.heap.size w1 w9 := (hbe3.alloc hsz3 _).grown hg9 (by simp; omega) (fun j hj => (HO3.lt j hj).1)
       have R9 : w9.ownsRow w1.heap.size 22 1 v9 (m + 1) (syv (Y ++ [(C1.data.toList, some ⟨w2.heap.size, 0, none⟩, cap3)])) := by
        rw [syv_snoc, HNC.out]
        exact hown9
       have HS9 : Hid (SLie w9 w1.heap.size (Y ++ [(C1.data.toList, some ⟨w2.heap.size, 0, none⟩, cap3)])) := fun y hy => by
        have ha : Below W3.heap.size W3 (W3.alloc (.cells #[.slice (some ⟨w2.heap.size, 0, none⟩) nc cap3] 22)) := (Below.refl _ _).alloc (Nat.le_refl _) _
        rcases List.mem_append.1 hy with hy | hy
        ·exact ((HS3.out y hy).below ha).kept (HO3.alloc _) hg9
        ·obtain rfl : y = (C1.data.toList, some ⟨w2.heap.size, 0, none⟩, cap3) := by simpa using hy
         exact (HP3.out.below ha).kept (HO3.alloc _) hg9
       have HM9 : Hid (m + 1 = (Y ++ [(C1.data.toList, some (⟨w2.heap.size, 0, none⟩ : Addr), cap3)]).length) := by unfold Hid; rw [List.length_append, ← HM.out]; rfl
       have HY9 : Hid ((Y ++ [(C1.data.toList, some (⟨w2.heap.size, 0, none⟩ : Addr), cap3)]).map (·.1) = closed cur (Y.map (·.1))) := by
        unfold Hid
        rw [HOp.out.1 rfl, List.map_append]
        exact congrArg (fun z => Y.map (·.1) ++ [z]) HQ2.out
       obtain ⟨q9, c9, rfl⟩ := owned_slice R9
       have HR9 : Hid (w9.ownsRow w1.heap.size 22 1 (.slice q9 (m + 1) c9) (m + 1) (syv (Y ++ [(C1.data.toList, some ⟨w2.heap.size, 0, none⟩, cap3)]))) := R9
       generalize Y ++ [(C1.data.toList, some (⟨w2.heap.size, 0, none⟩ : Addr), cap3)] = Y9 at *
       clear hown9 hg9 R9 HO3 HS3 HP3 hcv3 HNC hnc hbe3 hsz3 hlt3
       have e1 : RES = some (closed cur (Y.map (·.1))) := hR.symm
       have HF : Hid (SplitPostR w (outR RES) (.returned (.tuple #[.slice q9 (m + 1) c9, .int .i64 0])) w9) := by
        unfold Hid
        rw [e1]
        exact splitPostR_ok (hb1.trans (hb9.mono hb1.size)) HY9.out (by rw [← HM9.out]; exact owns_low HR9.out hb1.size) (fun y hy => (HS9.out y hy).low hb1.size)
       clear e1 HR9 HS9 HM9 HY9
       go_wp2_with fail
       go_ret2
       exact HF.out
      ·rw [h13] at CH13
       obtain ⟨n2, C2, hn2, hx2, hs2', hd2⟩ := end_yes C1 13 h13
       have hs2 : C2.size ≤ 40000 := by omega
       clear hs2'
       have HQ2 : Hid (C2.data.toList = stripE C.data.toList) := by unfold Hid stripE; rw [hd2, hd1]
       clear hd1 hd2 h13
       go_wp2_with fail
       refine (CH10.out _).mono ?_
       rintro e w5 ⟨rfl, hw5⟩
       have hw6 := hw5.symm
       subst hw6
       clear CH10
       go_wp2_with fail
       refine (CH13.out _).mono ?_
       rintro e w5 ⟨rfl, hw5⟩
       have hw6 := hw5.symm
       subst hw6
       clear CH13
       have hQs : C2.size ≤ 40000 := by omega
       obtain ⟨W3, cap3, hcv3, hb3, hlt3, hpc3⟩ := conv_piece C2 w2 (by unfold maxLen; omega)
       have hbe3 : Below w1.heap.size w1 W3 := hbe2.trans (hb3.mono hsz2)
       have hsz3 := hbe3.size
       have HO3 := ownsRow_below HO2.out hb3
       have HP3 : Hid (PieceAt W3 w1.heap.size (C2.data.toList, some ⟨w2.heap.size, 0, none⟩, cap3)) := hpc3.low hsz2
       have HS3 : Hid (SLie W3 w1.heap.size Y) := fun y hy => (HS2.out y hy).below hb3
       obtain ⟨nc, hnc⟩ : ∃ nc, C2.size = nc := ⟨_, rfl⟩
       have HNC : Hid (C2.data.toList.length = nc) := by unfold Hid; rw [← Lib.size_eq]; exact hnc
       clear HO2 HS2 hpc3 hb3
       go_wp2_with (at_builtin; refine wpList_append_own _ rfl (.tmp 54) (.tmp 57) 29 rfl w1.heap.size 22 i0 (.slice none 0 0) 1 24 Tryz.underlying29 hi hz0 hz1 hz2 rfl (by decide) _ _ _ rfl (HO3.alloc _) ⟨W3.heap.size, 0, none⟩ 1 1 [.slice (some ⟨w2.heap.size, 0, none⟩) nc cap3] rfl rfl (cell_lone _ _ _ _ rfl) ?c2 ?c3 ?c4 ?c5 ?_)
       case c2 => intro u hu; simp at hu; subst hu; rfl
       case c3 => unfold maxLen; omega
       case c4 => omega
       case c5 => first | omega | (simp; omega)
       intro v9 w9 hown9 hg9 _
       have hb9 : Below w1.heap.size w1 w9 := (hbe3.alloc hsz3 _).grown hg9 (by simp; omega) (fun j hj => (HO3.lt j hj).1)
       have R9 : w9.ownsRow w1.heap.size 22 1 v9 (m + 1) (syv (Y ++ [(C2.data.toList, some ⟨w2.heap.size, 0, none⟩, cap3)])) := by
        rw [syv_snoc, HNC.out]
        exact hown9
       have HS9 : Hid (SLie w9 w1.heap.size (Y ++ [(C2.data.toList, some ⟨w2.heap.size, 0, none⟩, cap3)])) := fun y hy => by
        have ha : Below W3.heap.size W3 (W3.alloc (.cells #[.slice (some ⟨w2.heap.size, 0, none⟩) nc cap3] 22)) := (Below.refl _ _).alloc (Nat.le_refl _) _
        rcases List.mem_append.1 hy with hy | hy
        ·exact ((HS3.out y hy).below ha).kept (HO3.alloc _) hg9
        ·obtain rfl : y = (C2.data.toList, some ⟨w2.heap.size, 0, none⟩, cap3) := by simpa using hy
         exact (HP3.out.below ha).kept (HO3.alloc _) hg9
       have HM9 : Hid (m + 1 = (Y ++ [(C2.data.toList, some (⟨w2.heap.size, 0, none⟩ : Addr), cap3)]).length) := by unfold Hid; rw [List.length_append, ← HM.out]; rfl
       have HY9 : Hid ((Y ++ [(C2.data.toList, some (⟨w2.heap.size, 0, none⟩ : Addr), cap3)]).map (·.1) = closed cur (Y.map (·.1))) := by
        unfold Hid
        rw [HOp.out.1 rfl, List.map_append]
        exact congrArg (fun z => Y.map (·.1) ++ [z]) HQ2.out
       obtain ⟨q9, c9, rfl⟩ := owned_slice R9
       have HR9 : Hid (w9.ownsRow w1.heap.size 22 1 (.slice q9 (m + 1) c9) (m + 1) (syv (Y ++ [(C2.data.toList, some ⟨w2.heap.size, 0, none⟩, cap3)]))) := R9
       generalize Y ++ [(C2.data.toList, some (⟨w2.heap.size, 0, none⟩ : Addr), cap3)] = Y9 at *
       clear hown9 hg9 R9 HO3 HS3 HP3 hcv3 HNC hnc hbe3 hsz3 hlt3
       have e1 : RES = some (closed cur (Y.map (·.1))) := hR.symm
       have HF : Hid (SplitPostR w (outR RES) (.returned (.tuple #[.slice q9 (m + 1) c9, .int .i64 0])) w9) := by
        unfold Hid
        rw [e1]
        exact splitPostR_ok (hb1.trans (hb9.mono hb1.size)) HY9.out (by rw [← HM9.out]; exact owns_low HR9.out hb1.size) (fun y hy => (HS9.out y hy).low hb1.size)
       clear e1 HR9 HS9 HM9 HY9
       go_wp2_with fail
       go_ret2
       exact HF.out
   ·rw [if_neg h2] at hR
    rw [decide_eq_false h2] at hq2
    by_cases h1 : bareL X.data.toList = dd ++ B.data.toList
    ·rw [if_pos h1] at hR
     rw [decide_eq_true h1] at hq1
     clear h1 h2
     go_wp2_with fail
     refine (CT.out _).mono ?_
     rintro e w2 ⟨rfl, hb2⟩
     have hbe2 : Below w1.heap.size w1 w2 := hbr.trans (hb2.mono hsr)
     have HO2 : Hid (w2.ownsRow w1.heap.size 22 1 (.slice q m d) m (syv Y)) := ownsRow_below HO.out hb2
     have HS2 : Hid (SLie w2 w1.heap.size Y) := fun y hy => (HS.out y hy).below hb2
     clear CT HO HS hb2
     have hsz2 := hbe2.size
     cases o with
     | false =>
      have HR10 : Hid (splL B.data.toList (LS.drop (j + 1)) (some []) (Y.map (·.1)) = RES) := by unfold Hid; rw [← hR, HOp.out.2 rfl]; rfl
      have HCF3 : Hid ((⟨#[]⟩ : ByteArray).size + (LS.drop (j + 1)).flatten.length ≤ 40000) := by unfold Hid; have := HCF2.out; show 0 + _ ≤ _; omega
      clear hR
      go_wp2_with fail
      go_roundw
      case rel => exact ⟨j + 1, true, ⟨#[]⟩, q, m, d, Y, some [], by omega, by go_num, rfl, rfl, rfl, by omega, by decide, hbe2, HM, HCF3, HO2, HS2, ⟨fun _ => rfl, fun h => by cases h⟩, HR10⟩
      case measure => simp [intOf]; omega
     | true =>
      have CH10 : Hid (∀ W, Calls Tryz.prog 51 #[.string C, .string ⟨#[10]⟩] W fun e w' => e = .returned (.bool (Lib.hasSuffix C.data.toList [10])) ∧ w' = W) := fun W => Tryz.strings_HasSuffix C ⟨#[10]⟩ W (by omega)
      cases h10 : Lib.hasSuffix C.data.toList [10]
      ·rw [h10] at CH10
       obtain ⟨C1, hC1⟩ : ∃ C1, C = C1 := ⟨_, rfl⟩
       have hd1 : C1.data.toList = noEnd 10 C.data.toList := by rw [← hC1]; exact end_no C 10 h10
       have hs1 : C1.size ≤ 40000 := by rw [← hC1]; exact hC
       clear h10
       have CH13 : Hid (∀ W, Calls Tryz.prog 51 #[.string C1, .string ⟨#[13]⟩] W fun e w' => e = .returned (.bool (Lib.hasSuffix C1.data.toList [13])) ∧ w' = W) := fun W => Tryz.strings_HasSuffix C1 ⟨#[13]⟩ W (by omega)
       cases h13 : Lib.hasSuffix C1.data.toList [13]
       ·rw [h13] at CH13
        obtain ⟨C2, hC2⟩ : ∃ C2, C1 = C2 := ⟨_, rfl⟩
        have hd2 : C2.data.toList = noEnd 13 C1.data.toList := by rw [← hC2]; exact end_no C1 13 h13
        have hs2 : C2.size ≤ 40000 := by rw [← hC2]; omega
        have HQ2 : Hid (C2.data.toList = stripE C.data.toList) := by unfold Hid stripE; rw [hd2, hd1]
        clear hd1 hd2 h13
        subst hC1
        subst hC2
        go_wp2_with fail
        refine (CH10.out _).mono ?_
        rintro e w5 ⟨rfl, hw5⟩
        have hw6 := hw5.symm
        subst hw6
        clear CH10
        go_wp2_with fail
        refine (CH13.out _).mono ?_
        rintro e w5 ⟨rfl, hw5⟩
        have hw6 := hw5.symm
        subst hw6
        clear CH13
        have hQs : C.size ≤ 40000 := by omega
        obtain ⟨W3, cap3, hcv3, hb3, hlt3, hpc3⟩ := conv_piece C w2 (by unfold maxLen; omega)
        have hbe3 : Below w1.heap.size w1 W3 := hbe2.trans (hb3.mono hsz2)
        have hsz3 := hbe3.size
        have HO3 := ownsRow_below HO2.out hb3
        have HP3 : Hid (PieceAt W3 w1.heap.size (C.data.toList, some ⟨w2.heap.size, 0, none⟩, cap3)) := hpc3.low hsz2
        have HS3 : Hid (SLie W3 w1.heap.size Y) := fun y hy => (HS2.out y hy).below hb3
        obtain ⟨nc, hnc⟩ : ∃ nc, C.size = nc := ⟨_, rfl⟩
        have HNC : Hid (C.data.toList.length = nc) := by unfold Hid; rw [← Lib.size_eq]; exact hnc
        clear HO2 HS2 hpc3 hb3
        go_wp2_with (at_builtin; refine wpList_append_own _ rfl (.tmp 54) (.tmp 57) 29 rfl w1.heap.size 22 i0 (.slice none 0 0) 1 24 Tryz.underlying29 hi hz0 hz1 hz2 rfl (by decide) _ _ _ rfl (HO3.alloc _) ⟨W3.heap.size, 0, none⟩ 1 1 [.slice (some ⟨w2.heap.size, 0, none⟩) nc cap3] rfl rfl (cell_lone _ _ _ _ rfl) ?c2 ?c3 ?c4 ?c5 ?_)
        case c2 => intro u hu; simp at hu; subst hu; rfl
        case c3 => unfold maxLen; omega
        case c4 => omega
        case c5 => first | omega | (simp; omega)
        intro v9 w9 hown9 hg9 _
        have hb9 : Below w1.heap.size w1 w9 := (hbe3.alloc hsz3 _).grown hg9 (by simp; omega) (fun j hj => (HO3.lt j hj).1)
        have R9 : w9.ownsRow w1.heap.size 22 1 v9 (m + 1) (syv (Y ++ [(C.data.toList, some ⟨w2.heap.size, 0, none⟩, cap3)])) := by
         rw [syv_snoc, HNC.out]
         exact hown9
        have HS9 : Hid (SLie w9 w1.heap.size (Y ++ [(C.data.toList, some ⟨w2.heap.size, 0, none⟩, cap3)])) := fun y hy => by
         have ha : Below W3.heap.size W3 (W3.alloc (.cells #[.slice (some ⟨w2.heap.size, 0, none⟩) nc cap3] 22)) := (Below.refl _ _).alloc (Nat.le_refl _) _
         rcases List.mem_append.1 hy with hy | hy
         ·exact ((HS3.out y hy).below ha).kept (HO3.alloc _) hg9
         ·obtain rfl : y = (C.data.toList, some ⟨w2.heap.size, 0, none⟩, cap3) := by simpa using hy
          exact (HP3.out.below ha).kept (HO3.alloc _) hg9
        have HM9 : Hid (m + 1 = (Y ++ [(C.data.toList, some (⟨w2.heap.size, 0, none⟩ : Addr), cap3)]).length) := by unfold Hid; rw [List.length_append, ← HM.out]; rfl
        have HY9 : Hid ((Y ++ [(C.data.toList, some (⟨w2.heap.size, 0, none⟩ : Addr), cap3)]).map (·.1) = closed cur (Y.map (·.1))) := by
         unfold Hid
         rw [HOp.out.1 rfl, List.map_append]
         exact congrArg (fun z => Y.map (·.1) ++ [z]) HQ2.out
        obtain ⟨q9, c9, rfl⟩ := owned_slice R9
        have HR9 : Hid (w9.ownsRow w1.heap.size 22 1 (.slice q9 (m + 1) c9) (m + 1) (syv (Y ++ [(C.data.toList, some ⟨w2.heap.size, 0, none⟩, cap3)]))) := R9
        generalize Y ++ [(C.data.toList, some (⟨w2.heap.size, 0, none⟩ : Addr), cap3)] = Y9 at *
        clear hown9 hg9 R9 HO3 HS3 HP3 hcv3 HNC hnc hbe3 hsz3 hlt3
        have HR10 : Hid (splL B.data.toList (LS.drop (j + 1)) (some []) (Y9.map (·.1)) = RES) := by unfold Hid; rw [HY9.out]; exact hR
        have HCF3 : Hid ((⟨#[]⟩ : ByteArray).size + (LS.drop (j + 1)).flatten.length ≤ 40000) := by unfold Hid; have := HCF2.out; show 0 + _ ≤ _; omega
        clear hR HY9
        go_wp2_with fail
        go_roundw
        case rel => exact ⟨j + 1, true, ⟨#[]⟩, q9, m + 1, c9, Y9, some [], by omega, by go_num, rfl, rfl, rfl, by omega, by decide, hb9, HM9, HCF3, HR9, HS9, ⟨fun _ => rfl, fun h => by cases h⟩, HR10⟩
        case measure => simp [intOf]; omega
       ·rw [h13] at CH13
        obtain ⟨n2, C2, hn2, hx2, hs2', hd2⟩ := end_yes C1 13 h13
        have hs2 : C2.size ≤ 40000 := by omega
        clear hs2'
        have HQ2 : Hid (C2.data.toList = stripE C.data.toList) := by unfold Hid stripE; rw [hd2, hd1]
        clear hd1 hd2 h13
        subst hC1
        go_wp2_with fail
        refine (CH10.out _).mono ?_
        rintro e w5 ⟨rfl, hw5⟩
        have hw6 := hw5.symm
        subst hw6
        clear CH10
        go_wp2_with fail
        refine (CH13.out _).mono ?_
        rintro e w5 ⟨rfl, hw5⟩
        have hw6 := hw5.symm
        subst hw6
        clear CH13
        have hQs : C2.size ≤ 40000 := by omega
        obtain ⟨W3, cap3, hcv3, hb3, hlt3, hpc3⟩ := conv_piece C2 w2 (by unfold maxLen; omega)
        have hbe3 : Below w1.heap.size w1 W3 := hbe2.trans (hb3.mono hsz2)
        have hsz3 := hbe3.size
        have HO3 := ownsRow_below HO2.out hb3
        have HP3 : Hid (PieceAt W3 w1.heap.size (C2.data.toList, some ⟨w2.heap.size, 0, none⟩, cap3)) := hpc3.low hsz2
        have HS3 : Hid (SLie W3 w1.heap.size Y) := fun y hy => (HS2.out y hy).below hb3
        obtain ⟨nc, hnc⟩ : ∃ nc, C2.size = nc := ⟨_, rfl⟩
        have HNC : Hid (C2.data.toList.length = nc) := by unfold Hid; rw [← Lib.size_eq]; exact hnc
        clear HO2 HS2 hpc3 hb3
        go_wp2_with (at_builtin; refine wpList_append_own _ rfl (.tmp 54) (.tmp 57) 29 rfl w1.heap.size 22 i0 (.slice none 0 0) 1 24 Tryz.underlying29 hi hz0 hz1 hz2 rfl (by decide) _ _ _ rfl (HO3.alloc _) ⟨W3.heap.size, 0, none⟩ 1 1 [.slice (some ⟨w2.heap.size, 0, none⟩) nc cap3] rfl rfl (cell_lone _ _ _ _ rfl) ?c2 ?c3 ?c4 ?c5 ?_)
        case c2 => intro u hu; simp at hu; subst hu; rfl
        case c3 => unfold maxLen; omega
        case c4 => omega
        case c5 => first | omega | (simp; omega)
        intro v9 w9 hown9 hg9 _
        have hb9 : Below w1.heap.size w1 w9 := (hbe3.alloc hsz3 _).grown hg9 (by simp; omega) (fun j hj => (HO3.lt j hj).1)
        have R9 : w9.ownsRow w1.heap.size 22 1 v9 (m + 1) (syv (Y ++ [(C2.data.toList, some ⟨w2.heap.size, 0, none⟩, cap3)])) := by
         rw [syv_snoc, HNC.out]
         exact hown9
        have HS9 : Hid (SLie w9 w1.heap.size (Y ++ [(C2.data.toList, some ⟨w2.heap.size, 0, none⟩, cap3)])) := fun y hy => by
         have ha : Below W3.heap.size W3 (W3.alloc (.cells #[.slice (some ⟨w2.heap.size, 0, none⟩) nc cap3] 22)) := (Below.refl _ _).alloc (Nat.le_refl _) _
         rcases List.mem_append.1 hy with hy | hy
         ·exact ((HS3.out y hy).below ha).kept (HO3.alloc _) hg9
         ·obtain rfl : y = (C2.data.toList, some ⟨w2.heap.size, 0, none⟩, cap3) := by simpa using hy
          exact (HP3.out.below ha).kept (HO3.alloc _) hg9
        have HM9 : Hid (m + 1 = (Y ++ [(C2.data.toList, some (⟨w2.heap.size, 0, none⟩ : Addr), cap3)]).length) := by unfold Hid; rw [List.length_append, ← HM.out]; rfl
        have HY9 : Hid ((Y ++ [(C2.data.toList, some (⟨w2.heap.size, 0, none⟩ : Addr), cap3)]).map (·.1) = closed cur (Y.map (·.1))) := by
         unfold Hid
         rw [HOp.out.1 rfl, List.map_append]
         exact congrArg (fun z => Y.map (·.1) ++ [z]) HQ2.out
        obtain ⟨q9, c9, rfl⟩ := owned_slice R9
        have HR9 : Hid (w9.ownsRow w1.heap.size 22 1 (.slice q9 (m + 1) c9) (m + 1) (syv (Y ++ [(C2.data.toList, some ⟨w2.heap.size, 0, none⟩, cap3)]))) := R9
        generalize Y ++ [(C2.data.toList, some (⟨w2.heap.size, 0, none⟩ : Addr), cap3)] = Y9 at *
        clear hown9 hg9 R9 HO3 HS3 HP3 hcv3 HNC hnc hbe3 hsz3 hlt3
        have HR10 : Hid (splL B.data.toList (LS.drop (j + 1)) (some []) (Y9.map (·.1)) = RES) := by unfold Hid; rw [HY9.out]; exact hR
        have HCF3 : Hid ((⟨#[]⟩ : ByteArray).size + (LS.drop (j + 1)).flatten.length ≤ 40000) := by unfold Hid; have := HCF2.out; show 0 + _ ≤ _; omega
        clear hR HY9
        go_wp2_with fail
        go_roundw
        case rel => exact ⟨j + 1, true, ⟨#[]⟩, q9, m + 1, c9, Y9, some [], by omega, by go_num, rfl, rfl, rfl, by omega, by decide, hb9, HM9, HCF3, HR9, HS9, ⟨fun _ => rfl, fun h => by cases h⟩, HR10⟩
        case measure => simp [intOf]; omega
      ·rw [h10] at CH10
       obtain ⟨n1, C1, hn1, hx1, hs1', hd1⟩ := end_yes C 10 h10
       have hs1 : C1.size ≤ 40000 := by omega
       clear hs1'
       clear h10
       have CH13 : Hid (∀ W, Calls Tryz.prog 51 #[.string C1, .string ⟨#[13]⟩] W fun e w' => e = .returned (.bool (Lib.hasSuffix C1.data.toList [13])) ∧ w' = W) := fun W => Tryz.strings_HasSuffix C1 ⟨#[13]⟩ W (by omega)
       cases h13 : Lib.hasSuffix C1.data.toList [13]
       ·rw [h13] at CH13
        obtain ⟨C2, hC2⟩ : ∃ C2, C1 = C2 := ⟨_, rfl⟩
        have hd2 : C2.data.toList = noEnd 13 C1.data.toList := by rw [← hC2]; exact end_no C1 13 h13
        have hs2 : C2.size ≤ 40000 := by rw [← hC2]; omega
        have HQ2 : Hid (C2.data.toList = stripE C.data.toList) := by unfold Hid stripE; rw [hd2, hd1]
        clear hd1 hd2 h13
        subst hC2
        go_wp2_with fail
        refine (CH10.out _).mono ?_
        rintro e w5 ⟨rfl, hw5⟩
        have hw6 := hw5.symm
        subst hw6
        clear CH10
        go_wp2_with fail
        refine (CH13.out _).mono ?_
        rintro e w5 ⟨rfl, hw5⟩
        have hw6 := hw5.symm
        subst hw6
        clear CH13
        have hQs : C1.size ≤ 40000 := by omega
        obtain ⟨W3, cap3, hcv3, hb3, hlt3, hpc3⟩ := conv_piece C1 w2 (by unfold maxLen; omega)
        have hbe3 : Below w1.heap.size w1 W3 := hbe2.trans (hb3.mono hsz2)
        have hsz3 := hbe3.size
        have HO3 := ownsRow_below HO2.out hb3
        have HP3 : Hid (PieceAt W3 w1.heap.size (C1.data.toList, some ⟨w2.heap.size, 0, none⟩, cap3)) := hpc3.low hsz2
        have HS3 : Hid (SLie W3 w1.heap.size Y) := fun y hy => (HS2.out y hy).below hb3
        obtain ⟨nc, hnc⟩ : ∃ nc, C1.size = nc := ⟨_, rfl⟩
        have HNC : Hid (C1.data.toList.length = nc) := by unfold Hid; rw [← Lib.size_eq]; exact hnc
        clear HO2 HS2 hpc3 hb3
        go_wp2_with (at_builtin; refine wpList_append_own _ rfl (.tmp 54) (.tmp 57) 29 rfl w1.heap.size 22 i0 (.slice none 0 0) 1 24 Tryz.underlying29 hi hz0 hz1 hz2 rfl (by decide) _ _ _ rfl (HO3.alloc _) ⟨W3.heap.size, 0, none⟩ 1 1 [.slice (some ⟨w2.heap.size, 0, none⟩) nc cap3] rfl rfl (cell_lone _ _ _ _ rfl) ?c2 ?c3 ?c4 ?c5 ?_)
        case c2 => intro u hu; simp at hu; subst hu; rfl
        case c3 => unfold maxLen; omega
        case c4 => omega
        case c5 => first | omega | (simp; omega)
        intro v9 w9 hown9 hg9 _
        have hb9 : Below w1.heap.size w1 w9 := (hbe3.alloc hsz3 _).grown hg9 (by simp; omega) (fun j hj => (HO3.lt j hj).1)
        have R9 : w9.ownsRow w1.heap.size 22 1 v9 (m + 1) (syv (Y ++ [(C1.data.toList, some ⟨w2.heap.size, 0, none⟩, cap3)])) := by
         rw [syv_snoc, HNC.out]
         exact hown9
        have HS9 : Hid (SLie w9 w1.heap.size (Y ++ [(C1.data.toList, some ⟨w2.heap.size, 0, none⟩, cap3)])) := fun y hy => by
         have ha : Below W3.heap.size W3 (W3.alloc (.cells #[.slice (some ⟨w2.heap.size, 0, none⟩) nc cap3] 22)) := (Below.refl _ _).alloc (Nat.le_refl _) _
         rcases List.mem_append.1 hy with hy | hy
         ·exact ((HS3.out y hy).below ha).kept (HO3.alloc _) hg9
         ·obtain rfl : y = (C1.data.toList, some ⟨w2.heap.size, 0, none⟩, cap3) := by simpa using hy
          exact (HP3.out.below ha).kept (HO3.alloc _) hg9
        have HM9 : Hid (m + 1 = (Y ++ [(C1.data.toList, some (⟨w2.heap.size, 0, none⟩ : Addr), cap3)]).length) := by unfold Hid; rw [List.length_append, ← HM.out]; rfl
        have HY9 : Hid ((Y ++ [(C1.data.toList, some (⟨w2.heap.size, 0, none⟩ : Addr), cap3)]).map (·.1) = closed cur (Y.map (·.1))) := by
         unfold Hid
         rw [HOp.out.1 rfl, List.map_append]
         exact congrArg (fun z => Y.map (·.1) ++ [z]) HQ2.out
        obtain ⟨q9, c9, rfl⟩ := owned_slice R9
        have HR9 : Hid (w9.ownsRow w1.heap.size 22 1 (.slice q9 (m + 1) c9) (m + 1) (syv (Y ++ [(C1.data.toList, some ⟨w2.heap.size, 0, none⟩, cap3)]))) := R9
        generalize Y ++ [(C1.data.toList, some (⟨w2.heap.size, 0, none⟩ : Addr), cap3)] = Y9 at *
        clear hown9 hg9 R9 HO3 HS3 HP3 hcv3 HNC hnc hbe3 hsz3 hlt3
        have HR10 : Hid (splL B.data.toList (LS.drop (j + 1)) (some []) (Y9.map (·.1)) = RES) := by unfold Hid; rw [HY9.out]; exact hR
        have HCF3 : Hid ((⟨#[]⟩ : ByteArray).size + (LS.drop (j + 1)).flatten.length ≤ 40000) := by unfold Hid; have := HCF2.out; show 0 + _ ≤ _; omega
        clear hR HY9
        go_wp2_with fail
        go_roundw
        case rel => exact ⟨j + 1, true, ⟨#[]⟩, q9, m + 1, c9, Y9, some [], by omega, by go_num, rfl, rfl, rfl, by omega, by decide, hb9, HM9, HCF3, HR9, HS9, ⟨fun _ => rfl, fun h => by cases h⟩, HR10⟩
        case measure => simp [intOf]; omega
       ·rw [h13] at CH13
        obtain ⟨n2, C2, hn2, hx2, hs2', hd2⟩ := end_yes C1 13 h13
        have hs2 : C2.size ≤ 40000 := by omega
        clear hs2'
        have HQ2 : Hid (C2.data.toList = stripE C.data.toList) := by unfold Hid stripE; rw [hd2, hd1]
        clear hd1 hd2 h13
        go_wp2_with fail
        refine (CH10.out _).mono ?_
        rintro e w5 ⟨rfl, hw5⟩
        have hw6 := hw5.symm
        subst hw6
        clear CH10
        go_wp2_with fail
        refine (CH13.out _).mono ?_
        rintro e w5 ⟨rfl, hw5⟩
        have hw6 := hw5.symm
        subst hw6
        clear CH13
        have hQs : C2.size ≤ 40000 := by omega
        obtain ⟨W3, cap3, hcv3, hb3, hlt3, hpc3⟩ := conv_piece C2 w2 (by unfold maxLen; omega)
        have hbe3 : Below w1.heap.size w1 W3 := hbe2.trans (hb3.mono hsz2)
        have hsz3 := hbe3.size
        have HO3 := ownsRow_below HO2.out hb3
        have HP3 : Hid (PieceAt W3 w1.heap.size (C2.data.toList, some ⟨w2.heap.size, 0, none⟩, cap3)) := hpc3.low hsz2
        have HS3 : Hid (SLie W3 w1.heap.size Y) := fun y hy => (HS2.out y hy).below hb3
        obtain ⟨nc, hnc⟩ : ∃ nc, C2.size = nc := ⟨_, rfl⟩
        have HNC : Hid (C2.data.toList.length = nc) := by unfold Hid; rw [← Lib.size_eq]; exact hnc
        clear HO2 HS2 hpc3 hb3
        go_wp2_with (at_builtin; refine wpList_append_own _ rfl (.tmp 54) (.tmp 57) 29 rfl w1.heap.size 22 i0 (.slice none 0 0) 1 24 Tryz.underlying29 hi hz0 hz1 hz2 rfl (by decide) _ _ _ rfl (HO3.alloc _) ⟨W3.heap.size, 0, none⟩ 1 1 [.slice (some ⟨w2.heap.size, 0, none⟩) nc cap3] rfl rfl (cell_lone _ _ _ _ rfl) ?c2 ?c3 ?c4 ?c5 ?_)
        case c2 => intro u hu; simp at hu; subst hu; rfl
        case c3 => unfold maxLen; omega
        case c4 => omega
        case c5 => first | omega | (simp; omega)
        intro v9 w9 hown9 hg9 _
        have hb9 : Below w1.heap.size w1 w9 := (hbe3.alloc hsz3 _).grown hg9 (by simp; omega) (fun j hj => (HO3.lt j hj).1)
        have R9 : w9.ownsRow w1.heap.size 22 1 v9 (m + 1) (syv (Y ++ [(C2.data.toList, some ⟨w2.heap.size, 0, none⟩, cap3)])) := by
         rw [syv_snoc, HNC.out]
         exact hown9
        have HS9 : Hid (SLie w9 w1.heap.size (Y ++ [(C2.data.toList, some ⟨w2.heap.size, 0, none⟩, cap3)])) := fun y hy => by
         have ha : Below W3.heap.size W3 (W3.alloc (.cells #[.slice (some ⟨w2.heap.size, 0, none⟩) nc cap3] 22)) := (Below.refl _ _).alloc (Nat.le_refl _) _
         rcases List.mem_append.1 hy with hy | hy
         ·exact ((HS3.out y hy).below ha).kept (HO3.alloc _) hg9
         ·obtain rfl : y = (C2.data.toList, some ⟨w2.heap.size, 0, none⟩, cap3) := by simpa using hy
          exact (HP3.out.below ha).kept (HO3.alloc _) hg9
        have HM9 : Hid (m + 1 = (Y ++ [(C2.data.toList, some (⟨w2.heap.size, 0, none⟩ : Addr), cap3)]).length) := by unfold Hid; rw [List.length_append, ← HM.out]; rfl
        have HY9 : Hid ((Y ++ [(C2.data.toList, some (⟨w2.heap.size, 0, none⟩ : Addr), cap3)]).map (·.1) = closed cur (Y.map (·.1))) := by
         unfold Hid
         rw [HOp.out.1 rfl, List.map_append]
         exact congrArg (fun z => Y.map (·.1) ++ [z]) HQ2.out
        obtain ⟨q9, c9, rfl⟩ := owned_slice R9
        have HR9 : Hid (w9.ownsRow w1.heap.size 22 1 (.slice q9 (m + 1) c9) (m + 1) (syv (Y ++ [(C2.data.toList, some ⟨w2.heap.size, 0, none⟩, cap3)]))) := R9
        generalize Y ++ [(C2.data.toList, some (⟨w2.heap.size, 0, none⟩ : Addr), cap3)] = Y9 at *
        clear hown9 hg9 R9 HO3 HS3 HP3 hcv3 HNC hnc hbe3 hsz3 hlt3
        have HR10 : Hid (splL B.data.toList (LS.drop (j + 1)) (some []) (Y9.map (·.1)) = RES) := by unfold Hid; rw [HY9.out]; exact hR
        have HCF3 : Hid ((⟨#[]⟩ : ByteArray).size + (LS.drop (j + 1)).flatten.length ≤ 40000) := by unfold Hid; have := HCF2.out; show 0 + _ ≤ _; omega
        clear hR HY9
        go_wp2_with fail
        go_roundw
        case rel => exact ⟨j + 1, true, ⟨#[]⟩, q9, m + 1, c9, Y9, some [], by omega, by go_num, rfl, rfl, rfl, by omega, by decide, hb9, HM9, HCF3, HR9, HS9, ⟨fun _ => rfl, fun h => by cases h⟩, HR10⟩
        case measure => simp [intOf]; omega
    ·rw [if_neg h1] at hR
     rw [decide_eq_false h1] at hq1
     clear h1 h2
     go_wp2_with fail
     refine (CT.out _).mono ?_
     rintro e w2 ⟨rfl, hb2⟩
     have hbe2 : Below w1.heap.size w1 w2 := hbr.trans (hb2.mono hsr)
     have HO2 : Hid (w2.ownsRow w1.heap.size 22 1 (.slice q m d) m (syv Y)) := ownsRow_below HO.out hb2
     have HS2 : Hid (SLie w2 w1.heap.size Y) := fun y hy => (HS.out y hy).below hb2
     clear CT HO HS hb2
     have hCXs : (C ++ X).size ≤ 40000 := by rw [ByteArray.size_append]; exact hCX
     have HCX : Hid ((C ++ X).size + (LS.drop (j + 1)).flatten.length ≤ 40000) := by unfold Hid; rw [ByteArray.size_append]; exact HCF2.out
     have HOpX : Hid (OpenIs o (C ++ X) (cur.map (· ++ X.data.toList))) := ⟨fun h => by rw [HOp.out.1 h]; simp, fun h => by rw [HOp.out.2 h]; rfl⟩
     have HRX : Hid (splL B.data.toList (LS.drop (j + 1)) (cur.map (· ++ X.data.toList)) (Y.map (·.1)) = RES) := hR
     clear hR HOp
     go_wp2_with fail
     go_roundw
     case rel => exact ⟨j + 1, o, _, q, m, d, Y, _, by omega, by go_num, rfl, rfl, rfl, by omega, hCXs, hbe2, HM, HCX, HO2, HS2, HOpX, HRX⟩
     case measure => simp [intOf]; omega
  ·obtain rfl : j = N := by omega
   have e1 : RES = none := by rw [← HR.out, ← HLl.out, List.drop_length, splL]
   have hbe : Below w.heap.size w wr := hb1.trans (hbr.mono hb1.size)
   clear HR HX HOp HS HO HCF
   go_wp2_with fail
   go_ret2
   show SplitPostR _ _ _ _
   rw [e1]
   exact splitPostR_no hbe (by decide)
end Go.Proofs.YtlndhdimamnnlaaGreatDoor

