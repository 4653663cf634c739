
import Derived.Test.YtlndhdimamnnlaaGreatDoorXmimesays9
import Derived.Deep.SlicePairs
namespace Go.Proofs.YtlndhdimamnnlaaGreatDoor
open Go.RowKit
abbrev SY := List UInt8 × Option Addr × Nat
def syv (Y : List SY) : List Value := Y.map fun y => .slice y.2.1 y.1.length y.2.2
theorem syv_snoc (Y : List SY) (y : SY) : syv (Y ++ [y]) = syv Y ++ [.slice y.2.1 y.1.length y.2.2] := by simp [syv]
def SOwn (w : World) (B : Nat) (Y : List SY) : Prop := ∀ y ∈ Y, w.ownsRow B 5 1 (.slice y.2.1 y.1.length y.2.2) y.1.length (bv y.1)
def SplitPost (w : World) (r : List (List UInt8) × Nat) (e : Ending) (w' : World) : Prop :=
 Below w.heap.size w w' ∧ ∃ v, e = .returned (.tuple #[v, .int .i64 (r.2 : Int)]) ∧ (r.2 ≠ 0 → v = .slice none 0 0) ∧ (r.2 = 0 → ∃ Y : List SY, Y.map (·.1) = r.1 ∧ w'.ownsRow w.heap.size 22 1 v r.1.length (syv Y) ∧ SOwn w' w.heap.size Y)
theorem splitPost_no {w w' : World} {k : Nat} (hb : Below w.heap.size w w') (hk : k ≠ 0) : SplitPost w ([], k) (.returned (.tuple #[.slice none 0 0, .int .i64 (k : Int)])) w' := ⟨hb, _, rfl, fun _ => rfl, fun h => absurd h hk⟩
theorem splitPost_ok {w w' : World} {v : Value} {Y : List SY} {l : List (List UInt8)} (hb : Below w.heap.size w w') (hY : Y.map (·.1) = l) (hown : w'.ownsRow w.heap.size 22 1 v Y.length (syv Y)) (hs : SOwn w' w.heap.size Y) : SplitPost w (l, 0) (.returned (.tuple #[v, .int .i64 0])) w' := by
 refine ⟨hb, v, rfl, fun h => absurd rfl h, fun _ => ⟨Y, hY, ?_, hs⟩⟩
 show w'.ownsRow _ _ _ v l.length _
 rw [← hY, List.length_map]
 exact hown
theorem owns_low {w : World} {B B' e s n : Nat} {v : Value} {xs : List Value} (h : w.ownsRow B e s v n xs) (hb : B' ≤ B) : w.ownsRow B' e s v n xs := by
 refine ⟨h.1, ?_⟩
 rcases h.2 with h | ⟨g, cap, cur, e1, e2, r⟩
 ·exact .inl h
 ·exact .inr ⟨g, cap, cur, e1, Nat.le_trans hb e2, r⟩
theorem info_bytes : (Tryz.prog.info? 22).map (fun i => (i.zero, i.size, i.bytes)) = some (some (.slice none 0 0), 1, 24) := by kernel_rfl
def curOf (L : List UInt8) (st : Option Nat) (k : Nat) : Option (List UInt8) := st.map fun s => (L.drop s).take (k - s)
theorem curOf_next (L : List UInt8) (st : Option Nat) (k M : Nat) (h : ∀ s, st = some s → s ≤ k) : (curOf L st k).map (· ++ (L.drop k).take M) = curOf L st (k + M) := by
 cases st with
 | none => rfl
 | some s =>
  have hs := h s rfl
  simp only [curOf, Option.map_some]
  congr 1
  have e : k + M - s = (k - s) + M := by omega
  rw [e, List.take_add, List.drop_drop, show s + (k - s) = k by omega]
def startZ (st : Option Nat) : Int := match st with | none => -1 | some s => (s : Int)
def outR (r : Option (List (List UInt8))) : List (List UInt8) × Nat := match r with | none => ([], 1) | some l => (l, 0)
set_option maxHeartbeats 4000000 in
set_option maxRecDepth 100000 in
theorem split_some (b o n c : Nat) (L : List UInt8) (en : n = L.length) (B : ByteArray) (hB1 : 1 ≤ B.size) (hB2 : B.size ≤ 60) (w : World) (h0 : 1 ≤ n) (hn : n ≤ 40000) (hc : n ≤ c) (hr : BAt w b o L) :
  Calls Tryz.prog 6 #[.slice (some ⟨b, o, none⟩) n c, .string B] w fun e w' => SplitPost w (outR (splitGo B.data.toList (L.length + 1) L none [])) e w' := by
 obtain ⟨i0, hi, hz0, hz1, hz2⟩ := info_parts info_bytes
 have hBe : B.toList.isEmpty = false := by
  rw [ByteArray.toList_eq]
  cases h : B.data.toList with
  | nil => have := congrArg List.length h; rw [← Lib.size_eq, List.length_nil] at this; omega
  | cons a l => rfl
 have hB60 : ¬ ((60 : Int) < (B.size : Int)) := by omega
 have hn4 : ¬ ((40000 : Int) < (n : Int)) := by omega
 have HL : Hid (n = L.length) := en
 have HRow : Hid (∀ w', Below w.heap.size w w' → BAt w' b o L) := fun w' hb => hr.below hb
 obtain ⟨RES, hRES⟩ : ∃ RES, splitGo B.data.toList (L.length + 1) L none [] = RES := ⟨_, rfl⟩
 have HRES : Hid (splitGo B.data.toList (L.length + 1) (L.drop 0) (curOf L none 0) [] = RES) := hRES
 rw [hRES]
 clear hRES hr en
 go_enter Tryz.func6, Tryz.ntmps6
 go_wp2_with fail
 go_loopw [6, 7, 8] (fun ov sv iv wr => ∃ (k : Nat) (st : Option Nat) (f : Nat) (q : Option Addr) (m d : Nat) (Y : List SY), k ≤ n ∧ iv = .int .i64 k ∧ sv = .int .i64 (startZ st) ∧ ov = .slice q m d ∧ Below w.heap.size w wr ∧ Hid (n - k < f) ∧ Hid (∀ s, st = some s → s ≤ k) ∧ Hid (m = Y.length) ∧ m ≤ k ∧ Hid (wr.ownsRow w.heap.size 22 1 (.slice q m d) m (syv Y)) ∧ Hid (SOwn wr w.heap.size Y) ∧ Hid (splitGo B.data.toList f (L.drop k) (curOf L st k) (Y.map (·.1)) = RES)) (fun _ _ iv _ => n - (intOf iv).toNat)
 case atStart => exact ⟨0, none, L.length + 1, none, 0, 0, [], Nat.zero_le _, rfl, rfl, rfl, Below.refl _ _, by unfold Hid; have := HL.out; omega, (fun s hs => by cases hs), rfl, Nat.le_refl _, World.ownsRow_nil _ _ _ _, (fun y hy => by cases hy), HRES⟩
 case round =>
  obtain ⟨k, st, f, q, m, d, Y, hk, rfl, rfl, rfl, hbr, HF, HST, hmY, hmk, HO, HS, HR⟩ := hrel
  clear HRES
  have hsr := hbr.size
  by_cases hlt : k < n
  ·have hlz : (k : Int) < (n : Int) := by omega
   obtain ⟨f', rfl⟩ : ∃ f', f = f' + 1 := ⟨f - 1, by have := HF.out; omega⟩
   have hAt := HRow.out wr hbr
   have hne : L.drop k ≠ [] := fun e => by have := congrArg List.length e; rw [List.length_drop, List.length_nil, ← HL.out] at this; omega
   have hM1 := lineN_pos _ hne
   have hM2 := lineN_le (L.drop k)
   rw [List.length_drop, ← HL.out] at hM2
   have CL : Hid (Calls Tryz.prog 25 #[.slice (some ⟨b, o, none⟩) n c, .int .i64 (k : Int)] wr fun e w' => e = .returned (.int .i64 ((k + lineN (L.drop k) : Nat) : Int)) ∧ w' = wr) := mline_any b o n c L HL.out k hlt hn hc wr hAt
   have CB : Hid (Calls Tryz.prog 26 #[.slice (some ⟨b, o + k, none⟩) (k + lineN (L.drop k) - k) (c - k), .string B] wr fun e w' => e = .returned (.tuple #[.bool (decide (bareL ((L.drop k).take (lineN (L.drop k))) = dd ++ B.data.toList)), .bool (decide (bareL ((L.drop k).take (lineN (L.drop k))) = dd ++ B.data.toList ++ dd))]) ∧ Below wr.heap.size wr w') :=
    border_any b (o + k) _ (c - k) ((L.drop k).take (lineN (L.drop k))) (by rw [List.length_take, List.length_drop, ← HL.out]; omega) B wr (by omega) (by omega) (by omega) ((hAt.drop k).take _)
   rw [splitGo, if_neg hne] at HR
   have hnext := curOf_next L st k (lineN (L.drop k)) HST.out
   rw [hnext, List.drop_drop] at HR
   have HA' : Hid (¬ dd ++ B.data.toList = dd ++ B.data.toList ++ dd) := dd_apart _
   generalize hline : bareL ((L.drop k).take (lineN (L.drop k))) = line at *
   generalize hMM : lineN (L.drop k) = M at *
   obtain ⟨N2, hN2⟩ : ∃ N2, k + M = N2 := ⟨_, rfl⟩
   rw [hN2] at CL CB HR
   have hN2n : N2 ≤ n := by omega
   have hkN : k < N2 := by omega
   clear hline hMM hne hnext hM1 hM2 hAt hN2
   by_cases he : line = dd ++ B.data.toList ++ dd
   ·have hd1 : decide (line = dd ++ B.data.toList) = false := decide_eq_false (fun h => HA'.out (h.symm.trans he))
    have hd2 : decide (line = dd ++ B.data.toList ++ dd) = true := decide_eq_true he
    rw [if_pos he] at HR
    rw [hd1, hd2] at CB
    clear hd1 hd2 he
    go_wp2_with fail
    refine CL.out.mono ?_
    rintro e w1 ⟨rfl, hw1⟩
    have hw1' := hw1.symm
    subst hw1'
    clear CL
    go_wp2_with fail
    refine CB.out.mono ?_
    rintro e w2 ⟨rfl, hb2⟩
    clear CB
    have hbel2 : Below w.heap.size w w2 := hbr.trans (hb2.mono hsr)
    have hs2 := hbel2.size
    have HO2 : Hid (w2.ownsRow w.heap.size 22 1 (.slice q m d) m (syv Y)) := ownsRow_below HO.out hb2
    have HS2 : Hid (SOwn w2 w.heap.size Y) := fun y hy => ownsRow_below (HS.out y hy) hb2
    clear HO HS hb2
    cases st with
    | none =>
     have hsz0 : ¬ ((0 : Int) ≤ startZ none) := by decide
     go_wp2_with fail
     go_ret2
     show SplitPost _ _ _ _
     have e1 : RES = some (Y.map (·.1)) := HR.out.symm
     rw [e1]
     exact splitPost_ok hbel2 rfl (by rw [← hmY.out]; exact HO2.out) HS2.out
    | some s =>
     have hsk : s ≤ k := HST.out s rfl
     have CW : Hid (∀ w', Below w.heap.size w w' → Calls Tryz.prog 28 #[.slice (some ⟨b, o + s, none⟩) (k - s) (c - s)] w' fun e w'' => e = .returned (.slice (some ⟨b, o + s, none⟩) (stripE ((L.drop s).take (k - s))).length (c - s)) ∧ Below w'.heap.size w' w'') := fun w' hb =>
      strip_any b (o + s) (k - s) (c - s) ((L.drop s).take (k - s)) (by rw [List.length_take, List.length_drop, ← HL.out]; omega) w' (by omega) (by omega) (((HRow.out w' hb).drop s).take _)
     have CC : Hid (∀ w', Below w.heap.size w w' → Calls Tryz.prog 27 #[.slice (some ⟨b, o + s, none⟩) (stripE ((L.drop s).take (k - s))).length (c - s)] w' fun e w'' => ∃ q c', e = .returned (.slice q (stripE ((L.drop s).take (k - s))).length c') ∧ w''.ownsRow w'.heap.size 5 1 (.slice q (stripE ((L.drop s).take (k - s))).length c') (stripE ((L.drop s).take (k - s))).length (bv (stripE ((L.drop s).take (k - s)))) ∧ Below w'.heap.size w' w'') := fun w' hb => by
      refine bclone_any (some ⟨b, o + s, none⟩) (stripE ((L.drop s).take (k - s))) _ (c - s) rfl w' ?_ (by have h1 := noEnd_le 13 (noEnd 10 ((L.drop s).take (k - s))); have h2 := noEnd_le 10 ((L.drop s).take (k - s)); rw [List.length_take, List.length_drop, ← HL.out] at h2; show (stripE _).length ≤ _; unfold stripE; omega)
      have h1 := (((HRow.out w' hb).drop s).take (k - s)).take (noEnd 10 ((L.drop s).take (k - s))).length
      rw [← noEnd_take] at h1
      have h2 := h1.take (stripE ((L.drop s).take (k - s))).length
      have e3 : (noEnd 10 ((L.drop s).take (k - s))).take (stripE ((L.drop s).take (k - s))).length = stripE ((L.drop s).take (k - s)) := (noEnd_take 13 _).symm
      rw [e3] at h2
      exact h2.row
     have HCl : Hid (closed (curOf L (some s) k) (Y.map (·.1)) = Y.map (·.1) ++ [stripE ((L.drop s).take (k - s))]) := rfl
     have hsz0 : (0 : Int) ≤ startZ (some s) := by show (0 : Int) ≤ (s : Int); omega
     have hszs : startZ (some s) = (s : Int) := rfl
     rw [hszs]
     generalize hP : stripE ((L.drop s).take (k - s)) = P at *
     obtain ⟨np, hnp⟩ : ∃ np, P.length = np := ⟨_, rfl⟩
     have HNP : Hid (P.length = np) := hnp
     rw [hnp] at CW CC
     clear hnp hP hszs
     go_wp2_with fail
     refine (CW.out _ hbel2).mono ?_
     rintro e w3 ⟨rfl, hb3⟩
     have hbel3 : Below w.heap.size w w3 := hbel2.trans (hb3.mono hs2)
     clear CW
     go_wp2_with fail
     refine (CC.out _ hbel3).mono ?_
     rintro e w4 ⟨q4, c4, rfl, own4, hb4⟩
     have hs3 := hbel3.size
     have hbel4 : Below w.heap.size w w4 := hbel3.trans (hb4.mono hs3)
     have hs4 := hbel4.size
     have HO4 := ownsRow_below (ownsRow_below HO2.out hb3) hb4
     have HS4 : Hid (SOwn w4 w.heap.size Y) := fun y hy => ownsRow_below (ownsRow_below (HS2.out y hy) hb3) hb4
     have HN4 : Hid (w4.ownsRow w.heap.size 5 1 (.slice q4 np c4) np (bv P)) := owns_low own4 hs3
     clear CC HO2 HS2 own4 hb3 hb4
     go_wp2_with (at_builtin; refine wpList_append_own _ rfl (.tmp 47) (.tmp 54) 29 rfl w.heap.size 22 i0 (.slice none 0 0) 1 24 Tryz.underlying29 hi hz0 hz1 hz2 rfl (by decide) _ _ _ rfl (HO4.alloc _) ⟨w4.heap.size, 0, none⟩ 1 1 [.slice q4 np c4] rfl rfl (cell_lone _ _ _ _ rfl) ?c2 ?c3 ?c4 ?c5 ?_)
     case c2 => intro u hu; simp at hu; subst hu; rfl
     case c3 => unfold maxLen; omega
     case c4 => omega
     case c5 => first | omega | (simp; omega)
     intro v9 w9 hown9 hg9 _
     have hb9 : Below w.heap.size w w9 := (hbel4.alloc hs4 _).grown hg9 (by simp; omega) (fun j hj => (HO4.lt j hj).1)
     have R9 : w9.ownsRow w.heap.size 22 1 v9 (Y ++ [(P, q4, c4)]).length (syv (Y ++ [(P, q4, c4)])) := by
      rw [syv_snoc, List.length_append, HNP.out, ← hmY.out]
      exact hown9
     have HS9 : Hid (SOwn w9 w.heap.size (Y ++ [(P, q4, c4)])) := fun y hy => by
      rcases List.mem_append.1 hy with hy | hy
      ·exact ((HS4.out y hy).alloc _).kept hg9 (owns_apart (HS4.out y hy) HO4 (by decide))
      ·obtain rfl : y = (P, q4, c4) := by simpa using hy
       have h4 := HN4.out
       show w9.ownsRow w.heap.size 5 1 (.slice q4 P.length c4) P.length (bv P)
       rw [HNP.out]
       exact (h4.alloc _).kept hg9 (owns_apart h4 HO4 (by decide))
     have HM9 : Hid ((Y ++ [(P, q4, c4)]).length = m + 1) := by unfold Hid; rw [List.length_append, ← hmY.out]; rfl
     rw [HM9.out] at R9
     obtain ⟨q9, c9, rfl⟩ := owned_slice R9
     have HR9 : Hid (w9.ownsRow w.heap.size 22 1 (.slice q9 (m + 1) c9) (m + 1) (syv (Y ++ [(P, q4, c4)]))) := R9
     have HY9 : Hid ((Y ++ [(P, q4, c4)]).map (·.1) = Y.map (·.1) ++ [P]) := by unfold Hid; rw [List.map_append]; rfl
     clear hown9 hg9 R9 HO4 HS4 HN4
     go_wp2_with fail
     go_ret2
     show SplitPost _ _ _ _
     have e1 : RES = some (Y.map (·.1) ++ [P]) := by rw [← HR.out, HCl.out]
     rw [e1]
     exact splitPost_ok hb9 HY9.out (by rw [HM9.out]; exact HR9.out) HS9.out
   ·by_cases hg : line = dd ++ B.data.toList
    ·have hd1 : decide (line = dd ++ B.data.toList) = true := decide_eq_true hg
     have hd2 : decide (line = dd ++ B.data.toList ++ dd) = false := decide_eq_false he
     rw [if_neg he, if_pos hg] at HR
     rw [hd1, hd2] at CB
     clear hd1 hd2 he hg
     go_wp2_with fail
     refine CL.out.mono ?_
     rintro e w1 ⟨rfl, hw1⟩
     have hw1' := hw1.symm
     subst hw1'
     clear CL
     go_wp2_with fail
     refine CB.out.mono ?_
     rintro e w2 ⟨rfl, hb2⟩
     clear CB
     have hbel2 : Below w.heap.size w w2 := hbr.trans (hb2.mono hsr)
     have hs2 := hbel2.size
     have HO2 : Hid (w2.ownsRow w.heap.size 22 1 (.slice q m d) m (syv Y)) := ownsRow_below HO.out hb2
     have HS2 : Hid (SOwn w2 w.heap.size Y) := fun y hy => ownsRow_below (HS.out y hy) hb2
     clear HO HS hb2
     cases st with
     | none =>
      have hsz0 : ¬ ((0 : Int) ≤ startZ none) := by decide
      go_wp2_with fail
      go_roundw
      case rel => exact ⟨N2, some N2, f', q, m, d, Y, hN2n, rfl, rfl, rfl, hbel2, by unfold Hid; have := HF.out; omega, (fun s hs => by cases hs; exact Nat.le_refl _), hmY, by omega, HO2, HS2, by
       unfold Hid
       rw [← HR.out]
       simp [curOf, closed]⟩
      case measure => simp [intOf]; omega
     | some s =>
      have hsk : s ≤ k := HST.out s rfl
      have CW : Hid (∀ w', Below w.heap.size w w' → Calls Tryz.prog 28 #[.slice (some ⟨b, o + s, none⟩) (k - s) (c - s)] w' fun e w'' => e = .returned (.slice (some ⟨b, o + s, none⟩) (stripE ((L.drop s).take (k - s))).length (c - s)) ∧ Below w'.heap.size w' w'') := fun w' hb =>
       strip_any b (o + s) (k - s) (c - s) ((L.drop s).take (k - s)) (by rw [List.length_take, List.length_drop, ← HL.out]; omega) w' (by omega) (by omega) (((HRow.out w' hb).drop s).take _)
      have CC : Hid (∀ w', Below w.heap.size w w' → Calls Tryz.prog 27 #[.slice (some ⟨b, o + s, none⟩) (stripE ((L.drop s).take (k - s))).length (c - s)] w' fun e w'' => ∃ q c', e = .returned (.slice q (stripE ((L.drop s).take (k - s))).length c') ∧ w''.ownsRow w'.heap.size 5 1 (.slice q (stripE ((L.drop s).take (k - s))).length c') (stripE ((L.drop s).take (k - s))).length (bv (stripE ((L.drop s).take (k - s)))) ∧ Below w'.heap.size w' w'') := fun w' hb => by
       refine bclone_any (some ⟨b, o + s, none⟩) (stripE ((L.drop s).take (k - s))) _ (c - s) rfl w' ?_ (by have h1 := noEnd_le 13 (noEnd 10 ((L.drop s).take (k - s))); have h2 := noEnd_le 10 ((L.drop s).take (k - s)); rw [List.length_take, List.length_drop, ← HL.out] at h2; show (stripE _).length ≤ _; unfold stripE; omega)
       have h1 := (((HRow.out w' hb).drop s).take (k - s)).take (noEnd 10 ((L.drop s).take (k - s))).length
       rw [← noEnd_take] at h1
       have h2 := h1.take (stripE ((L.drop s).take (k - s))).length
       have e3 : (noEnd 10 ((L.drop s).take (k - s))).take (stripE ((L.drop s).take (k - s))).length = stripE ((L.drop s).take (k - s)) := (noEnd_take 13 _).symm
       rw [e3] at h2
       exact h2.row
      have HCl : Hid (closed (curOf L (some s) k) (Y.map (·.1)) = Y.map (·.1) ++ [stripE ((L.drop s).take (k - s))]) := rfl
      have hsz0 : (0 : Int) ≤ startZ (some s) := by show (0 : Int) ≤ (s : Int); omega
      have hszs : startZ (some s) = (s : Int) := rfl
      rw [hszs]
      generalize hP : stripE ((L.drop s).take (k - s)) = P at *
      obtain ⟨np, hnp⟩ : ∃ np, P.length = np := ⟨_, rfl⟩
      have HNP : Hid (P.length = np) := hnp
      rw [hnp] at CW CC
      clear hnp hP hszs
      go_wp2_with fail
      refine (CW.out _ hbel2).mono ?_
      rintro e w3 ⟨rfl, hb3⟩
      have hbel3 : Below w.heap.size w w3 := hbel2.trans (hb3.mono hs2)
      clear CW
      go_wp2_with fail
      refine (CC.out _ hbel3).mono ?_
      rintro e w4 ⟨q4, c4, rfl, own4, hb4⟩
      have hs3 := hbel3.size
      have hbel4 : Below w.heap.size w w4 := hbel3.trans (hb4.mono hs3)
      have hs4 := hbel4.size
      have HO4 := ownsRow_below (ownsRow_below HO2.out hb3) hb4
      have HS4 : Hid (SOwn w4 w.heap.size Y) := fun y hy => ownsRow_below (ownsRow_below (HS2.out y hy) hb3) hb4
      have HN4 : Hid (w4.ownsRow w.heap.size 5 1 (.slice q4 np c4) np (bv P)) := owns_low own4 hs3
      clear CC HO2 HS2 own4 hb3 hb4
      go_wp2_with (at_builtin; refine wpList_append_own _ rfl (.tmp 47) (.tmp 54) 29 rfl w.heap.size 22 i0 (.slice none 0 0) 1 24 Tryz.underlying29 hi hz0 hz1 hz2 rfl (by decide) _ _ _ rfl (HO4.alloc _) ⟨w4.heap.size, 0, none⟩ 1 1 [.slice q4 np c4] rfl rfl (cell_lone _ _ _ _ rfl) ?c2 ?c3 ?c4 ?c5 ?_)
      case c2 => intro u hu; simp at hu; subst hu; rfl
      case c3 => unfold maxLen; omega
      case c4 => omega
      case c5 => first | omega | (simp; omega)
      intro v9 w9 hown9 hg9 _
      have hb9 : Below w.heap.size w w9 := (hbel4.alloc hs4 _).grown hg9 (by simp; omega) (fun j hj => (HO4.lt j hj).1)
      have R9 : w9.ownsRow w.heap.size 22 1 v9 (Y ++ [(P, q4, c4)]).length (syv (Y ++ [(P, q4, c4)])) := by
       rw [syv_snoc, List.length_append, HNP.out, ← hmY.out]
       exact hown9
      have HS9 : Hid (SOwn w9 w.heap.size (Y ++ [(P, q4, c4)])) := fun y hy => by
       rcases List.mem_append.1 hy with hy | hy
       ·exact ((HS4.out y hy).alloc _).kept hg9 (owns_apart (HS4.out y hy) HO4 (by decide))
       ·obtain rfl : y = (P, q4, c4) := by simpa using hy
        have h4 := HN4.out
        show w9.ownsRow w.heap.size 5 1 (.slice q4 P.length c4) P.length (bv P)
        rw [HNP.out]
        exact (h4.alloc _).kept hg9 (owns_apart h4 HO4 (by decide))
      have HM9 : Hid ((Y ++ [(P, q4, c4)]).length = m + 1) := by unfold Hid; rw [List.length_append, ← hmY.out]; rfl
      rw [HM9.out] at R9
      obtain ⟨q9, c9, rfl⟩ := owned_slice R9
      have HR9 : Hid (w9.ownsRow w.heap.size 22 1 (.slice q9 (m + 1) c9) (m + 1) (syv (Y ++ [(P, q4, c4)]))) := R9
      have HY9 : Hid ((Y ++ [(P, q4, c4)]).map (·.1) = Y.map (·.1) ++ [P]) := by unfold Hid; rw [List.map_append]; rfl
      clear hown9 hg9 R9 HO4 HS4 HN4
      go_wp2_with fail
      go_roundw
      case rel => exact ⟨N2, some N2, f', q9, m + 1, c9, Y ++ [(P, q4, c4)], hN2n, rfl, rfl, rfl, hb9, by unfold Hid; have := HF.out; omega, (fun s hs => by cases hs; exact Nat.le_refl _), HM9.out.symm, by omega, HR9, HS9, by
       unfold Hid
       rw [HY9.out, ← HR.out, HCl.out]
       simp [curOf]⟩
      case measure => simp [intOf]; omega
    ·have hd1 : decide (line = dd ++ B.data.toList) = false := decide_eq_false hg
     have hd2 : decide (line = dd ++ B.data.toList ++ dd) = false := decide_eq_false he
     rw [if_neg he, if_neg hg] at HR
     rw [hd1, hd2] at CB
     clear hd1 hd2 he hg
     go_wp2_with fail
     refine CL.out.mono ?_
     rintro e w1 ⟨rfl, hw1⟩
     have hw1' := hw1.symm
     subst hw1'
     clear CL
     go_wp2_with fail
     refine CB.out.mono ?_
     rintro e w2 ⟨rfl, hb2⟩
     clear CB
     have hbel2 : Below w.heap.size w w2 := hbr.trans (hb2.mono hsr)
     go_wp2_with fail
     go_roundw
     case rel => exact ⟨N2, st, f', q, m, d, Y, hN2n, rfl, rfl, rfl, hbel2, by unfold Hid; have := HF.out; omega, (fun s hs => by have := HST.out s hs; omega), hmY, by omega, ownsRow_below HO.out hb2, (fun y hy => ownsRow_below (HS.out y hy) hb2), HR⟩
     case measure => simp [intOf]; omega
  ·have hlz : ¬ ((k : Int) < (n : Int)) := by omega
   have HN : Hid (RES = none) := by
    unfold Hid
    rw [← HR.out, List.drop_of_length_le (by rw [← HL.out]; omega), splitGo_nil]
   clear HR HO HS
   go_wp2_with fail
   go_ret2
   show SplitPost _ _ _ _
   rw [HN.out]
   exact splitPost_no hbr (by decide)
end Go.Proofs.YtlndhdimamnnlaaGreatDoor



namespace Go.Proofs.YtlndhdimamnnlaaGreatDoor
open Go.RowKit
theorem isEmpty_size (B : ByteArray) : B.toList.isEmpty = decide (B.size = 0) := by
 rw [ByteArray.toList_eq, Lib.size_eq]
 cases B.data.toList <;> simp
theorem str_is_empty (B : ByteArray) : (B.toList == (ByteArray.mk #[]).toList) = decide (B.size = 0) := by
 rw [str_beq, Lib.size_eq]
 exact decide_eq_decide.2 ⟨fun h => by rw [h]; rfl, fun h => List.length_eq_zero_iff.1 h⟩
set_option maxRecDepth 100000 in
theorem split_big (p : Option Addr) (n c : Nat) (B : ByteArray) (w : World) (hn : 40000 < n) :
  Calls Tryz.prog 6 #[.slice p n c, .string B] w fun e w' => e = .returned (.tuple #[.slice none 0 0, .int .i64 2]) ∧ w' = w := by
 have h1 : (40000 : Int) < (n : Int) := by omega
 go_enter Tryz.func6, Tryz.ntmps6
 go_wp2
 go_ret2
 exact ⟨rfl, rfl⟩
set_option maxRecDepth 100000 in
theorem split_range (p : Option Addr) (n c : Nat) (B : ByteArray) (w : World) (hn : n ≤ 40000) (hB : B.size = 0 ∨ 60 < B.size) :
  Calls Tryz.prog 6 #[.slice p n c, .string B] w fun e w' => e = .returned (.tuple #[.slice none 0 0, .int .i64 3]) ∧ w' = w := by
 have h1 : ¬ (40000 : Int) < (n : Int) := by omega
 have he := isEmpty_size B
 rcases Nat.eq_zero_or_pos B.size with h0 | h0
 ·rw [decide_eq_true h0] at he
  go_enter Tryz.func6, Tryz.ntmps6
  go_wp2
  go_ret2
  exact ⟨rfl, rfl⟩
 ·rw [decide_eq_false (by omega)] at he
  have h6 : (60 : Int) < (B.size : Int) := by omega
  go_enter Tryz.func6, Tryz.ntmps6
  go_wp2
  go_ret2
  exact ⟨rfl, rfl⟩
set_option maxRecDepth 100000 in
theorem split_none (p : Option Addr) (c : Nat) (B : ByteArray) (w : World) (hB1 : 1 ≤ B.size) (hB2 : B.size ≤ 60) :
  Calls Tryz.prog 6 #[.slice p 0 c, .string B] w fun e w' => e = .returned (.tuple #[.slice none 0 0, .int .i64 1]) ∧ w' = w := by
 have he := isEmpty_size B
 rw [decide_eq_false (by omega)] at he
 have h6 : ¬ (60 : Int) < (B.size : Int) := by omega
 go_enter Tryz.func6, Tryz.ntmps6
 go_wp2
 refine wp_loop_rounds 1 ?_
 rw [rounds_succ]
 go_wp2
 go_ret2
 exact ⟨rfl, rfl⟩
theorem split_any (p : Option Addr) (n c : Nat) (L : List UInt8) (en : n = L.length) (B : ByteArray) (w : World) (hc : n ≤ c) (hr : BRow w p L) :
  Calls Tryz.prog 6 #[.slice p n c, .string B] w fun e w' => SplitPost w (splitS L B.data.toList) e w' := by
 unfold splitS
 by_cases h4 : 40000 < L.length
 ·rw [if_pos h4]
  refine (split_big p n c B w (by omega)).mono ?_
  rintro e w' ⟨rfl, rfl⟩
  exact splitPost_no (Below.refl _ _) (by decide)
 ·rw [if_neg h4]
  by_cases hb : B.data.toList = [] ∨ 60 < B.data.toList.length
  ·rw [if_pos hb]
   refine (split_range p n c B w (by omega) ?_).mono ?_
   ·rw [Lib.size_eq]
    rcases hb with h | h
    ·exact .inl (by rw [h]; rfl)
    ·exact .inr h
   ·rintro e w' ⟨rfl, rfl⟩
    exact splitPost_no (Below.refl _ _) (by decide)
  ·rw [if_neg hb]
   have hB1 : 1 ≤ B.size := by
    rw [Lib.size_eq]
    rcases Nat.eq_zero_or_pos B.data.toList.length with h | h
    ·exact absurd (.inl (List.length_eq_zero_iff.1 h)) hb
    ·exact h
   have hB2 : B.size ≤ 60 := by
    rw [Lib.size_eq]
    rcases Nat.lt_or_ge 60 B.data.toList.length with h | h
    ·exact absurd (.inr h) hb
    ·exact h
   by_cases h0 : L = []
   ·subst h0
    obtain rfl : n = 0 := en
    refine (split_none p c B w hB1 hB2).mono ?_
    rintro e w' ⟨rfl, rfl⟩
    rw [splitGo_nil]
    exact splitPost_no (Below.refl _ _) (by decide)
   ·obtain ⟨b, o, rfl, hcell⟩ := hr h0
    have hpos : 1 ≤ n := by rw [en]; exact List.length_pos_iff.2 h0
    exact split_some b o n c L en B hB1 hB2 w hpos (by omega) hc hcell
end Go.Proofs.YtlndhdimamnnlaaGreatDoor



namespace Go.Proofs.YtlndhdimamnnlaaGreatDoor
open Go.RowKit
def Cells (w : World) (p : Option Addr) (l : List Value) : Prop := l ≠ [] → ∃ b o, p = some ⟨b, o, none⟩ ∧ ∀ j u, l[j]? = some u → w.cell? ⟨b, o + j, none⟩ = some u
theorem Cells.below {w w' : World} {p : Option Addr} {l : List Value} (h : Cells w p l) (hb : Below w.heap.size w w') : Cells w' p l := by
 intro hne
 obtain ⟨b, o, rfl, hc⟩ := h hne
 refine ⟨b, o, rfl, fun j u hj => ?_⟩
 have := hc j u hj
 rw [hb.cell (p := ⟨b, o + j, none⟩) (World.block_lt_of_cell? w _ this)]
 exact this
abbrev PZ := PT × (Option Addr × Nat) × (Option Addr × Nat)
def pzc (z : PZ) : List Value := [.string z.1.ty, .string z.1.cs, .string z.1.id, .string z.1.loc, .int .i64 z.1.how, .slice z.2.1.1 z.1.body.length z.2.1.2, .slice z.2.2.1 z.1.kids.length z.2.2.2]
def pzv (Z : List PZ) : List Value := Z.flatMap pzc
theorem pzv_append (Y Z : List PZ) : pzv (Y ++ Z) = pzv Y ++ pzv Z := by simp [pzv]
theorem pzv_length : ∀ Z : List PZ, (pzv Z).length = Z.length * 7
 | [] => rfl
 | z :: Z => by show (pzc z ++ pzv Z).length = _; rw [List.length_append, pzv_length Z]; simp [pzc]; omega
theorem pzv_one (Z : List PZ) : ∀ u ∈ pzv Z, u.oneCell' = true := by
 intro u hu
 simp only [pzv, List.mem_flatMap] at hu
 obtain ⟨z, _, hz⟩ := hu
 simp only [pzc, List.mem_cons, List.not_mem_nil, or_false] at hz
 rcases hz with rfl | rfl | rfl | rfl | rfl | rfl | rfl <;> rfl
theorem pz_at (Z : List PZ) (k : Nat) (z : PZ) (h : Z[k]? = some z) (j : Nat) (v : Value) (hj : (pzc z)[j]? = some v) : (pzv Z)[k * 7 + j]? = some v := by
 have hj7 : j < 7 := by have := (List.getElem?_eq_some_iff.1 hj).1; simpa [pzc] using this
 induction Z generalizing k with
 | nil => simp at h
 | cons y Z ih =>
  show (pzc y ++ pzv Z)[k * 7 + j]? = some v
  cases k with
  | zero =>
   obtain rfl := Option.some.inj h
   rw [List.getElem?_append_left (by simp [pzc]; omega), Nat.zero_mul, Nat.zero_add]
   exact hj
  | succ k =>
   rw [List.getElem?_append_right (by simp [pzc]; omega)]
   have := ih k (by simpa using h)
   rw [← this]
   congr 1
   simp [pzc]
   omega
theorem pz_back : ∀ (Z : List PZ) (j : Nat) (v : Value), (pzv Z)[j]? = some v → ∃ z, Z[j / 7]? = some z ∧ (pzc z)[j % 7]? = some v
 | [], j, v, h => by simp [pzv] at h
 | y :: Z, j, v, h => by
  have h' : (pzc y ++ pzv Z)[j]? = some v := h
  by_cases hj : j < 7
  ·rw [List.getElem?_append_left (by simp [pzc]; omega)] at h'
   exact ⟨y, by rw [Nat.div_eq_of_lt hj]; rfl, by rw [Nat.mod_eq_of_lt hj]; exact h'⟩
  ·rw [List.getElem?_append_right (by simp [pzc]; omega)] at h'
   obtain ⟨z, h1, h2⟩ := pz_back Z (j - 7) v (by simpa [pzc] using h')
   refine ⟨z, ?_, ?_⟩
   ·rw [show j / 7 = (j - 7) / 7 + 1 from by omega]; exact h1
   ·rw [show j % 7 = (j - 7) % 7 from by omega]; exact h2
theorem KAt.list {w : World} {f : Nat} {a : Option Addr} {l : List PT} (h : KAt w (f + 1) a l) : ∃ Z : List PZ, Z.map (·.1) = l ∧ Cells w a (pzv Z) ∧ ∀ z ∈ Z, PHeld w f z.1 z.2.1.1 z.2.1.2 z.2.2.1 z.2.2.2 := by
 by_cases hne : l = []
 ·subst hne
  exact ⟨[], rfl, fun h => absurd rfl h, fun z hz => by cases hz⟩
 ·obtain ⟨b, o, rfl, hc⟩ := h.each hne
  have each : ∀ i, i < l.length → ∃ z : PZ, z.1 = l.getD i pt0 ∧ PCells w b (o + i * 7) z.1 z.2.1.1 z.2.1.2 z.2.2.1 z.2.2.2 ∧ PHeld w f z.1 z.2.1.1 z.2.1.2 z.2.2.1 z.2.2.2 := fun i hi => by
   obtain ⟨pb, cb, pk, ck, h1, h2⟩ := hc i hi
   exact ⟨(_, (pb, cb), (pk, ck)), rfl, h1, h2⟩
  haveI : Inhabited PZ := ⟨(pt0, (none, 0), (none, 0))⟩
  obtain ⟨Q, hQ⟩ := Go.Deep.choose_lt each
  refine ⟨(List.range l.length).map Q, ?_, fun _ => ⟨b, o, rfl, fun j u hj => ?_⟩, fun z hz => ?_⟩
  ·apply List.ext_getElem (by simp)
   intro i h1 h2
   simp only [List.getElem_map, List.getElem_range]
   rw [(hQ i h2).1, List.getD_eq_getElem?_getD, List.getElem?_eq_getElem h2]
   rfl
  ·obtain ⟨z, hz, hv⟩ := pz_back _ j u hj
   have hl := (List.getElem?_eq_some_iff.1 hz).1
   have hl' : j / 7 < l.length := by simpa using hl
   have ez : z = Q (j / 7) := by
    rw [List.getElem?_map, List.getElem?_range hl'] at hz
    exact (Option.some.inj hz).symm
   obtain ⟨_, hC, _⟩ := hQ (j / 7) hl'
   rw [← ez] at hC
   obtain ⟨c0, c1, c2, c3, c4, c5, c6⟩ := hC
   have hm : j % 7 < 7 := Nat.mod_lt _ (by decide)
   rw [show o + j = o + j / 7 * 7 + j % 7 from by omega]
   generalize j % 7 = r at *
   match r, hm with
   | 0, _ => obtain rfl := Option.some.inj hv; exact c0
   | 1, _ => obtain rfl := Option.some.inj hv; exact c1
   | 2, _ => obtain rfl := Option.some.inj hv; exact c2
   | 3, _ => obtain rfl := Option.some.inj hv; exact c3
   | 4, _ => obtain rfl := Option.some.inj hv; exact c4
   | 5, _ => obtain rfl := Option.some.inj hv; exact c5
   | 6, _ => obtain rfl := Option.some.inj hv; exact c6
  ·obtain ⟨i, hi, rfl⟩ := List.mem_map.1 hz
   exact (hQ i (by simpa using hi)).2.2
theorem KAt.of_list {w : World} {f : Nat} {a : Option Addr} {Z : List PZ} (hc : Cells w a (pzv Z)) (hh : ∀ z ∈ Z, PHeld w f z.1 z.2.1.1 z.2.1.2 z.2.2.1 z.2.2.2) : KAt w (f + 1) a (Z.map (·.1)) := by
 intro hne
 have hZ : Z ≠ [] := fun e => hne (by rw [e]; rfl)
 obtain ⟨b, o, e, hcc⟩ := hc (fun e => by have := pzv_length Z; rw [e] at this; cases Z with | nil => exact hZ rfl | cons a l => simp at this)
 refine ⟨b, o, e, fun i hi => ?_⟩
 have hi' : i < Z.length := by simpa using hi
 have ez : (Z.map (·.1)).getD i pt0 = Z[i].1 := by simp [List.getD_eq_getElem?_getD, hi']
 have hz : Z[i]? = some Z[i] := List.getElem?_eq_getElem hi'
 have cell : ∀ j v, (pzc Z[i])[j]? = some v → w.cell? ⟨b, o + i * 7 + j, none⟩ = some v := fun j v hj => by
  have := hcc (i * 7 + j) v (pz_at Z i Z[i] hz j v hj)
  rwa [← Nat.add_assoc] at this
 rw [ez]
 exact ⟨Z[i].2.1.1, Z[i].2.1.2, Z[i].2.2.1, Z[i].2.2.2, ⟨cell 0 _ rfl, cell 1 _ rfl, cell 2 _ rfl, cell 3 _ rfl, cell 4 _ rfl, cell 5 _ rfl, cell 6 _ rfl⟩, hh _ (List.getElem_mem hi')⟩
theorem owned_cells {w : World} {B e s n : Nat} {v : Value} {xs : List Value} (h : w.ownsRow B e s v n xs) : ∃ p c, v = .slice p n c ∧ n ≤ c ∧ c ≤ maxLen ∧ (p = none → n = 0 ∧ c = 0) ∧ Cells w p xs := by
 have h' := h
 rcases h.2 with ⟨rfl, h0⟩ | ⟨g, cap, cur, rfl, hg, hh, hnc, hcp, hcs, htake⟩
 ·refine ⟨none, 0, by rw [h0], by omega, by decide, fun _ => ⟨h0, rfl⟩, fun hne => ?_⟩
  have hx := h.1
  rw [h0, Nat.zero_mul] at hx
  exact absurd (List.length_eq_zero_iff.1 hx) hne
 ·refine ⟨some ⟨g, 0, none⟩, cap, rfl, hnc, hcp, fun e => (by cases e), fun _ => ⟨g, 0, rfl, fun j u hj => ?_⟩⟩
  have hjl := (List.getElem?_eq_some_iff.1 hj).1
  rw [Nat.zero_add, h'.cellAt j (by rw [← h'.1]; exact hjl), hj]
end Go.Proofs.YtlndhdimamnnlaaGreatDoor

