
import Derived.Test.YtlndhdimamnnlaaGreatDoorXmimesays22
namespace Go.Proofs.YtlndhdimamnnlaaGreatDoor
open Go.RowKit
theorem sizes_snoc {fs : List FV} {a b : ByteArray} {A B : Nat} (h : ∀ f ∈ fs, f.1.size + f.2.size ≤ A) (hz : a.size + b.size ≤ B) (hAB : A ≤ B) : ∀ f ∈ fs ++ [(a, b)], f.1.size + f.2.size ≤ B := by
 intro f hf
 rcases List.mem_append.1 hf with h1 | h1
 ·have := h f h1; omega
 ·simp at h1; subst h1; exact hz
theorem check_map (fs : List FV) : checkF (fs.map fl) = checkV fs := by
 unfold checkF checkV badN okAll
 rw [List.length_map, List.all_map]
 rfl
theorem hasSuffix_cr (l : List UInt8) : Lib.hasSuffix l [13] = (l.getLast? == some 13) := by
 rcases List.eq_nil_or_concat l with rfl | ⟨x, d, rfl⟩
 ·simp [Lib.hasSuffix]
 ·rw [List.concat_eq_append, Lib.hasSuffix, Bool.eq_iff_iff]
  simp only [List.isSuffixOf_iff_suffix, beq_iff_eq, List.getLast?_append, List.getLast?_singleton, Option.some_or]
  constructor
  ·rintro ⟨t, ht⟩
   have := congrArg List.getLast? ht
   simp at this
   rw [this]
  ·intro h
   obtain rfl := Option.some.inj h
   exact ⟨x, rfl⟩
theorem info_field : (Tryz.prog.info? 105).map (fun i => (i.zero, i.size, i.bytes)) = some (some (.agg #[.string ⟨#[]⟩, .string ⟨#[]⟩]), 2, 32) := by kernel_rfl
set_option maxHeartbeats 16000000 in
set_option maxRecDepth 100000 in
theorem fread_some (b o n c : Nat) (L : List UInt8) (en : n = L.length) (w : World) (h0 : 1 ≤ n) (hn : n ≤ 40000) (hcap : n ≤ c) (hcm : c ≤ maxLen)
  (hc : ∀ i, i < n → w.cell? ⟨b, o + i, none⟩ = some (.int .u8 ((L.getD i 0).toNat : Int))) :
  Calls Tryz.prog 43 #[.slice (some ⟨b, o, none⟩) n c] w fun e w' => FReadPost w (parseGo (n + 1) L 0 []) e w' := by
 unfold maxLen at hcm
 obtain ⟨i0, hi, hz0, hz1, hz2⟩ := info_parts info_field
 have hbB : b < w.heap.size := World.block_lt_of_cell? w _ (hc 0 (by omega))
 have HC : Hid (∀ w', Below w.heap.size w w' → ∀ i, i < n → w'.cell? ⟨b, o + i, none⟩ = some (.int .u8 ((L.getD i 0).toNat : Int))) := fun w' hb i hi => (hb.cell (p := ⟨b, o + i, none⟩) hbB).trans (hc i hi)
 have EN : Hid (n = L.length) := en
 clear hc en
 go_enter Tryz.func43, Tryz.ntmps43
 go_wp2
 go_loopw [6, 7] (fun lv av wr => ∃ (fs : List FV) (A : Nat), av = .int .i64 A ∧ A ≤ n ∧ fs.length ≤ 20 ∧ wr.ownsRow w.heap.size 105 2 lv fs.length (fv fs) ∧ Below w.heap.size w wr ∧ Hid (∀ f ∈ fs, f.1.size + f.2.size ≤ A) ∧ Hid (parseGo (n - A + 1) (L.drop A) A (fs.map fl) = parseGo (n + 1) L 0 []))
  (fun _ av _ => n - (intOf av).toNat)
 case atStart => exact ⟨[], 0, rfl, Nat.zero_le _, by simp, World.ownsRow_nil _ _ _ _, Below.refl _ _, (fun f hf => by cases hf), by unfold Hid; rw [List.drop_zero, Nat.sub_zero]; rfl⟩
 case round =>
  obtain ⟨fs, A, rfl, hA, h20, hown, hbel, HS, HP⟩ := hrel
  have hsz := hbel.size
  have CI := index_rest b o n (c - A) A L EN.out wr hn hA (HC.out wr hbel)
  cases hcut : cutB 10 (L.drop A) with
  | none =>
   rw [whereB_none hcut] at CI
   have HN : Hid (parseGo (n + 1) L 0 [] = ([], 0, 1)) := HP.out.symm.trans (parse_end hcut)
   by_cases hca : c = A
   ·have h00 : n - A = 0 := by omega
    have CI' := index_nil (some ⟨b, o, none⟩) 0 10 wr
    clear CI hcut HP hown
    go_wp2_with fail
    skip
    refine CI'.mono ?_
    rintro e w' ⟨rfl, hw'⟩
    have hw'' := hw'.symm
    subst hw''
    clear CI'
    go_wp2_with fail
    refine (fail_any 1 _ rfl _).mono ?_
    rintro e w' ⟨rfl, hw'⟩
    have hw'' := hw'.symm
    subst hw''
    go_wp2
    go_ret3
    show FReadPost _ _ _ _
    rw [HN.out]
    exact freadPost_none hbel 1
   ·have CI' : Hid (Calls Tryz.prog 78 #[.slice (some ⟨b, o + A, none⟩) (n - A) (c - A), .int .u8 10] wr fun e w' => e = .returned (.int .i64 (-1)) ∧ w' = wr) := CI
    clear CI hcut HP hown
    go_wp2_with fail
    refine CI'.out.mono ?_
    rintro e w' ⟨rfl, hw'⟩
    have hw'' := hw'.symm
    subst hw''
    go_wp2_with fail
    refine (fail_any 1 _ rfl _).mono ?_
    rintro e w' ⟨rfl, hw'⟩
    have hw'' := hw'.symm
    subst hw''
    go_wp2
    go_ret3
    show FReadPost _ _ _ _
    rw [HN.out]
    exact freadPost_none hbel 1
  | some x =>
   obtain ⟨a, r⟩ := x
   obtain ⟨hk1, hk2, P1', P2', P3'⟩ := parse_step (fs := fs.map fl) EN.out hA hcut
   obtain ⟨hd, _⟩ := cutB_some 10 _ _ _ hcut
   rw [whereB_some hcut] at CI
   simp only at CI
   obtain ⟨K, hK⟩ : ∃ K, K = a.length := ⟨_, rfl⟩
   have hcv := conv_line b o n (c - A) A K L a r EN.out wr hd hK hA (HC.out wr hbel)
   rw [← hK] at CI hk1
   have CI' : Hid (Calls Tryz.prog 78 #[.slice (some ⟨b, o + A, none⟩) (n - A) (c - A), .int .u8 10] wr fun e w' => e = .returned (.int .i64 (K : Int)) ∧ w' = wr) := CI
   have P1 : Hid (noCR a = [] → parseGo (n - A + 1) (L.drop A) A (fs.map fl) = (if checkF (fs.map fl) = 0 then (fs.map fl, A + a.length + 1, 0) else ([], 0, checkF (fs.map fl)))) := P1'
   have P2 : Hid (noCR a ≠ [] → ∀ e, addLine (fs.map fl) (noCR a) = .error e → parseGo (n - A + 1) (L.drop A) A (fs.map fl) = ([], 0, e)) := P2'
   have P3 : Hid (noCR a ≠ [] → ∀ fs', addLine (fs.map fl) (noCR a) = .ok fs' → parseGo (n - A + 1) (L.drop A) A (fs.map fl) = parseGo (n - (A + a.length + 1) + 1) (L.drop (A + a.length + 1)) (A + a.length + 1) fs') := P3'
   have HK : Hid (K = a.length) := hK
   obtain ⟨S, hS⟩ : ∃ S : ByteArray, S = ⟨a.toArray⟩ := ⟨_, rfl⟩
   rw [← hS] at hcv
   have hSs : S.size = K := by rw [hS, hK]; exact List.size_toArray
   have HSd : Hid (S.data.toList = a) := by unfold Hid; rw [hS]
   clear hS CI P1' P2' P3' hd hcut hk2 hK
   have hca : ¬ c = A := by omega
   have hAKc : (A : Int) + (K : Int) ≤ (c : Int) := by omega
   have CH := Tryz.strings_HasSuffix S ⟨#[13]⟩ wr (by omega)
   have HSs : Hid (S.size = K) := hSs
   clear hSs
   rw [show (ByteArray.mk #[13]).data.toList = [13] from rfl, hasSuffix_cr, HSd.out] at CH
   cases hcr : (a.getLast? == some 13)
   ·rw [hcr] at CH
    have HLs : Hid (S.size ≤ K) := Nat.le_of_eq HSs.out
    have HLB : Hid (noCR a = S.data.toList) := by unfold Hid; rw [HSd.out, noCR, if_neg (by simpa using hcr)]
    have CH' : Hid (Calls Tryz.prog 51 #[.string S, .string ⟨#[13]⟩] wr fun e w' => e = .returned (.bool false) ∧ w' = wr) := CH
    clear CH hcr
    go_wp2_with fail
    refine CI'.out.mono ?_
    rintro e w' ⟨rfl, hw'⟩
    have hw'' := hw'.symm
    subst hw''
    go_wp2_with fail
    refine CH'.out.mono ?_
    rintro e w' ⟨rfl, hw'⟩
    have hw'' := hw'.symm
    subst hw''
    clear CI' CH' hcv
    rcases Nat.eq_zero_or_pos S.size with hz | hz
    ·have hnil : noCR a = [] := by rw [HLB.out]; exact List.length_eq_zero_iff.1 (by rw [← Lib.size_eq]; exact hz)
     have HQ : Hid (parseGo (n + 1) L 0 [] = if checkF (fs.map fl) = 0 then (fs.map fl, A + K + 1, 0) else ([], 0, checkF (fs.map fl))) := by unfold Hid; rw [← HP.out, P1.out hnil, ← HK.out]
     have hem : S.toList.isEmpty = true := by rw [ByteArray.toList_eq, ← HLB.out, hnil]; rfl
     obtain ⟨p1, c1, rfl, hl1, hl2, hl3, _, _, hfr⟩ := owned_fields hown
     have HFR : Hid (FRow wr p1 fs) := hfr
     have HFL : Hid (FLen fs) := fun f hf => by have := HS.out f hf; unfold maxLen; omega
     clear hown hfr hnil hl3 P1 P2 P3
     go_wp2_with fail
     refine (check_any p1 _ c1 fs rfl _ (by unfold maxLen; omega) HFL.out HFR.out).mono ?_
     rintro e w2 ⟨rfl, hb2⟩
     have hbw2 : Below w.heap.size w w2 := hbel.trans (hb2.mono hsz)
     have HFR2 : Hid (FRow w2 p1 fs) := HFR.out.below hb2
     rw [check_map] at HQ
     obtain ⟨E, hE⟩ : ∃ E, checkV fs = E := ⟨_, rfl⟩
     rw [hE] at HQ ⊢
     clear hE HFR hb2 hbel
     by_cases hE0 : E = 0
     ·subst hE0
      have HQ' : Hid (parseGo (n + 1) L 0 [] = (fs.map fl, A + K + 1, 0)) := HQ.out.trans (if_pos rfl)
      clear HQ
      go_wp2
      go_ret3
      show FReadPost _ _ _ _
      rw [HQ'.out]
      exact ⟨hbw2, p1, c1, fs, by simp [Nat.add_assoc], rfl, hl1, hl2, HFR2.out, HFL.out⟩
     ·have HN : Hid (parseGo (n + 1) L 0 [] = ([], 0, E)) := HQ.out.trans (if_neg hE0)
      have hEb : ((E : Int) == 0) = false := by rw [beq_eq_false_iff_ne]; omega
      clear HQ
      go_wp2_with fail
      refine (fail_any E _ rfl _).mono ?_
      rintro e w' ⟨rfl, hw'⟩
      have hw'' := hw'.symm
      subst hw''
      go_wp2
      go_ret3
      show FReadPost _ _ _ _
      rw [HN.out]
      exact freadPost_none hbw2 E
    ·obtain ⟨m, hm⟩ : ∃ m, S.size = m + 1 := ⟨S.size - 1, by omega⟩
     have hne : noCR a ≠ [] := by rw [HLB.out]; intro e; have := congrArg List.length e; rw [← Lib.size_eq, List.length_nil] at this; omega
     have hem : S.toList.isEmpty = false := by rw [ByteArray.toList_eq]; cases h : S.data.toList with | nil => exact absurd (HLB.out.trans h) hne | cons a l => rfl
     obtain ⟨c0, hx0, hhd'⟩ := ba_first S m hm
     have hhd : Hid ((noCR a).head? = some c0) := by unfold Hid; rw [HLB.out]; exact hhd'
     have Q2 : Hid (∀ e, addLine (fs.map fl) (noCR a) = .error e → parseGo (n + 1) L 0 [] = ([], 0, e)) := fun e he => HP.out.symm.trans (P2.out hne e he)
     have Q3 : Hid (∀ fs', addLine (fs.map fl) (noCR a) = .ok fs' → parseGo (n - (A + K + 1) + 1) (L.drop (A + K + 1)) (A + K + 1) fs' = parseGo (n + 1) L 0 []) := fun fs' he => by rw [HK.out]; exact (P3.out hne fs' he).symm.trans HP.out
     clear hhd' hne P1 P2 P3 HP hm
     have CB := blank_first c0 wr
     cases hbt : isBT c0
     ·rw [hbt] at CB
      have CB' : Hid (Calls Tryz.prog 18 #[.string ⟨#[32, 9]⟩, .string ⟨#[c0]⟩] wr fun e w' => e = .returned (.bool false) ∧ w' = wr) := CB
      have CC := colon_at S wr
      clear CB
      cases hcc : cutB 58 S.data.toList with
      | none =>
       rw [whereB_none hcc] at CC
       have HN : Hid (parseGo (n + 1) L 0 [] = ([], 0, 1)) := Q2.out 1 (add_bad hhd.out hbt (by rw [HLB.out]; exact hcc))
       have CC' : Hid (Calls Tryz.prog 52 #[.string S, .string ⟨#[58]⟩] wr fun e w' => e = .returned (.int .i64 (-1)) ∧ w' = wr) := CC
       clear CC hcc hown Q2 Q3
       go_wp2_with (first | (go_at_call 18; refine CB'.out.mono ?_; rintro e w' ⟨rfl, hw'⟩; have hw'' := hw'.symm; subst hw'') | (go_at_call 52; refine CC'.out.mono ?_; rintro e w' ⟨rfl, hw'⟩; have hw'' := hw'.symm; subst hw'') | (go_at_call 77; refine (fail_any 1 _ rfl _).mono ?_; rintro e w' ⟨rfl, hw'⟩; have hw'' := hw'.symm; subst hw''))
       go_ret3
       show FReadPost _ _ _ _
       rw [HN.out]
       exact freadPost_none hbel 1
      | some x =>
       obtain ⟨nm, vl⟩ := x
       rw [whereB_some hcc] at CC
       simp only at CC
       obtain ⟨NM, VL, hx1, hx2, hx3, hx4, hx5, hx6, hx7⟩ := ba_part S nm vl (cutB_some 58 _ _ _ hcc).1
       obtain ⟨I, hI⟩ : ∃ I, I = nm.length := ⟨_, rfl⟩
       rw [← hI] at CC hx1 hx2 hx5 hx7
       obtain ⟨T, hT, hTs⟩ := mk_trim isBT VL.data.toList
       rw [← Lib.size_eq] at hTs
       have CC' : Hid (Calls Tryz.prog 52 #[.string S, .string ⟨#[58]⟩] wr fun e w' => e = .returned (.int .i64 (I : Int)) ∧ w' = wr) := CC
       have CT : Hid (∀ w', Calls Tryz.prog 79 #[.string VL, .string ⟨#[32, 9]⟩] w' fun e w'' => e = .returned (.string T) ∧ Below w'.heap.size w' w'') := fun w' => trimBT_any VL T hT w' (by have := HLs.out; omega)
       have HA1 : Hid (20 < fs.length + 1 → parseGo (n + 1) L 0 [] = ([], 0, 2)) := fun h => Q2.out 2 (add_many hhd.out hbt (by rw [HLB.out]; exact hcc) (by rw [List.length_map]; exact h))
       have HA2 : Hid (¬ 20 < fs.length + 1 → parseGo (n - (A + K + 1) + 1) (L.drop (A + K + 1)) (A + K + 1) ((fs ++ [(NM, T)]).map fl) = parseGo (n + 1) L 0 []) := fun h => Q3.out _ (by rw [add_new hhd.out hbt (by rw [HLB.out]; exact hcc) (by rw [List.length_map]; exact h)]; simp [fl, hT, hx3, hx4])
       clear CC hcc Q2 Q3 hI hx3 hx4 hT
       have h44 : Below wr.heap.size wr wr := Below.refl _ _
       have HZ : Hid (NM.size + T.size ≤ A + K + 1) := by unfold Hid; have := HLs.out; omega
       clear hTs hx5 hx6
       have hI1 : (I : Int) ≤ (S.size : Int) := by omega
       have hI0 : (0 : Int) ≤ (I : Int) := by omega
       obtain ⟨I1, hI1'⟩ : ∃ I1, I1 = I + 1 := ⟨_, rfl⟩
       rw [← hI1'] at hx2
       have hI2 : (I1 : Int) ≤ (S.size : Int) := by omega
       have hI3 : (0 : Int) ≤ (I1 : Int) := by omega
       have hwI : IntKind.i64.wrap ((I : Int) + 1) = (I1 : Int) := by have := HLs.out; rw [IntKind.wrap_i64]; omega
       clear hx7 hI1'
       go_wp2_with (first | (go_at_call 18; refine CB'.out.mono ?_; rintro e w' ⟨rfl, hw'⟩; have hw'' := hw'.symm; subst hw'') | (go_at_call 52; refine CC'.out.mono ?_; rintro e w' ⟨rfl, hw'⟩; have hw'' := hw'.symm; subst hw''))
       go_region_held3 (fun w' => Below w.heap.size w w') (first | assumption | exact hbel.drew | exact (hbe2.alloc hbe2.size _)) (first
        | (go_at_call 79; refine (CT.out _).mono ?_; rintro e w2 ⟨rfl, hb2⟩; have hbw2 : Below wr.heap.size wr w2 := (h44.drew).trans hb2; have hbe2 : Below w.heap.size w w2 := hbel.trans (hbw2.mono hsz); clear hb2)
        | (refine step_append_own rfl (.tmp 81) (.tmp 91) 66 rfl w.heap.size 105 i0 (.agg #[.string ⟨#[]⟩, .string ⟨#[]⟩]) 2 32 Tryz.underlying66 hi hz0 hz1 hz2 rfl (by decide) _ _ _ (by simp [Act.eval]) ((ownsRow_below hown hbw2).alloc _) ⟨w2.heap.size, 0, none⟩ 1 1 [.string NM, .string T] (by simp [Act.eval]) rfl (cell_pair _ _ _ _) (by intro u hu; simp at hu; rcases hu with rfl | rfl <;> rfl) (by unfold maxLen; omega) (by omega) (by have := hbe2.size; simp; omega) ?_; intro v9 w9 own9 grow9; have hbe9 : Below w.heap.size w w9 := (hbe2.alloc hbe2.size _).grown grow9 (by have := hbe2.size; simp; omega) (fun j hj => ((ownsRow_below hown hbw2).lt j hj).1)))
       have R : w9.ownsRow w.heap.size 105 2 v9 (fs ++ [(NM, T)]).length (fv (fs ++ [(NM, T)])) := by rw [fv_snoc, List.length_append]; exact own9
       obtain ⟨p1, c1, rfl, hl1, hl2, _, _, _, _⟩ := owned_fields R
       have HR' : Hid (w9.ownsRow w.heap.size 105 2 (.slice p1 (fs ++ [(NM, T)]).length c1) (fs ++ [(NM, T)]).length (fv (fs ++ [(NM, T)]))) := R
       have e1 : (fs ++ [(NM, T)]).length = fs.length + 1 := by simp
       rw [e1] at hl1 HR' ⊢
       clear own9 grow9 R hown e1 hbw2 hbe2
       by_cases h21 : 20 < fs.length + 1
       ·have HN : Hid (parseGo (n + 1) L 0 [] = ([], 0, 2)) := HA1.out h21
        have h21' : (20 : Int) < (fs.length : Int) + 1 := by omega
        clear HA1 HA2
        go_wp2_with (first | (go_at_call 77; refine (fail_any 2 _ rfl _).mono ?_; rintro e w' ⟨rfl, hw'⟩; have hw'' := hw'.symm; subst hw''))
        go_ret3
        show FReadPost _ _ _ _
        rw [HN.out]
        exact freadPost_none hbe9 2
       ·have HN := HA2.out h21
        have HN' : Hid (parseGo (n - (A + K + 1) + 1) (L.drop (A + K + 1)) (A + K + 1) ((fs ++ [(NM, T)]).map fl) = parseGo (n + 1) L 0 []) := HN
        have h21' : ¬ (20 : Int) < (fs.length : Int) + 1 := by omega
        have HSn : Hid (∀ f ∈ fs ++ [(NM, T)], f.1.size + f.2.size ≤ A + K + 1) := sizes_snoc HS.out HZ.out (by omega)
        clear HA1 HA2 HN
        go_wp2
        go_roundw
        case rel => exact ⟨fs ++ [(NM, T)], A + K + 1, by go_num, by omega, by simp; omega, by rw [show (fs ++ [(NM, T)]).length = fs.length + 1 from by simp]; exact HR'.out, hbe9, HSn, HN'⟩
        case measure => simp [intOf]; omega
     ·rw [hbt] at CB
      have CB' : Hid (Calls Tryz.prog 18 #[.string ⟨#[32, 9]⟩, .string ⟨#[c0]⟩] wr fun e w' => e = .returned (.bool true) ∧ w' = wr) := CB
      clear CB
      rcases List.eq_nil_or_concat fs with hfs | ⟨fs0, f, hfs⟩
      ·subst hfs
       have HN : Hid (parseGo (n + 1) L 0 [] = ([], 0, 1)) := Q2.out 1 (add_none hhd.out hbt)
       obtain ⟨p1, c1, rfl, hl1, hl2, hl3, _, _, _⟩ := owned_fields hown
       clear hown Q2 Q3 HS
       go_wp2_with (first | (go_at_call 18; refine CB'.out.mono ?_; rintro e w' ⟨rfl, hw'⟩; have hw'' := hw'.symm; subst hw'') | (go_at_call 77; refine (fail_any 1 _ rfl _).mono ?_; rintro e w' ⟨rfl, hw'⟩; have hw'' := hw'.symm; subst hw''))
       go_ret3
       show FReadPost _ _ _ _
       rw [HN.out]
       exact freadPost_none hbel 1
      ·rw [List.concat_eq_append] at hfs
       subst hfs
       obtain ⟨Na, Va⟩ := f
       obtain ⟨T1, hT1, hT1s⟩ := mk_trim isBT S.data.toList
       obtain ⟨X, hX⟩ : ∃ X : ByteArray, X = Va ++ ⟨#[32]⟩ ++ T1 := ⟨_, rfl⟩
       have hXd : X.data.toList = Va.data.toList ++ [32] ++ T1.data.toList := by rw [hX]; simp
       obtain ⟨T2, hT2, hT2s⟩ := mk_trim isSp X.data.toList
       rw [← Lib.size_eq] at hT1s hT2s
       have hXs : X.size = Va.size + 1 + T1.size := by rw [Lib.size_eq, hXd]; simp only [List.length_append, List.length_cons, List.length_nil]; rw [← Lib.size_eq, ← Lib.size_eq]
       have hNV := HS.out (Na, Va) (by simp)
       simp only at hNV
       have HZ : Hid (Na.size + T2.size ≤ A + K + 1) := by unfold Hid; have := HLs.out; omega
       have HS0 : Hid (∀ f ∈ fs0, f.1.size + f.2.size ≤ A) := fun f hf => HS.out f (by simp [hf])
       have CT1 : Hid (∀ w', Calls Tryz.prog 79 #[.string S, .string ⟨#[32, 9]⟩] w' fun e w'' => e = .returned (.string T1) ∧ Below w'.heap.size w' w'') := fun w' => trimBT_any S T1 hT1 w' (by have := HLs.out; omega)
       have CT2 : Hid (∀ w', Calls Tryz.prog 79 #[.string X, .string ⟨#[32]⟩] w' fun e w'' => e = .returned (.string T2) ∧ Below w'.heap.size w' w'') := fun w' => trimSp_any X T2 hT2 w' (by have := HLs.out; omega)
       have HQ3 : Hid (parseGo (n - (A + K + 1) + 1) (L.drop (A + K + 1)) (A + K + 1) ((fs0 ++ [(Na, T2)]).map fl) = parseGo (n + 1) L 0 []) := Q3.out _ (by rw [List.map_append, List.map_singleton, add_more hhd.out hbt, HLB.out, ← hT1]; simp [fl, hT2, hXd])
       obtain ⟨p1, c1, rfl, hl1, hl2, hl3, hob, hgg, hfr⟩ := owned_fields hown
       obtain ⟨g, rfl, hgo⟩ := hgg (by simp)
       obtain ⟨_, hgB, hgl⟩ := hob g hgo
       obtain ⟨b', o', he', hcell⟩ := hfr (by simp)
       obtain ⟨rfl, rfl⟩ : b' = g ∧ o' = 0 := by injection he' with he'; injection he' with h1 h2; exact ⟨h1.symm, h2.symm⟩
       have hld := (hcell fs0.length (by simp)).2
       rw [show ((fs0 ++ [(Na, Va)]).getD fs0.length default) = (Na, Va) from by simp [List.getD_eq_getElem?_getD], Nat.zero_add] at hld
       have e1 : (fs0 ++ [(Na, Va)]).length = fs0.length + 1 := by simp
       have hfz := hown.frozenAt (fs0.length * 2 + 1)
       have HO : Hid (wr.ownsRow w.heap.size 105 2 (.slice (some ⟨b', 0, none⟩) (fs0.length + 1) c1) (fs0.length + 1) (fv (fs0 ++ [(Na, Va)]))) := by unfold Hid; rw [← e1]; exact hown
       have h44 : Below wr.heap.size wr wr := Below.refl _ _
       rw [e1] at h20 hl1 ⊢
       have hl2i : (fs0.length : Int) + 1 ≤ (c1 : Int) := by omega
       have hXe : Va ++ ⟨#[32]⟩ ++ T1 = X := hX.symm
       have hVs : Va.size + T1.size + 1 ≤ 1000000 := by have := HLs.out; omega
       clear hXs
       clear hcell hfr he' hob hgo hown e1 hX hXd hT1 hT2 hT1s hT2s Q2 Q3 hl3 hNV HS
       go_wp2_with (first | (go_at_call 18; refine CB'.out.mono ?_; rintro e w' ⟨rfl, hw'⟩; have hw'' := hw'.symm; subst hw''))
       have hcat1 : ¬ 9223372036854775807 < Va.size + 1 := by omega
       have hcat2 : ¬ 9223372036854775807 < Va.size + 1 + T1.size := by omega
       go_region_with (first
        | (go_at_call_of 79 S; refine (CT1.out _).mono ?_; rintro e w2 ⟨rfl, hb2⟩; have hbw2 : Below wr.heap.size wr w2 := (h44.drew).trans hb2; have hbe2 : Below w.heap.size w w2 := hbel.trans (hbw2.mono hsz); have hld2 := (hbw2.cell (p := ⟨b', fs0.length * 2 + 1, none⟩) hgl).trans hld; clear hb2)
        | (go_at_call_of 79 X; refine (CT2.out _).mono ?_; rintro e w3 ⟨rfl, hb3⟩; have hbw3 : Below wr.heap.size wr w3 := hbw2.trans (hb3.mono hbw2.size); have hbe3 : Below w.heap.size w w3 := hbel.trans (hbw3.mono hsz); have hld3 := (hbw3.cell (p := ⟨b', fs0.length * 2 + 1, none⟩) hgl).trans hld; have hfz3 := (hbw3.frozen (p := ⟨b', fs0.length * 2 + 1, none⟩) hgl).trans hfz; clear hb3))
       all_goals (
        have st := (ownsRow_below HO.out hbw3).stored (fs0.length * 2 + 1) (.string T2)
        rw [fv_set] at st
        have hbe4 : Below w.heap.size w (w3.setCell ⟨b', fs0.length * 2 + 1, none⟩ (.string T2)) := hbe3.setCell hgB _
        have HST : Hid ((w3.setCell ⟨b', fs0.length * 2 + 1, none⟩ (.string T2)).ownsRow w.heap.size 105 2 (.slice (some ⟨b', 0, none⟩) (fs0.length + 1) c1) (fs0.length + 1) (fv (fs0 ++ [(Na, T2)]))) := st.1
        clear st
        go_wp2
        go_roundw
        case rel => exact ⟨fs0 ++ [(Na, T2)], A + K + 1, by go_num, by omega, by simp; omega, by rw [show (fs0 ++ [(Na, T2)]).length = fs0.length + 1 from by simp]; exact HST.out, hbe4, sizes_snoc HS0.out HZ.out (by omega), HQ3⟩
        case measure => simp [intOf]; omega)
   ·rw [hcr] at CH
    have hla : a.getLast? = some 13 := by simpa using hcr
    have hpos : S.size ≠ 0 := by
     intro e0
     have : a = [] := by rw [← HSd.out]; exact List.length_eq_zero_iff.1 (by rw [← Lib.size_eq]; exact e0)
     rw [this] at hla; cases hla
    obtain ⟨m8, hm8⟩ : ∃ m8, S.size = m8 + 1 := ⟨S.size - 1, by omega⟩
    have hm8b : m8 ≤ 40000 := by have := HSs.out; omega
    obtain ⟨c8, S8, _, hx8, hs8, hd8⟩ := ba_tail S m8 hm8
    have HLs : Hid (S8.size ≤ K) := by unfold Hid; rw [← HSs.out]; omega
    have HLB : Hid (noCR a = S8.data.toList) := by
     unfold Hid
     have e8 : c8 = 13 := by
      have := hla
      rw [← HSd.out, hd8] at this
      simpa using this
     rw [← HSd.out, hd8, e8, noCR_snoc]
    have CH' : Hid (Calls Tryz.prog 51 #[.string S, .string ⟨#[13]⟩] wr fun e w' => e = .returned (.bool true) ∧ w' = wr) := CH
    clear CH hcr hla hpos hd8 hs8
    go_wp2_with fail
    refine CI'.out.mono ?_
    rintro e w' ⟨rfl, hw'⟩
    have hw'' := hw'.symm
    subst hw''
    go_wp2_with fail
    refine CH'.out.mono ?_
    rintro e w' ⟨rfl, hw'⟩
    have hw'' := hw'.symm
    subst hw''
    clear CI' CH' hcv
    rcases Nat.eq_zero_or_pos S8.size with hz | hz
    ·have hnil : noCR a = [] := by rw [HLB.out]; exact List.length_eq_zero_iff.1 (by rw [← Lib.size_eq]; exact hz)
     have HQ : Hid (parseGo (n + 1) L 0 [] = if checkF (fs.map fl) = 0 then (fs.map fl, A + K + 1, 0) else ([], 0, checkF (fs.map fl))) := by unfold Hid; rw [← HP.out, P1.out hnil, ← HK.out]
     have hem : S8.toList.isEmpty = true := by rw [ByteArray.toList_eq, ← HLB.out, hnil]; rfl
     obtain ⟨p1, c1, rfl, hl1, hl2, hl3, _, _, hfr⟩ := owned_fields hown
     have HFR : Hid (FRow wr p1 fs) := hfr
     have HFL : Hid (FLen fs) := fun f hf => by have := HS.out f hf; unfold maxLen; omega
     clear hown hfr hnil hl3 P1 P2 P3
     go_wp2_with fail
     refine (check_any p1 _ c1 fs rfl _ (by unfold maxLen; omega) HFL.out HFR.out).mono ?_
     rintro e w2 ⟨rfl, hb2⟩
     have hbw2 : Below w.heap.size w w2 := hbel.trans (hb2.mono hsz)
     have HFR2 : Hid (FRow w2 p1 fs) := HFR.out.below hb2
     rw [check_map] at HQ
     obtain ⟨E, hE⟩ : ∃ E, checkV fs = E := ⟨_, rfl⟩
     rw [hE] at HQ ⊢
     clear hE HFR hb2 hbel
     by_cases hE0 : E = 0
     ·subst hE0
      have HQ' : Hid (parseGo (n + 1) L 0 [] = (fs.map fl, A + K + 1, 0)) := HQ.out.trans (if_pos rfl)
      clear HQ
      go_wp2
      go_ret3
      show FReadPost _ _ _ _
      rw [HQ'.out]
      exact ⟨hbw2, p1, c1, fs, by simp [Nat.add_assoc], rfl, hl1, hl2, HFR2.out, HFL.out⟩
     ·have HN : Hid (parseGo (n + 1) L 0 [] = ([], 0, E)) := HQ.out.trans (if_neg hE0)
      have hEb : ((E : Int) == 0) = false := by rw [beq_eq_false_iff_ne]; omega
      clear HQ
      go_wp2_with fail
      refine (fail_any E _ rfl _).mono ?_
      rintro e w' ⟨rfl, hw'⟩
      have hw'' := hw'.symm
      subst hw''
      go_wp2
      go_ret3
      show FReadPost _ _ _ _
      rw [HN.out]
      exact freadPost_none hbw2 E
    ·obtain ⟨m, hm⟩ : ∃ m, S8.size = m + 1 := ⟨S8.size - 1, by omega⟩
     have hne : noCR a ≠ [] := by rw [HLB.out]; intro e; have := congrArg List.length e; rw [← Lib.size_eq, List.length_nil] at this; omega
     have hem : S8.toList.isEmpty = false := by rw [ByteArray.toList_eq]; cases h : S8.data.toList with | nil => exact absurd (HLB.out.trans h) hne | cons a l => rfl
     obtain ⟨c0, hx0, hhd'⟩ := ba_first S8 m hm
     have hhd : Hid ((noCR a).head? = some c0) := by unfold Hid; rw [HLB.out]; exact hhd'
     have Q2 : Hid (∀ e, addLine (fs.map fl) (noCR a) = .error e → parseGo (n + 1) L 0 [] = ([], 0, e)) := fun e he => HP.out.symm.trans (P2.out hne e he)
     have Q3 : Hid (∀ fs', addLine (fs.map fl) (noCR a) = .ok fs' → parseGo (n - (A + K + 1) + 1) (L.drop (A + K + 1)) (A + K + 1) fs' = parseGo (n + 1) L 0 []) := fun fs' he => by rw [HK.out]; exact (P3.out hne fs' he).symm.trans HP.out
     clear hhd' hne P1 P2 P3 HP hm
     have CB := blank_first c0 wr
     cases hbt : isBT c0
     ·rw [hbt] at CB
      have CB' : Hid (Calls Tryz.prog 18 #[.string ⟨#[32, 9]⟩, .string ⟨#[c0]⟩] wr fun e w' => e = .returned (.bool false) ∧ w' = wr) := CB
      have CC := colon_at S8 wr
      clear CB
      cases hcc : cutB 58 S8.data.toList with
      | none =>
       rw [whereB_none hcc] at CC
       have HN : Hid (parseGo (n + 1) L 0 [] = ([], 0, 1)) := Q2.out 1 (add_bad hhd.out hbt (by rw [HLB.out]; exact hcc))
       have CC' : Hid (Calls Tryz.prog 52 #[.string S8, .string ⟨#[58]⟩] wr fun e w' => e = .returned (.int .i64 (-1)) ∧ w' = wr) := CC
       clear CC hcc hown Q2 Q3
       go_wp2_with (first | (go_at_call 18; refine CB'.out.mono ?_; rintro e w' ⟨rfl, hw'⟩; have hw'' := hw'.symm; subst hw'') | (go_at_call 52; refine CC'.out.mono ?_; rintro e w' ⟨rfl, hw'⟩; have hw'' := hw'.symm; subst hw'') | (go_at_call 77; refine (fail_any 1 _ rfl _).mono ?_; rintro e w' ⟨rfl, hw'⟩; have hw'' := hw'.symm; subst hw''))
       go_ret3
       show FReadPost _ _ _ _
       rw [HN.out]
       exact freadPost_none hbel 1
      | some x =>
       obtain ⟨nm, vl⟩ := x
       rw [whereB_some hcc] at CC
       simp only at CC
       obtain ⟨NM, VL, hx1, hx2, hx3, hx4, hx5, hx6, hx7⟩ := ba_part S8 nm vl (cutB_some 58 _ _ _ hcc).1
       obtain ⟨I, hI⟩ : ∃ I, I = nm.length := ⟨_, rfl⟩
       rw [← hI] at CC hx1 hx2 hx5 hx7
       obtain ⟨T, hT, hTs⟩ := mk_trim isBT VL.data.toList
       rw [← Lib.size_eq] at hTs
       have CC' : Hid (Calls Tryz.prog 52 #[.string S8, .string ⟨#[58]⟩] wr fun e w' => e = .returned (.int .i64 (I : Int)) ∧ w' = wr) := CC
       have CT : Hid (∀ w', Calls Tryz.prog 79 #[.string VL, .string ⟨#[32, 9]⟩] w' fun e w'' => e = .returned (.string T) ∧ Below w'.heap.size w' w'') := fun w' => trimBT_any VL T hT w' (by have := HLs.out; omega)
       have HA1 : Hid (20 < fs.length + 1 → parseGo (n + 1) L 0 [] = ([], 0, 2)) := fun h => Q2.out 2 (add_many hhd.out hbt (by rw [HLB.out]; exact hcc) (by rw [List.length_map]; exact h))
       have HA2 : Hid (¬ 20 < fs.length + 1 → parseGo (n - (A + K + 1) + 1) (L.drop (A + K + 1)) (A + K + 1) ((fs ++ [(NM, T)]).map fl) = parseGo (n + 1) L 0 []) := fun h => Q3.out _ (by rw [add_new hhd.out hbt (by rw [HLB.out]; exact hcc) (by rw [List.length_map]; exact h)]; simp [fl, hT, hx3, hx4])
       clear CC hcc Q2 Q3 hI hx3 hx4 hT
       have h44 : Below wr.heap.size wr wr := Below.refl _ _
       have HZ : Hid (NM.size + T.size ≤ A + K + 1) := by unfold Hid; have := HLs.out; omega
       clear hTs hx5 hx6
       have hI1 : (I : Int) ≤ (S8.size : Int) := by omega
       have hI0 : (0 : Int) ≤ (I : Int) := by omega
       obtain ⟨I1, hI1'⟩ : ∃ I1, I1 = I + 1 := ⟨_, rfl⟩
       rw [← hI1'] at hx2
       have hI2 : (I1 : Int) ≤ (S8.size : Int) := by omega
       have hI3 : (0 : Int) ≤ (I1 : Int) := by omega
       have hwI : IntKind.i64.wrap ((I : Int) + 1) = (I1 : Int) := by have := HLs.out; rw [IntKind.wrap_i64]; omega
       clear hx7 hI1'
       go_wp2_with (first | (go_at_call 18; refine CB'.out.mono ?_; rintro e w' ⟨rfl, hw'⟩; have hw'' := hw'.symm; subst hw'') | (go_at_call 52; refine CC'.out.mono ?_; rintro e w' ⟨rfl, hw'⟩; have hw'' := hw'.symm; subst hw''))
       go_region_held3 (fun w' => Below w.heap.size w w') (first | assumption | exact hbel.drew | exact (hbe2.alloc hbe2.size _)) (first
        | (go_at_call 79; refine (CT.out _).mono ?_; rintro e w2 ⟨rfl, hb2⟩; have hbw2 : Below wr.heap.size wr w2 := (h44.drew).trans hb2; have hbe2 : Below w.heap.size w w2 := hbel.trans (hbw2.mono hsz); clear hb2)
        | (refine step_append_own rfl (.tmp 81) (.tmp 91) 66 rfl w.heap.size 105 i0 (.agg #[.string ⟨#[]⟩, .string ⟨#[]⟩]) 2 32 Tryz.underlying66 hi hz0 hz1 hz2 rfl (by decide) _ _ _ (by simp [Act.eval]) ((ownsRow_below hown hbw2).alloc _) ⟨w2.heap.size, 0, none⟩ 1 1 [.string NM, .string T] (by simp [Act.eval]) rfl (cell_pair _ _ _ _) (by intro u hu; simp at hu; rcases hu with rfl | rfl <;> rfl) (by unfold maxLen; omega) (by omega) (by have := hbe2.size; simp; omega) ?_; intro v9 w9 own9 grow9; have hbe9 : Below w.heap.size w w9 := (hbe2.alloc hbe2.size _).grown grow9 (by have := hbe2.size; simp; omega) (fun j hj => ((ownsRow_below hown hbw2).lt j hj).1)))
       have R : w9.ownsRow w.heap.size 105 2 v9 (fs ++ [(NM, T)]).length (fv (fs ++ [(NM, T)])) := by rw [fv_snoc, List.length_append]; exact own9
       obtain ⟨p1, c1, rfl, hl1, hl2, _, _, _, _⟩ := owned_fields R
       have HR' : Hid (w9.ownsRow w.heap.size 105 2 (.slice p1 (fs ++ [(NM, T)]).length c1) (fs ++ [(NM, T)]).length (fv (fs ++ [(NM, T)]))) := R
       have e1 : (fs ++ [(NM, T)]).length = fs.length + 1 := by simp
       rw [e1] at hl1 HR' ⊢
       clear own9 grow9 R hown e1 hbw2 hbe2
       by_cases h21 : 20 < fs.length + 1
       ·have HN : Hid (parseGo (n + 1) L 0 [] = ([], 0, 2)) := HA1.out h21
        have h21' : (20 : Int) < (fs.length : Int) + 1 := by omega
        clear HA1 HA2
        go_wp2_with (first | (go_at_call 77; refine (fail_any 2 _ rfl _).mono ?_; rintro e w' ⟨rfl, hw'⟩; have hw'' := hw'.symm; subst hw''))
        go_ret3
        show FReadPost _ _ _ _
        rw [HN.out]
        exact freadPost_none hbe9 2
       ·have HN := HA2.out h21
        have HN' : Hid (parseGo (n - (A + K + 1) + 1) (L.drop (A + K + 1)) (A + K + 1) ((fs ++ [(NM, T)]).map fl) = parseGo (n + 1) L 0 []) := HN
        have h21' : ¬ (20 : Int) < (fs.length : Int) + 1 := by omega
        have HSn : Hid (∀ f ∈ fs ++ [(NM, T)], f.1.size + f.2.size ≤ A + K + 1) := sizes_snoc HS.out HZ.out (by omega)
        clear HA1 HA2 HN
        go_wp2
        go_roundw
        case rel => exact ⟨fs ++ [(NM, T)], A + K + 1, by go_num, by omega, by simp; omega, by rw [show (fs ++ [(NM, T)]).length = fs.length + 1 from by simp]; exact HR'.out, hbe9, HSn, HN'⟩
        case measure => simp [intOf]; omega
     ·rw [hbt] at CB
      have CB' : Hid (Calls Tryz.prog 18 #[.string ⟨#[32, 9]⟩, .string ⟨#[c0]⟩] wr fun e w' => e = .returned (.bool true) ∧ w' = wr) := CB
      clear CB
      rcases List.eq_nil_or_concat fs with hfs | ⟨fs0, f, hfs⟩
      ·subst hfs
       have HN : Hid (parseGo (n + 1) L 0 [] = ([], 0, 1)) := Q2.out 1 (add_none hhd.out hbt)
       obtain ⟨p1, c1, rfl, hl1, hl2, hl3, _, _, _⟩ := owned_fields hown
       clear hown Q2 Q3 HS
       go_wp2_with (first | (go_at_call 18; refine CB'.out.mono ?_; rintro e w' ⟨rfl, hw'⟩; have hw'' := hw'.symm; subst hw'') | (go_at_call 77; refine (fail_any 1 _ rfl _).mono ?_; rintro e w' ⟨rfl, hw'⟩; have hw'' := hw'.symm; subst hw''))
       go_ret3
       show FReadPost _ _ _ _
       rw [HN.out]
       exact freadPost_none hbel 1
      ·rw [List.concat_eq_append] at hfs
       subst hfs
       obtain ⟨Na, Va⟩ := f
       obtain ⟨T1, hT1, hT1s⟩ := mk_trim isBT S8.data.toList
       obtain ⟨X, hX⟩ : ∃ X : ByteArray, X = Va ++ ⟨#[32]⟩ ++ T1 := ⟨_, rfl⟩
       have hXd : X.data.toList = Va.data.toList ++ [32] ++ T1.data.toList := by rw [hX]; simp
       obtain ⟨T2, hT2, hT2s⟩ := mk_trim isSp X.data.toList
       rw [← Lib.size_eq] at hT1s hT2s
       have hXs : X.size = Va.size + 1 + T1.size := by rw [Lib.size_eq, hXd]; simp only [List.length_append, List.length_cons, List.length_nil]; rw [← Lib.size_eq, ← Lib.size_eq]
       have hNV := HS.out (Na, Va) (by simp)
       simp only at hNV
       have HZ : Hid (Na.size + T2.size ≤ A + K + 1) := by unfold Hid; have := HLs.out; omega
       have HS0 : Hid (∀ f ∈ fs0, f.1.size + f.2.size ≤ A) := fun f hf => HS.out f (by simp [hf])
       have CT1 : Hid (∀ w', Calls Tryz.prog 79 #[.string S8, .string ⟨#[32, 9]⟩] w' fun e w'' => e = .returned (.string T1) ∧ Below w'.heap.size w' w'') := fun w' => trimBT_any S8 T1 hT1 w' (by have := HLs.out; omega)
       have CT2 : Hid (∀ w', Calls Tryz.prog 79 #[.string X, .string ⟨#[32]⟩] w' fun e w'' => e = .returned (.string T2) ∧ Below w'.heap.size w' w'') := fun w' => trimSp_any X T2 hT2 w' (by have := HLs.out; omega)
       have HQ3 : Hid (parseGo (n - (A + K + 1) + 1) (L.drop (A + K + 1)) (A + K + 1) ((fs0 ++ [(Na, T2)]).map fl) = parseGo (n + 1) L 0 []) := Q3.out _ (by rw [List.map_append, List.map_singleton, add_more hhd.out hbt, HLB.out, ← hT1]; simp [fl, hT2, hXd])
       obtain ⟨p1, c1, rfl, hl1, hl2, hl3, hob, hgg, hfr⟩ := owned_fields hown
       obtain ⟨g, rfl, hgo⟩ := hgg (by simp)
       obtain ⟨_, hgB, hgl⟩ := hob g hgo
       obtain ⟨b', o', he', hcell⟩ := hfr (by simp)
       obtain ⟨rfl, rfl⟩ : b' = g ∧ o' = 0 := by injection he' with he'; injection he' with h1 h2; exact ⟨h1.symm, h2.symm⟩
       have hld := (hcell fs0.length (by simp)).2
       rw [show ((fs0 ++ [(Na, Va)]).getD fs0.length default) = (Na, Va) from by simp [List.getD_eq_getElem?_getD], Nat.zero_add] at hld
       have e1 : (fs0 ++ [(Na, Va)]).length = fs0.length + 1 := by simp
       have hfz := hown.frozenAt (fs0.length * 2 + 1)
       have HO : Hid (wr.ownsRow w.heap.size 105 2 (.slice (some ⟨b', 0, none⟩) (fs0.length + 1) c1) (fs0.length + 1) (fv (fs0 ++ [(Na, Va)]))) := by unfold Hid; rw [← e1]; exact hown
       have h44 : Below wr.heap.size wr wr := Below.refl _ _
       rw [e1] at h20 hl1 ⊢
       have hl2i : (fs0.length : Int) + 1 ≤ (c1 : Int) := by omega
       have hXe : Va ++ ⟨#[32]⟩ ++ T1 = X := hX.symm
       have hVs : Va.size + T1.size + 1 ≤ 1000000 := by have := HLs.out; omega
       clear hXs
       clear hcell hfr he' hob hgo hown e1 hX hXd hT1 hT2 hT1s hT2s Q2 Q3 hl3 hNV HS
       go_wp2_with (first | (go_at_call 18; refine CB'.out.mono ?_; rintro e w' ⟨rfl, hw'⟩; have hw'' := hw'.symm; subst hw''))
       have hcat1 : ¬ 9223372036854775807 < Va.size + 1 := by omega
       have hcat2 : ¬ 9223372036854775807 < Va.size + 1 + T1.size := by omega
       go_region_with (first
        | (go_at_call_of 79 S8; refine (CT1.out _).mono ?_; rintro e w2 ⟨rfl, hb2⟩; have hbw2 : Below wr.heap.size wr w2 := (h44.drew).trans hb2; have hbe2 : Below w.heap.size w w2 := hbel.trans (hbw2.mono hsz); have hld2 := (hbw2.cell (p := ⟨b', fs0.length * 2 + 1, none⟩) hgl).trans hld; clear hb2)
        | (go_at_call_of 79 X; refine (CT2.out _).mono ?_; rintro e w3 ⟨rfl, hb3⟩; have hbw3 : Below wr.heap.size wr w3 := hbw2.trans (hb3.mono hbw2.size); have hbe3 : Below w.heap.size w w3 := hbel.trans (hbw3.mono hsz); have hld3 := (hbw3.cell (p := ⟨b', fs0.length * 2 + 1, none⟩) hgl).trans hld; have hfz3 := (hbw3.frozen (p := ⟨b', fs0.length * 2 + 1, none⟩) hgl).trans hfz; clear hb3))
       all_goals (
        have st := (ownsRow_below HO.out hbw3).stored (fs0.length * 2 + 1) (.string T2)
        rw [fv_set] at st
        have hbe4 : Below w.heap.size w (w3.setCell ⟨b', fs0.length * 2 + 1, none⟩ (.string T2)) := hbe3.setCell hgB _
        have HST : Hid ((w3.setCell ⟨b', fs0.length * 2 + 1, none⟩ (.string T2)).ownsRow w.heap.size 105 2 (.slice (some ⟨b', 0, none⟩) (fs0.length + 1) c1) (fs0.length + 1) (fv (fs0 ++ [(Na, T2)]))) := st.1
        clear st
        go_wp2
        go_roundw
        case rel => exact ⟨fs0 ++ [(Na, T2)], A + K + 1, by go_num, by omega, by simp; omega, by rw [show (fs0 ++ [(Na, T2)]).length = fs0.length + 1 from by simp]; exact HST.out, hbe4, sizes_snoc HS0.out HZ.out (by omega), HQ3⟩
        case measure => simp [intOf]; omega)
theorem fread_nil (p : Option Addr) (c : Nat) (w : World) (hp : p = none → c = 0) :
  Calls Tryz.prog 43 #[.slice p 0 c] w fun e w' => FReadPost w ([], 0, 1) e w' := by
 cases p with
 | none =>
  obtain rfl := hp rfl
  go_enter Tryz.func43, Tryz.ntmps43
  go_wp2
  refine wp_loop_rounds 1 ?_
  rw [rounds_succ]
  go_wp2_with (first | (go_at_call 78; refine (index_nil _ _ 10 _).mono ?_; rintro e w' ⟨rfl, hw'⟩; have hw'' := hw'.symm; subst hw'') | (go_at_call 77; refine (fail_any 1 _ rfl _).mono ?_; rintro e w' ⟨rfl, hw'⟩; have hw'' := hw'.symm; subst hw''))
  go_ret3
  exact freadPost_none (Below.refl _ _) 1
 | some a =>
  have hc0 : (0 : Int) ≤ (c : Int) := by omega
  go_enter Tryz.func43, Tryz.ntmps43
  go_wp2
  refine wp_loop_rounds 1 ?_
  rw [rounds_succ]
  go_wp2_with (first | (go_at_call 78; refine (index_nil _ _ 10 _).mono ?_; rintro e w' ⟨rfl, hw'⟩; have hw'' := hw'.symm; subst hw'') | (go_at_call 77; refine (fail_any 1 _ rfl _).mono ?_; rintro e w' ⟨rfl, hw'⟩; have hw'' := hw'.symm; subst hw''))
  all_goals go_ret3
  all_goals exact freadPost_none (Below.refl _ _) 1
theorem fread_any (p : Option Addr) (n c : Nat) (L : List UInt8) (en : n = L.length) (w : World) (hn : n ≤ 40000) (hcap : n ≤ c) (hcm : c ≤ maxLen) (hp : p = none → n = 0 ∧ c = 0) (hr : BRow w p L) :
  Calls Tryz.prog 43 #[.slice p n c] w fun e w' => FReadPost w (parseF L) e w' := by
 rw [parseF, if_neg (by omega), ← en]
 by_cases h0 : L = []
 ·subst h0
  obtain rfl : n = 0 := en
  exact fread_nil p c w (fun h => (hp h).2)
 ·obtain ⟨b, o, rfl, hc⟩ := hr h0
  rw [← en] at hc
  exact fread_some b o n c L en w (by rw [en]; exact List.length_pos_iff.2 h0) hn hcap hcm hc
end Go.Proofs.YtlndhdimamnnlaaGreatDoor

