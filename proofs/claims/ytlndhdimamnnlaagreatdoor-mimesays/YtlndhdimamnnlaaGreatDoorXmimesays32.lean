
import Derived.Test.YtlndhdimamnnlaaGreatDoorXmimesays31
namespace Go.Proofs.YtlndhdimamnnlaaGreatDoor
open Go.RowKit
theorem bad_any (k : Nat) (kk : Int) (e : kk = (k : Int)) (w : World) :
  Calls Tryz.prog 84 #[.int .i64 kk] w fun e w' => e = .returned (.tuple #[.string ⟨#[]⟩, .slice none 0 0, .int .i64 (k : Int)]) ∧ w' = w := by
 subst e
 go_enter Tryz.func84, Tryz.ntmps84
 go_wp2
 go_ret3
 exact ⟨rfl, rfl⟩
theorem rof_index_at (d : UInt8) (X : ByteArray) (w : World) : Calls Tryz.prog 52 #[.string X, .string ⟨#[d]⟩] w fun e w' => e = .returned (.int .i64 (whereB d X.data.toList)) ∧ w' = w := by
 refine (Tryz.strings_Index_one X d w).mono ?_
 rintro e w' ⟨rfl, rfl⟩
 exact ⟨by rw [indexByte_where], rfl⟩
theorem ext_drop (s : ByteArray) (i : Nat) : (s.extract i s.size).data.toList = s.data.toList.drop i := by
 rw [Lib.extract_data]
 exact List.take_of_length_le (by rw [List.length_drop, ← Lib.size_eq]; omega)
theorem ext_part (s : ByteArray) (i k : Nat) (a r : List UInt8) (h : s.data.toList.drop i = a ++ r) (hk : k = a.length) : (s.extract i (i + k)).data.toList = a := by
 rw [Lib.extract_data, h, show i + k - i = k from by omega, hk]
 simp
theorem drop_next (L : List UInt8) (i : Nat) (c : UInt8) (R : List UInt8) (h : L.drop i = c :: R) : L.drop (i + 1) = R ∧ i < L.length := by
 have : i < L.length := by
  rcases Nat.lt_or_ge i L.length with h' | h'
  ·exact h'
  ·rw [List.drop_of_length_le h'] at h; cases h
 refine ⟨?_, this⟩
 rw [← List.drop_drop, h]; rfl
theorem drop_app (L : List UInt8) (i k : Nat) (a r : List UInt8) (h : L.drop i = a ++ r) (hk : k = a.length) : L.drop (i + k) = r ∧ i + k ≤ L.length ∨ L.length < i := by
 by_cases hl : L.length < i
 ·exact .inr hl
 ·left
  have := congrArg List.length h
  rw [List.length_drop, List.length_append] at this
  exact ⟨by rw [← List.drop_drop, h, hk]; simp, by omega⟩
theorem byte_at (s : ByteArray) (j : Nat) (hj : j < s.size) : s.data.toList.drop j = s[j] :: s.data.toList.drop (j + 1) := dropB s j hj
theorem sp_byte (c : UInt8) : isSp c = decide (c = 32) := by simp [isSp]
theorem num_ne {c d : UInt8} (h : c ≠ d) : ((c.toNat : Int) == (d.toNat : Int)) = false := by
 rw [beq_eq_false_iff_ne]; intro e; exact h (UInt8.toNat_inj.1 (by omega))
structure At (L : List UInt8) (G : Except Nat (List Fld)) (i : Nat) (R : List UInt8) (mo : Bool) (g : Nat) (fs : List FV) : Prop where
 place : L.drop i = tailOf R mo
 go : paramsGo g R mo (fs.map fl) = G
 fuel : R.length < g
 len : ∀ f ∈ fs, f.1.size + f.2.size ≤ 2000
set_option maxHeartbeats 8000000 in
set_option maxRecDepth 100000 in
theorem pof_value (s : ByteArray) (w : World) (hv : valueS s.data.toList = true) (hT : ∀ w', Below w.heap.size w w' → Lib.Utf8Tabs 6 7 w') :
  Calls Tryz.prog 45 #[.string s] w fun e w' => ParamsPost w (paramsF s.data.toList) e w' := by
 obtain ⟨i0, hi, hz0, hz1, hz2⟩ := info_parts info_fieldH
 obtain ⟨L, hL⟩ : ∃ L, L = s.data.toList := ⟨_, rfl⟩
 have hl9 := (value_facts hv).1
 rw [← Lib.size_eq] at hl9
 have CV : Hid (∀ w, Calls Tryz.prog 85 #[.string s] w fun e w' => e = .returned (.bool true) ∧ w' = w) := fun w => by rw [← hv]; exact value_any s w (by unfold maxLen; omega)
 have hasc : ∀ c ∈ L, c.toNat < 128 := by rw [hL]; exact value_ascii hv
 obtain ⟨semi1, semi2⟩ := semi_at L
 have hcl := (cutP_length 59 L).1
 obtain ⟨I0, hI0⟩ : ∃ I0, I0 = (cutP 59 L).1.length := ⟨_, rfl⟩
 have CI : Hid (∀ w, Calls Tryz.prog 52 #[.string (s ++ ⟨#[59]⟩), .string ⟨#[59]⟩] w fun e w' => e = .returned (.int .i64 (I0 : Int)) ∧ w' = w) := fun w => by
  have := rof_index_at 59 (s ++ ⟨#[59]⟩) w
  rw [show (s ++ ⟨#[59]⟩ : ByteArray).data.toList = L ++ [59] from by rw [hL]; simp, whereB_some semi1] at this
  rw [hI0]; exact this
 have hIs : I0 ≤ s.size := by rw [hI0, Lib.size_eq, ← hL]; exact hcl
 have hex0 : s.extract 0 I0 = ba (cutP 59 L).1 := by
  apply ba_inj
  rw [ba_data, Lib.extract_data, List.drop_zero, Nat.sub_zero, ← hL, hI0]
  have h9 := congrArg (List.take (cutP 59 L).1.length) semi2
  rw [List.take_left] at h9
  exact h9
 have CT : Hid (∀ w, Calls Tryz.prog 79 #[.string (ba (cutP 59 L).1), .string ⟨#[32]⟩] w fun e w' => e = .returned (.string (ba (trimBy isSp (cutP 59 L).1))) ∧ Below w.heap.size w w') := fun w => trimSp_any _ _ rfl w (by rw [ba_size]; omega)
 have htl := trimBy_length isSp (cutP 59 L).1
 have CS : Hid (∀ w', Below w.heap.size w w' → Calls Tryz.prog 71 #[.string (ba (trimBy isSp (cutP 59 L).1))] w' fun e w'' => e = .returned (.string (ba (small8 (trimBy isSp (cutP 59 L).1)))) ∧ Below w'.heap.size w' w'') := fun w' hb => rsmall_any _ w' (by omega) (fun c hc => hasc c ((cutP_mem 59 L c).1 (mem_trimBy hc))) (hT w' hb)
 have HF : Hid (paramsF s.data.toList = outP (small8 (trimBy isSp (cutP 59 L).1)) (paramsGo (L.length + 1) (cutP 59 L).2.1 (cutP 59 L).2.2 [])) := by unfold Hid paramsF; rw [if_pos hv, ← hL]
 have HA0 : Hid (At L (paramsGo (L.length + 1) (cutP 59 L).2.1 (cutP 59 L).2.2 []) I0 (cutP 59 L).2.1 (cutP 59 L).2.2 (L.length + 1) []) := by
  refine ⟨?_, rfl, by have := (cutP_length 59 L).2.1; omega, fun f hf => by cases hf⟩
  have : L.drop I0 = ((cutP 59 L).1 ++ tailOf (cutP 59 L).2.1 (cutP 59 L).2.2).drop I0 := by rw [← semi2]
  rw [this, hI0]; simp
 have HL : Hid (L = s.data.toList) := hL
 have HAsc : Hid (∀ c ∈ L, c.toNat < 128) := hasc
 generalize paramsGo (L.length + 1) (cutP 59 L).2.1 (cutP 59 L).2.2 [] = G at *
 generalize small8 (trimBy isSp (cutP 59 L).1) = sm at *
 generalize ba (trimBy isSp (cutP 59 L).1) = stm at *
 generalize ba (cutP 59 L).1 = sa at *
 generalize (cutP 59 L).2.1 = R0 at *
 generalize (cutP 59 L).2.2 = mo0 at *
 have HT : Hid (∀ w', Below w.heap.size w w' → Lib.Utf8Tabs 6 7 w') := hT
 have hIi : (I0 : Int) ≤ (s.size : Int) := by omega
 clear hv hL hasc semi1 semi2 hcl hI0 htl hT
 go_enter Tryz.func45, Tryz.ntmps45
 go_wp2_with fail
 refine (CV.out _).mono ?_
 rintro e w' ⟨rfl, hw'⟩
 have hw'' := hw'.symm
 subst hw''
 clear CV
 go_wp2_with fail
 refine (CI.out _).mono ?_
 rintro e w' ⟨rfl, hw'⟩
 have hw'' := hw'.symm
 subst hw''
 clear CI
 go_wp2_with fail
 refine (CT.out _).mono ?_
 rintro e w1 ⟨rfl, hb1⟩
 clear CT
 go_wp2_with fail
 refine (CS.out _ hb1).mono ?_
 rintro e w2 ⟨rfl, hb2⟩
 clear CS
 have hb12 := hb1.trans (hb2.mono hb1.size)
 clear hb1 hb2
 go_wp2
 go_loopw [6, 8] (fun iv lv wr => ∃ (i : Nat) (R : List UInt8) (mo : Bool) (g : Nat) (fs : List FV), iv = .int .i64 i ∧ i ≤ s.size ∧ fs.length ≤ 20 ∧ wr.ownsRow w.heap.size 105 2 lv fs.length (fv fs) ∧ Below w.heap.size w wr ∧ Hid (At L G i R mo g fs)) (fun iv _ _ => s.size - (intOf iv).toNat)
 case atStart => exact ⟨I0, R0, mo0, _, [], rfl, hIs, by simp, World.ownsRow_nil _ _ _ _, hb12, HA0⟩
 case round =>
  obtain ⟨i, R, mo, g, fs, rfl, his, h20, hown, hbel, HA⟩ := hrel
  clear hb12 HA0 hIs hIi hex0
  have hsz := hbel.size
  obtain ⟨g', rfl⟩ : ∃ g', g = g' + 1 := ⟨g - 1, by have := HA.out.fuel; omega⟩
  cases mo
  ·have HN : Hid (paramsF s.data.toList = (sm, fs.map fl, 0)) := by unfold Hid; rw [HF.out, ← HA.out.go, paramsGo_end]; rfl
   have hie : i = s.size := by
    have h1 := HA.out.place
    rw [tailOf, if_neg (by simp)] at h1
    have h2 := congrArg List.length h1
    rw [List.length_drop, HL.out, ← Lib.size_eq, List.length_nil] at h2
    omega
   have hFL : FLen fs := fun f hf => by have := HA.out.len f hf; unfold maxLen; omega
   obtain ⟨p1, c1, rfl, hc1, hc2, _, _, _, hfr⟩ := owned_fields hown
   have HFR : Hid (FRow wr p1 fs) := hfr
   clear hown hfr HA
   subst hie
   go_wp2
   go_ret3
   show ParamsPost _ _ _ _
   rw [HN.out]
   exact ⟨hbel, p1, c1, fs, rfl, rfl, hc1, hc2, HFR.out, hFL⟩
  ·have hpl := HA.out.place
   rw [tailOf, if_pos rfl] at hpl
   obtain ⟨hR, hil⟩ := drop_next L i 59 R hpl
   rw [HL.out, ← Lib.size_eq] at hil
   have HR : Hid (L.drop (i + 1) = R) := hR
   have hili : (i : Int) < (s.size : Int) := by omega
   have HE1 : Hid (paramOk R = false → paramsF s.data.toList = ([], [], 1)) := fun h => by rw [HF.out, ← HA.out.go, paramsGo_bad h]; rfl
   clear hpl hR
   go_wp2
   go_loop [6] (fun jv => ∃ j : Nat, jv = .int .i64 j ∧ i + 1 ≤ j ∧ j ≤ s.size ∧ Hid ((L.drop j).dropWhile isSp = R.dropWhile isSp)) (fun jv => s.size - (intOf jv).toNat)
   case atStart => exact ⟨i + 1, by go_num, Nat.le_refl _, by omega, by unfold Hid; rw [HR.out]⟩
   case round =>
    obtain ⟨j, rfl, hj1, hj2, HJ⟩ := hrel
    by_cases hjs : j < s.size
    ·have hjsi : (j : Int) < (s.size : Int) := by omega
     have hby := byte_at s j hjs
     rw [← HL.out] at hby
     by_cases hb : s[j] = 32
     ·have hbi : ((s[j].toNat : Int) == 32) = true := by rw [hb]; rfl
      have HJ2 : Hid ((L.drop (j + 1)).dropWhile isSp = R.dropWhile isSp) := by
       unfold Hid; rw [← HJ.out, hby, List.dropWhile_cons, if_pos (by rw [hb]; rfl)]
      clear hby hb
      go_wp2
      go_round
      case rel => exact ⟨j + 1, by go_num, by omega, by omega, HJ2⟩
      case measure => simp [intOf]; omega
     ·have hbi : ((s[j].toNat : Int) == 32) = false := num_ne (d := 32) hb
      have HQ : Hid (L.drop j = R.dropWhile isSp) := by
       unfold Hid; rw [← HJ.out, hby, List.dropWhile_cons, if_neg (by rw [sp_byte]; simp [hb])]
      clear hby HJ hb
      have HXd : Hid ((s.extract j s.size).data.toList = R.dropWhile isSp) := by unfold Hid; rw [ext_drop, ← HL.out]; exact HQ.out
      cases hc : cutB 61 (R.dropWhile isSp) with
      | none =>
       have CI2 : Hid (∀ w, Calls Tryz.prog 52 #[.string (s.extract j s.size), .string ⟨#[61]⟩] w fun e w' => e = .returned (.int .i64 (-1)) ∧ w' = w) := fun w => by
        have := rof_index_at 61 (s.extract j s.size) w
        rw [HXd.out, whereB_none hc] at this
        exact this
       have HN1 : Hid (paramsF s.data.toList = ([], [], 1)) := HE1.out (by rw [paramOk, nameOk, name_none R hc]; simp)
       clear hc HXd hown
       go_wp2_with fail
       refine (CI2.out _).mono ?_
       rintro e w' ⟨rfl, hw'⟩
       have hw'' := hw'.symm
       subst hw''
       clear CI2
       go_wp2_with fail
       refine (bad_any 1 _ rfl _).mono ?_
       rintro e w' ⟨rfl, hw'⟩
       have hw'' := hw'.symm
       subst hw''
       go_wp2
       go_ret3
       show ParamsPost _ _ _ _
       rw [HN1.out]
       exact paramsPost_none (hbel) 1
      | some x =>
       obtain ⟨a, r⟩ := x
       obtain ⟨n1, n2, n3⟩ := name_some R a r hc
       obtain ⟨K, hK⟩ : ∃ K, K = a.length := ⟨_, rfl⟩
       have CI2 : Hid (∀ w, Calls Tryz.prog 52 #[.string (s.extract j s.size), .string ⟨#[61]⟩] w fun e w' => e = .returned (.int .i64 (K : Int)) ∧ w' = w) := fun w => by
        have := rof_index_at 61 (s.extract j s.size) w
        rw [HXd.out, whereB_some hc] at this
        rw [hK]; exact this
       have hsp := (cutB_some 61 _ _ _ hc).1
       rw [← HQ.out] at hsp
       have hx2 : s.extract j (j + K) = ba a := by
        apply ba_inj
        rw [ba_data, ext_part s j K a (61 :: r) (by rw [← HL.out]; exact hsp) hK]
       have hdr : L.drop (j + K + 1) = r ∧ j + K + 1 ≤ s.size := by
        rcases drop_app L j K a (61 :: r) hsp hK with ⟨a1, a2⟩ | h
        ·have := drop_next L (j + K) 61 r a1
         rw [HL.out, ← Lib.size_eq] at this
         exact ⟨by rw [HL.out]; exact this.1, by have := this.2; omega⟩
        ·rw [HL.out, ← Lib.size_eq] at h; omega
       obtain ⟨hdr1, hdr2⟩ := hdr
       have HDR : Hid (L.drop (j + K + 1) = r) := hdr1
       have HRR : Hid ((cutP 61 R).2.1 = r) := n3
       have hal : a.length ≤ 900 := by omega
       have CT2 : Hid (∀ w, Calls Tryz.prog 79 #[.string (ba a), .string ⟨#[32]⟩] w fun e w' => e = .returned (.string (ba (trimBy isSp a))) ∧ Below w.heap.size w w') := fun w => trimSp_any _ _ rfl w (by rw [ba_size]; omega)
       have htl := trimBy_length isSp a
       have KN := fun w => token_any (ba (trimBy isSp a)) w (by rw [ba_size]; unfold maxLen; omega)
       rw [ba_data] at KN
       have hjk : (j : Int) + (K : Int) ≤ (s.size : Int) := by omega
       cases htn : tokenS (trimBy isSp a)
       ·have CN : Hid (∀ w, Calls Tryz.prog 34 #[.string (ba (trimBy isSp a))] w fun e w' => e = .returned (.bool false) ∧ w' = w) := fun w => by rw [← htn]; exact KN w
        have HN1 : Hid (paramsF s.data.toList = ([], [], 1)) := HE1.out (by rw [paramOk, nameOk, n2, htn]; simp)
        generalize ba (trimBy isSp a) = nm at *
        generalize ba a = nx at *
        clear hc HXd hown KN htn n1 n2 n3 hsp hdr1 htl hK
        go_wp2_with fail
        refine (CI2.out _).mono ?_
        rintro e w' ⟨rfl, hw'⟩
        have hw'' := hw'.symm
        subst hw''
        clear CI2
        go_wp2_with fail
        refine (CT2.out _).mono ?_
        rintro e wT ⟨rfl, hbT⟩
        clear CT2
        go_wp2_with fail
        refine (CN.out _).mono ?_
        rintro e w' ⟨rfl, hw'⟩
        have hw'' := hw'.symm
        subst hw''
        clear CN
        go_wp2_with fail
        refine (bad_any 1 _ rfl _).mono ?_
        rintro e w' ⟨rfl, hw'⟩
        have hw'' := hw'.symm
        subst hw''
        go_wp2
        go_ret3
        show ParamsPost _ _ _ _
        rw [HN1.out]
        exact paramsPost_none ((hbel.trans (hbT.mono hsz)).alloc (by have := hbT.size; omega) _) 1
       ·have CN : Hid (∀ w, Calls Tryz.prog 34 #[.string (ba (trimBy isSp a))] w fun e w' => e = .returned (.bool true) ∧ w' = w) := fun w => by rw [← htn]; exact KN w
        have HNO : Hid (nameOk R = true) := by unfold Hid; rw [nameOk, n1, n2, htn]; rfl
        have htf := (token_facts htn).2
        have CS2 : Hid (∀ w', Below w.heap.size w w' → Calls Tryz.prog 71 #[.string (ba (trimBy isSp a))] w' fun e w'' => e = .returned (.string (ba (small8 (trimBy isSp a)))) ∧ Below w'.heap.size w' w'') := fun w' hb => rsmall_any _ w' (by omega) (fun c hc => by have := (htf.2 c hc).2.1; omega) (HT.out w' hb)
        obtain ⟨SN, hSN⟩ : ∃ SN, ba (small8 (trimBy isSp a)) = SN := ⟨_, rfl⟩
        have HSN : Hid (SN.data.toList = small8 (nameS R)) := by unfold Hid; rw [← hSN, n2]; rfl
        have hSNs : SN.size ≤ 30 := by rw [← hSN, ba_size, small8_length]; exact htf.1
        rw [hSN] at CS2
        generalize ba (trimBy isSp a) = nm at *
        generalize ba a = nx at *
        clear hc HXd KN htn n1 n2 n3 hsp hdr1 htl hK htf hSN
        go_wp2_with fail
        refine (CI2.out _).mono ?_
        rintro e w' ⟨rfl, hw'⟩
        have hw'' := hw'.symm
        subst hw''
        clear CI2
        go_wp2_with fail
        refine (CT2.out _).mono ?_
        rintro e wT ⟨rfl, hbT⟩
        clear CT2
        go_wp2_with fail
        refine (CN.out _).mono ?_
        rintro e w' ⟨rfl, hw'⟩
        have hw'' := hw'.symm
        subst hw''
        clear CN
        go_wp2_with fail
        refine (CS2.out _ ((hbel.trans (hbT.mono hsz)).alloc (by have := hbT.size; omega) _)).mono ?_
        rintro e w3 ⟨rfl, hb3⟩
        clear CS2
        obtain ⟨m1, m2, m3, m4, m5, m6⟩ := made_two hb3
        clear hb3
        have hb4 : Below wr.heap.size wr (w3.setCell ⟨wT.heap.size, 0, none⟩ (.string SN)) := (hbT.trans (m6.mono hbT.size)).setCell hbT.size _
        have k0 : (w3.setCell ⟨wT.heap.size, 0, none⟩ (.string SN)).cell? ⟨wT.heap.size, 0, none⟩ = some (.string SN) := World.cell?_setCell_same' _ _ _ (by rw [m1]; rfl)
        have k1 : (w3.setCell ⟨wT.heap.size, 0, none⟩ (.string SN)).cell? ⟨wT.heap.size, 1, none⟩ = some (.string ⟨#[]⟩) := (World.cell?_setCell_other _ _ _ _ (by simp)).trans m2
        have k2 : (w3.setCell ⟨wT.heap.size, 0, none⟩ (.string SN)).frozen? ⟨wT.heap.size, 1, none⟩ = false := by rw [World.frozen?_setCell]; exact m4
        have hgF := hbT.size
        go_wp2
        obtain ⟨w4, hw4⟩ : ∃ w4, w3.setCell ⟨wT.heap.size, 0, none⟩ (.string SN) = w4 := ⟨_, rfl⟩
        rw [hw4] at hb4 k0 k1 k2
        simp only [hw4]
        obtain ⟨gF, hgFe⟩ : ∃ gF, wT.heap.size = gF := ⟨_, rfl⟩
        simp only [hgFe] at k0 k1 k2 hgF ⊢
        clear hw4 m1 m2 m3 m4 m5 m6 hgFe hbT
        go_loop [6] (fun qv => ∃ q : Nat, qv = .int .i64 q ∧ i + 1 ≤ q ∧ q ≤ s.size ∧ Hid ((L.drop q).dropWhile isSp = r.dropWhile isSp)) (fun qv => s.size - (intOf qv).toNat)
        case atStart => exact ⟨j + K + 1, by go_num, by omega, by omega, by unfold Hid; rw [HDR.out]⟩
        case round =>
         obtain ⟨q, rfl, hq1, hq2, HJ3⟩ := hrel
         by_cases hqs : q < s.size
         ·have hqsi : (q : Int) < (s.size : Int) := by omega
          have hby := byte_at s q hqs
          rw [← HL.out] at hby
          by_cases hb : s[q] = 32
          ·have hbi : ((s[q].toNat : Int) == 32) = true := by rw [hb]; rfl
           have HJ2 : Hid ((L.drop (q + 1)).dropWhile isSp = r.dropWhile isSp) := by
            unfold Hid; rw [← HJ3.out, hby, List.dropWhile_cons, if_pos (by rw [hb]; rfl)]
           clear hby hb
           go_wp2
           go_round
           case rel => exact ⟨q + 1, by go_num, by omega, by omega, HJ2⟩
           case measure => simp [intOf]; omega
          ·have hbi : ((s[q].toNat : Int) == 32) = false := num_ne (d := 32) hb
           have HQ2 : Hid (L.drop q = r.dropWhile isSp) := by
            unfold Hid; rw [← HJ3.out, hby, List.dropWhile_cons, if_neg (by rw [sp_byte]; simp [hb])]
           by_cases h34 : s[q] = 34
           ·have h34i : ((s[q].toNat : Int) == 34) = true := by rw [h34]; rfl
            obtain ⟨t, hQt⟩ : ∃ t, t = L.drop (q + 1) := ⟨_, rfl⟩
            have hhd : r.dropWhile isSp = 34 :: t := by rw [← HQ2.out, hby, h34, hQt]
            have HS : Hid (restS R = ((cutP 34 t).1, (cutP 59 (cutP 34 t).2.1).2.1, (cutP 59 (cutP 34 t).2.1).2.2, (cutP 34 t).2.2 && (trimBy isSp (cutP 59 (cutP 34 t).2.1).1).isEmpty)) := by
             unfold Hid; rw [restS, HRR.out, hhd, setS, if_pos (by rfl)]; rfl
            have HXt : Hid ((s.extract (q + 1) s.size).data.toList = t) := by unfold Hid; rw [ext_drop, ← HL.out, hQt]
            clear hby hb HJ3 h34 hhd
            have hq1i : (q : Int) + 1 ≤ (s.size : Int) := by omega
            cases hc2 : cutB 34 t with
            | none =>
             have CI4 : Hid (∀ w, Calls Tryz.prog 52 #[.string (s.extract (q + 1) s.size), .string ⟨#[34]⟩] w fun e w' => e = .returned (.int .i64 (-1)) ∧ w' = w) := fun w => by
              have := rof_index_at 34 (s.extract (q + 1) s.size) w
              rw [HXt.out, whereB_none hc2] at this
              exact this
             have HN1 : Hid (paramsF s.data.toList = ([], [], 1)) := HE1.out (by rw [paramOk, HS.out, cutP_none hc2]; simp)
             clear hc2 HS HXt hQt
             go_wp2_with fail
             refine (CI4.out _).mono ?_
             rintro e w' ⟨rfl, hw'⟩
             have hw'' := hw'.symm
             subst hw''
             clear CI4
             go_wp2_with fail
             refine (bad_any 1 _ rfl _).mono ?_
             rintro e w' ⟨rfl, hw'⟩
             have hw'' := hw'.symm
             subst hw''
             go_wp2
             go_ret3
             show ParamsPost _ _ _ _
             rw [HN1.out]
             exact paramsPost_none (hbel.trans (hb4.mono hsz)) 1
            | some x2 =>
             obtain ⟨vl, u⟩ := x2
             obtain ⟨K2, hK2⟩ : ∃ K2, K2 = vl.length := ⟨_, rfl⟩
             have CI4 : Hid (∀ w, Calls Tryz.prog 52 #[.string (s.extract (q + 1) s.size), .string ⟨#[34]⟩] w fun e w' => e = .returned (.int .i64 (K2 : Int)) ∧ w' = w) := fun w => by
              have := rof_index_at 34 (s.extract (q + 1) s.size) w
              rw [HXt.out, whereB_some hc2] at this
              rw [hK2]; exact this
             have hsp2 := (cutB_some 34 _ _ _ hc2).1
             have hsp3 : L.drop (q + 1) = vl ++ 34 :: u := by rw [← hQt]; exact hsp2
             have hx4 : s.extract (q + 1) (q + 1 + K2) = ba vl := by
              apply ba_inj
              rw [ba_data, ext_part s (q + 1) K2 vl (34 :: u) (by rw [← HL.out]; exact hsp3) hK2]
             have hdu : L.drop (q + K2 + 2) = u ∧ q + K2 + 2 ≤ s.size := by
              rcases drop_app L (q + 1) K2 vl (34 :: u) hsp3 hK2 with ⟨a1, a2⟩ | h
              ·have := drop_next L (q + 1 + K2) 34 u a1
               rw [HL.out, ← Lib.size_eq] at this
               exact ⟨by rw [HL.out, show q + K2 + 2 = q + 1 + K2 + 1 from by omega]; exact this.1, by have := this.2; omega⟩
              ·rw [HL.out, ← Lib.size_eq] at h; omega
             obtain ⟨hdu1, hdu2⟩ := hdu
             have HDU : Hid (L.drop (q + K2 + 2) = u) := hdu1
             have hvl4 : vl.length ≤ 900 := by omega
             have HS2 : Hid (restS R = (vl, (cutP 59 u).2.1, (cutP 59 u).2.2, (trimBy isSp (cutP 59 u).1).isEmpty)) := by unfold Hid; rw [HS.out, cutP_some hc2]; simp
             obtain ⟨V, hV⟩ : ∃ V, ba vl = V := ⟨_, rfl⟩
             have HVd : Hid (vl = V.data.toList) := by unfold Hid; rw [← hV]; rfl
             have HSZ : Hid (SN.size + V.size ≤ 2000) := by unfold Hid; rw [← hV, ba_size]; omega
             rw [hV] at hx4
             have hq4 : (q : Int) + 1 + (K2 : Int) ≤ (s.size : Int) := by omega
             clear hc2 HS HXt hQt hsp2 hsp3 hdu1 hV hK2 hvl4
             go_wp2_with fail
             refine (CI4.out _).mono ?_
             rintro e w' ⟨rfl, hw'⟩
             have hw'' := hw'.symm
             subst hw''
             clear CI4
             have hb5 : Below wr.heap.size wr (w4.setCell ⟨gF, 1, none⟩ (.string V)) := hb4.setCell hgF _
             have e0 : (w4.setCell ⟨gF, 1, none⟩ (.string V)).cell? ⟨gF, 0, none⟩ = some (.string SN) := (World.cell?_setCell_other _ _ _ _ (by simp)).trans k0
             have e1 : (w4.setCell ⟨gF, 1, none⟩ (.string V)).cell? ⟨gF, 1, none⟩ = some (.string V) := World.cell?_setCell_same' _ _ _ (by rw [k1]; rfl)
             go_wp2
             obtain ⟨w5, hw5⟩ : ∃ w5, w4.setCell ⟨gF, 1, none⟩ (.string V) = w5 := ⟨_, rfl⟩
             rw [hw5] at hb5 e0 e1
             simp only [hw5]
             clear hw5 k0 k1 k2 hb4
             go_loop [6] (fun zv => ∃ z : Nat, zv = .int .i64 z ∧ i + 1 ≤ z ∧ z ≤ s.size ∧ Hid ((L.drop z).dropWhile isSp = u.dropWhile isSp)) (fun zv => s.size - (intOf zv).toNat)
             case atStart => exact ⟨q + K2 + 2, by go_num, by omega, by omega, by unfold Hid; rw [HDU.out]⟩
             case round =>
              obtain ⟨z, rfl, hz1', hz2', HJ4⟩ := hrel
              by_cases hzs : z < s.size
              ·have hzsi : (z : Int) < (s.size : Int) := by omega
               have hby := byte_at s z hzs
               rw [← HL.out] at hby
               by_cases hb : s[z] = 32
               ·have hbi : ((s[z].toNat : Int) == 32) = true := by rw [hb]; rfl
                have HJ2 : Hid ((L.drop (z + 1)).dropWhile isSp = u.dropWhile isSp) := by
                 unfold Hid; rw [← HJ4.out, hby, List.dropWhile_cons, if_pos (by rw [hb]; rfl)]
                clear hby hb
                go_wp2
                go_round
                case rel => exact ⟨z + 1, by go_num, by omega, by omega, HJ2⟩
                case measure => simp [intOf]; omega
               ·have hbi : ((s[z].toNat : Int) == 32) = false := num_ne (d := 32) hb
                have HQ3 : u.dropWhile isSp = s[z] :: L.drop (z + 1) := by rw [← HJ4.out, hby, List.dropWhile_cons, if_neg (by rw [sp_byte]; simp [hb])]
                by_cases h59 : s[z] = 59
                ·have h59i : ((s[z].toNat : Int) == 59) = true := by rw [h59]; rfl
                 rw [h59] at HQ3
                 obtain ⟨ga, gb⟩ := gap_semi u _ HQ3
                 have HOK : Hid (paramOk R = true) := by unfold Hid; rw [paramOk, HNO.out, HS2.out, ga]; rfl
                 have HFL : Hid (paramFld R = fl (SN, V)) := by unfold Hid; rw [paramFld, HS2.out, fl, HSN.out, ← HVd.out]
                 have HTL : Hid (L.drop z = tailOf (restS R).2.1 (restS R).2.2.1) := by unfold Hid; rw [HS2.out, gb, hby, h59]
                 clear hby hb HQ3 ga gb h59 HJ4
                 have hbe5 : Below w.heap.size w w5 := hbel.trans (hb5.mono hsz)
                 have hown5 := ownsRow_below hown hb5
                 have hs5 := hb5.size
                 have hs5w := hbe5.size
                 have HX : Hid (¬ 20 < fs.length + 1 → At L G (z) (restS R).2.1 (restS R).2.2.1 g' (fs ++ [(SN, V)])) := fun h => ⟨HTL.out, by
                   rw [← HA.out.go, paramsGo_next HOK.out (by rw [List.length_map]; exact h), HFL.out, List.map_append, List.map_singleton], by have := HA.out.fuel; have := (restS_length R HNO.out).2; omega, by
                   intro f hf
                   rcases List.mem_append.1 hf with h1 | h1
                   ·exact HA.out.len f h1
                   ·simp at h1; subst h1; exact HSZ.out⟩
                 have HY : Hid (20 < fs.length + 1 → paramsF s.data.toList = ([], [], 2)) := fun h => by rw [HF.out, ← HA.out.go, paramsGo_many HOK.out (by rw [List.length_map]; exact h)]; rfl
                 clear HTL HFL HOK HA hown
                 go_wp2_with (at_builtin; refine wpList_append_own _ rfl (.tmp 182) (.tmp 184) 66 rfl w.heap.size 105 i0 (.agg #[.string ⟨#[]⟩, .string ⟨#[]⟩]) 2 32 Tryz.underlying66 hi hz0 hz1 hz2 rfl (by decide) _ _ _ rfl (hown5.alloc _) ⟨w5.heap.size, 0, none⟩ 1 1 [.string SN, .string V] rfl rfl (cell_pair _ _ _ _) ?c2 ?c3 ?c4 ?c5 ?_)
                 case c2 => first | exact ⟨rfl, rfl⟩ | (intro u hu; simp at hu; rcases hu with rfl | rfl <;> rfl)
                 case c3 => unfold maxLen; omega
                 case c4 => omega
                 case c5 => first | omega | (simp; omega)
                 intro v9 w9 hown9 hg9 _
                 have RB : Below w.heap.size w w9 := (hbe5.alloc hs5w _).grown hg9 (by simp; omega) (fun j hj => (hown5.lt j hj).1)
                 have R9 : w9.ownsRow w.heap.size 105 2 v9 (fs ++ [(SN, V)]).length (fv (fs ++ [(SN, V)])) := by rw [fv_snoc, List.length_append]; exact hown9
                 clear hg9 hown9 hown5 hb5 hbe5 e0 e1
                 obtain ⟨p9, c9, rfl, hl1, hl2, _, _, _, _⟩ := owned_fields R9
                 have HO : Hid (w9.ownsRow w.heap.size 105 2 (.slice p9 (fs ++ [(SN, V)]).length c9) (fs ++ [(SN, V)]).length (fv (fs ++ [(SN, V)]))) := R9
                 have e1' : (fs ++ [(SN, V)]).length = fs.length + 1 := by simp
                 rw [e1'] at hl1 HO ⊢
                 clear R9 e1'
                 by_cases h21 : 20 < fs.length + 1
                 ·have HN2 : Hid (paramsF s.data.toList = ([], [], 2)) := HY.out h21
                  have h21' : (20 : Int) < (fs.length : Int) + 1 := by omega
                  clear HX HY
                  go_wp2_with fail
                  refine (bad_any 2 _ rfl _).mono ?_
                  rintro e w' ⟨rfl, hw'⟩
                  have hw'' := hw'.symm
                  subst hw''
                  go_wp2
                  go_ret3
                  show ParamsPost _ _ _ _
                  rw [HN2.out]
                  exact paramsPost_none RB 2
                 ·have HX' := HX.out h21
                  have h21' : ¬ (20 : Int) < (fs.length : Int) + 1 := by omega
                  have HXX : Hid (At L G (z) (restS R).2.1 (restS R).2.2.1 g' (fs ++ [(SN, V)])) := HX'
                  clear HX HY HX'
                  go_wp2
                  go_roundw
                  case rel => exact ⟨z, _, _, g', fs ++ [(SN, V)], by rfl, by omega, by simp; omega, by rw [show (fs ++ [(SN, V)]).length = fs.length + 1 from by simp]; exact HO.out, RB, HXX⟩
                  case measure => simp [intOf]; omega
                ·have h59i : ((s[z].toNat : Int) == 59) = false := num_ne (d := 59) h59
                 have HN1 : Hid (paramsF s.data.toList = ([], [], 1)) := HE1.out (by rw [paramOk, HS2.out, gap_bad u _ _ HQ3 h59]; simp)
                 clear hby hb HQ3 h59 HJ4 hown HA
                 go_wp2_with fail
                 refine (bad_any 1 _ rfl _).mono ?_
                 rintro e w' ⟨rfl, hw'⟩
                 have hw'' := hw'.symm
                 subst hw''
                 go_wp2
                 go_ret3
                 show ParamsPost _ _ _ _
                 rw [HN1.out]
                 exact paramsPost_none (hbel.trans (hb5.mono hsz)) 1
              ·have hzsi : decide ((z : Int) < (s.size : Int)) = false := by simp; omega
               have hze : L.drop z = [] := List.drop_of_length_le (by rw [HL.out, ← Lib.size_eq]; omega)
               have HQ3 : u.dropWhile isSp = [] := by rw [← HJ4.out, hze]; rfl
               obtain ⟨ga, gb⟩ := gap_end u HQ3
               have HOK : Hid (paramOk R = true) := by unfold Hid; rw [paramOk, HNO.out, HS2.out, ga]; rfl
               have HFL : Hid (paramFld R = fl (SN, V)) := by unfold Hid; rw [paramFld, HS2.out, fl, HSN.out, ← HVd.out]
               have HTL : Hid (L.drop z = tailOf (restS R).2.1 (restS R).2.2.1) := by unfold Hid; rw [HS2.out, gb, hze]
               clear HQ3 ga gb hze HJ4
               have hbe5 : Below w.heap.size w w5 := hbel.trans (hb5.mono hsz)
               have hown5 := ownsRow_below hown hb5
               have hs5 := hb5.size
               have hs5w := hbe5.size
               have HX : Hid (¬ 20 < fs.length + 1 → At L G (z) (restS R).2.1 (restS R).2.2.1 g' (fs ++ [(SN, V)])) := fun h => ⟨HTL.out, by
                 rw [← HA.out.go, paramsGo_next HOK.out (by rw [List.length_map]; exact h), HFL.out, List.map_append, List.map_singleton], by have := HA.out.fuel; have := (restS_length R HNO.out).2; omega, by
                 intro f hf
                 rcases List.mem_append.1 hf with h1 | h1
                 ·exact HA.out.len f h1
                 ·simp at h1; subst h1; exact HSZ.out⟩
               have HY : Hid (20 < fs.length + 1 → paramsF s.data.toList = ([], [], 2)) := fun h => by rw [HF.out, ← HA.out.go, paramsGo_many HOK.out (by rw [List.length_map]; exact h)]; rfl
               clear HTL HFL HOK HA hown
               go_wp2_with (at_builtin; refine wpList_append_own _ rfl (.tmp 182) (.tmp 184) 66 rfl w.heap.size 105 i0 (.agg #[.string ⟨#[]⟩, .string ⟨#[]⟩]) 2 32 Tryz.underlying66 hi hz0 hz1 hz2 rfl (by decide) _ _ _ rfl (hown5.alloc _) ⟨w5.heap.size, 0, none⟩ 1 1 [.string SN, .string V] rfl rfl (cell_pair _ _ _ _) ?c2 ?c3 ?c4 ?c5 ?_)
               case c2 => first | exact ⟨rfl, rfl⟩ | (intro u hu; simp at hu; rcases hu with rfl | rfl <;> rfl)
               case c3 => unfold maxLen; omega
               case c4 => omega
               case c5 => first | omega | (simp; omega)
               intro v9 w9 hown9 hg9 _
               have RB : Below w.heap.size w w9 := (hbe5.alloc hs5w _).grown hg9 (by simp; omega) (fun j hj => (hown5.lt j hj).1)
               have R9 : w9.ownsRow w.heap.size 105 2 v9 (fs ++ [(SN, V)]).length (fv (fs ++ [(SN, V)])) := by rw [fv_snoc, List.length_append]; exact hown9
               clear hg9 hown9 hown5 hb5 hbe5 e0 e1
               obtain ⟨p9, c9, rfl, hl1, hl2, _, _, _, _⟩ := owned_fields R9
               have HO : Hid (w9.ownsRow w.heap.size 105 2 (.slice p9 (fs ++ [(SN, V)]).length c9) (fs ++ [(SN, V)]).length (fv (fs ++ [(SN, V)]))) := R9
               have e1' : (fs ++ [(SN, V)]).length = fs.length + 1 := by simp
               rw [e1'] at hl1 HO ⊢
               clear R9 e1'
               by_cases h21 : 20 < fs.length + 1
               ·have HN2 : Hid (paramsF s.data.toList = ([], [], 2)) := HY.out h21
                have h21' : (20 : Int) < (fs.length : Int) + 1 := by omega
                clear HX HY
                go_wp2_with fail
                refine (bad_any 2 _ rfl _).mono ?_
                rintro e w' ⟨rfl, hw'⟩
                have hw'' := hw'.symm
                subst hw''
                go_wp2
                go_ret3
                show ParamsPost _ _ _ _
                rw [HN2.out]
                exact paramsPost_none RB 2
               ·have HX' := HX.out h21
                have h21' : ¬ (20 : Int) < (fs.length : Int) + 1 := by omega
                have HXX : Hid (At L G (z) (restS R).2.1 (restS R).2.2.1 g' (fs ++ [(SN, V)])) := HX'
                clear HX HY HX'
                go_wp2
                go_roundw
                case rel => exact ⟨z, _, _, g', fs ++ [(SN, V)], by rfl, by omega, by simp; omega, by rw [show (fs ++ [(SN, V)]).length = fs.length + 1 from by simp]; exact HO.out, RB, HXX⟩
                case measure => simp [intOf]; omega
           ·have h34i : ((s[q].toNat : Int) == 34) = false := num_ne (d := 34) h34
            have hh34 : (r.dropWhile isSp).head? ≠ some 34 := by rw [← HQ2.out, hby]; simp [h34]
            clear hby hb HJ3 h34
            obtain ⟨sm1, sm2⟩ := semi_at (r.dropWhile isSp)
            obtain ⟨K3, hK3⟩ : ∃ K3, K3 = (cutP 59 (r.dropWhile isSp)).1.length := ⟨_, rfl⟩
            have HS : Hid (restS R = (dropEnd isSp (cutP 59 (r.dropWhile isSp)).1, (cutP 59 (r.dropWhile isSp)).2.1, (cutP 59 (r.dropWhile isSp)).2.2, tokenS (dropEnd isSp (cutP 59 (r.dropWhile isSp)).1))) := by
             unfold Hid; rw [restS, HRR.out, setS, if_neg hh34]
            have hK3s : q + K3 ≤ s.size ∧ L.drop (q + K3) = tailOf (cutP 59 (r.dropWhile isSp)).2.1 (cutP 59 (r.dropWhile isSp)).2.2 := by
             have h1 := HQ2.out.trans sm2
             rcases drop_app L q K3 _ _ h1 hK3 with ⟨a1, a2⟩ | h
             ·rw [HL.out, ← Lib.size_eq] at a2; exact ⟨a2, a1⟩
             ·rw [HL.out, ← Lib.size_eq] at h; omega
            obtain ⟨hK3a, hK3b⟩ := hK3s
            have HK3b : Hid (L.drop (q + K3) = tailOf (cutP 59 (r.dropWhile isSp)).2.1 (cutP 59 (r.dropWhile isSp)).2.2) := hK3b
            have CI3 : Hid (∀ w, Calls Tryz.prog 52 #[.string (s.extract q s.size ++ ⟨#[59]⟩), .string ⟨#[59]⟩] w fun e w' => e = .returned (.int .i64 (K3 : Int)) ∧ w' = w) := fun w => by
             have := rof_index_at 59 (s.extract q s.size ++ ⟨#[59]⟩) w
             rw [show (s.extract q s.size ++ ⟨#[59]⟩ : ByteArray).data.toList = r.dropWhile isSp ++ [59] from by rw [← HQ2.out, HL.out, ← ext_drop]; simp, whereB_some sm1] at this
             rw [hK3]; exact this
            have hx3 : s.extract q (q + K3) = ba (cutP 59 (r.dropWhile isSp)).1 := by
             apply ba_inj
             rw [ba_data, ext_part s q K3 (cutP 59 (r.dropWhile isSp)).1 _ (by rw [← HL.out]; exact HQ2.out.trans sm2) hK3]
            have hvl : (cutP 59 (r.dropWhile isSp)).1.length ≤ s.size := by omega
            have hdl := dropEnd_length isSp (cutP 59 (r.dropWhile isSp)).1
            have CTR : Hid (∀ w, Calls Tryz.prog 50 #[.string (ba (cutP 59 (r.dropWhile isSp)).1), .string ⟨#[32]⟩] w fun e w' => e = .returned (.string (ba (dropEnd isSp (cutP 59 (r.dropWhile isSp)).1))) ∧ w' = w) := fun w => trimRSp_any _ _ rfl w (by rw [ba_size]; omega)
            have KT := fun w => token_any (ba (dropEnd isSp (cutP 59 (r.dropWhile isSp)).1)) w (by rw [ba_size]; unfold maxLen; omega)
            rw [ba_data] at KT
            have hq3 : (q : Int) + (K3 : Int) ≤ (s.size : Int) := by omega
            have hexs : (s.extract q s.size).size ≤ 1000 := by rw [Lib.size_eq, ext_drop, List.length_drop, ← Lib.size_eq]; omega
            have HSZ : Hid (SN.size + (ba (dropEnd isSp (cutP 59 (r.dropWhile isSp)).1)).size ≤ 2000) := by unfold Hid; rw [ba_size]; omega
            have HVd : Hid ((restS R).1 = (ba (dropEnd isSp (cutP 59 (r.dropWhile isSp)).1)).data.toList ∧ (restS R).2.2.2 = tokenS (dropEnd isSp (cutP 59 (r.dropWhile isSp)).1) ∧ L.drop (q + K3) = tailOf (restS R).2.1 (restS R).2.2.1) := by
             unfold Hid; rw [HS.out]; exact ⟨rfl, rfl, HK3b.out⟩
            generalize dropEnd isSp (cutP 59 (r.dropWhile isSp)).1 = VL at *
            obtain ⟨V, hV⟩ : ∃ V, ba VL = V := ⟨_, rfl⟩
            rw [hV] at CTR KT HSZ HVd
            generalize ba (cutP 59 (r.dropWhile isSp)).1 = VX at *
            clear HS hK3 hK3b HK3b sm1 sm2 hvl hdl hh34
            go_wp2_with fail
            refine (CI3.out _).mono ?_
            rintro e w' ⟨rfl, hw'⟩
            have hw'' := hw'.symm
            subst hw''
            clear CI3
            go_wp2_with fail
            refine (CTR.out _).mono ?_
            rintro e w' ⟨rfl, hw'⟩
            have hw'' := hw'.symm
            subst hw''
            clear CTR
            have hb5 : Below wr.heap.size wr (w4.setCell ⟨gF, 1, none⟩ (.string V)) := hb4.setCell hgF _
            have e0 : (w4.setCell ⟨gF, 1, none⟩ (.string V)).cell? ⟨gF, 0, none⟩ = some (.string SN) := (World.cell?_setCell_other _ _ _ _ (by simp)).trans k0
            have e1 : (w4.setCell ⟨gF, 1, none⟩ (.string V)).cell? ⟨gF, 1, none⟩ = some (.string V) := World.cell?_setCell_same' _ _ _ (by rw [k1]; rfl)
            obtain ⟨w5, hw5⟩ : ∃ w5, w4.setCell ⟨gF, 1, none⟩ (.string V) = w5 := ⟨_, rfl⟩
            rw [hw5] at hb5 e0 e1
            cases htv : tokenS VL
            ·have CK : Hid (∀ w, Calls Tryz.prog 34 #[.string V] w fun e w' => e = .returned (.bool false) ∧ w' = w) := fun w => by rw [← htv]; exact KT w
             have HN1 : Hid (paramsF s.data.toList = ([], [], 1)) := HE1.out (by rw [paramOk, HVd.out.2.1, htv]; simp)
             clear KT htv HVd HSZ
             go_wp2_with fail
             refine (CK.out _).mono ?_
             rintro e w' ⟨rfl, hw'⟩
             have hw'' := hw'.symm
             subst hw''
             clear CK
             go_wp2_with fail
             refine (bad_any 1 _ rfl _).mono ?_
             rintro e w' ⟨rfl, hw'⟩
             have hw'' := hw'.symm
             subst hw''
             go_wp2
             go_ret3
             show ParamsPost _ _ _ _
             rw [HN1.out]
             exact paramsPost_none (hbel.trans (hb5.mono hsz)) 1
            ·have CK : Hid (∀ w, Calls Tryz.prog 34 #[.string V] w fun e w' => e = .returned (.bool true) ∧ w' = w) := fun w => by rw [← htv]; exact KT w
             have HOK : Hid (paramOk R = true) := by unfold Hid; rw [paramOk, HNO.out, HVd.out.2.1, htv]; rfl
             have HFL : Hid (paramFld R = fl (SN, V)) := by unfold Hid; rw [paramFld, HVd.out.1, fl, HSN.out]
             have HTL : Hid (L.drop (q + K3) = tailOf (restS R).2.1 (restS R).2.2.1) := HVd.out.2.2
             clear KT htv HVd
             go_wp2_with fail
             refine (CK.out _).mono ?_
             rintro e w' ⟨rfl, hw'⟩
             have hw'' := hw'.symm
             subst hw''
             clear CK hw5
             have hbe5 : Below w.heap.size w w5 := hbel.trans (hb5.mono hsz)
             have hown5 := ownsRow_below hown hb5
             have hs5 := hb5.size
             have hs5w := hbe5.size
             have HX : Hid (¬ 20 < fs.length + 1 → At L G (q + K3) (restS R).2.1 (restS R).2.2.1 g' (fs ++ [(SN, V)])) := fun h => ⟨HTL.out, by
               rw [← HA.out.go, paramsGo_next HOK.out (by rw [List.length_map]; exact h), HFL.out, List.map_append, List.map_singleton], by have := HA.out.fuel; have := (restS_length R HNO.out).2; omega, by
               intro f hf
               rcases List.mem_append.1 hf with h1 | h1
               ·exact HA.out.len f h1
               ·simp at h1; subst h1; exact HSZ.out⟩
             have HY : Hid (20 < fs.length + 1 → paramsF s.data.toList = ([], [], 2)) := fun h => by rw [HF.out, ← HA.out.go, paramsGo_many HOK.out (by rw [List.length_map]; exact h)]; rfl
             clear HTL HFL HOK HA hown
             go_wp2_with (at_builtin; refine wpList_append_own _ rfl (.tmp 182) (.tmp 184) 66 rfl w.heap.size 105 i0 (.agg #[.string ⟨#[]⟩, .string ⟨#[]⟩]) 2 32 Tryz.underlying66 hi hz0 hz1 hz2 rfl (by decide) _ _ _ rfl (hown5.alloc _) ⟨w5.heap.size, 0, none⟩ 1 1 [.string SN, .string V] rfl rfl (cell_pair _ _ _ _) ?c2 ?c3 ?c4 ?c5 ?_)
             case c2 => first | exact ⟨rfl, rfl⟩ | (intro u hu; simp at hu; rcases hu with rfl | rfl <;> rfl)
             case c3 => unfold maxLen; omega
             case c4 => omega
             case c5 => first | omega | (simp; omega)
             intro v9 w9 hown9 hg9 _
             have RB : Below w.heap.size w w9 := (hbe5.alloc hs5w _).grown hg9 (by simp; omega) (fun j hj => (hown5.lt j hj).1)
             have R9 : w9.ownsRow w.heap.size 105 2 v9 (fs ++ [(SN, V)]).length (fv (fs ++ [(SN, V)])) := by rw [fv_snoc, List.length_append]; exact hown9
             clear hg9 hown9 hown5 hb5 hbe5 e0 e1
             obtain ⟨p9, c9, rfl, hl1, hl2, _, _, _, _⟩ := owned_fields R9
             have HO : Hid (w9.ownsRow w.heap.size 105 2 (.slice p9 (fs ++ [(SN, V)]).length c9) (fs ++ [(SN, V)]).length (fv (fs ++ [(SN, V)]))) := R9
             have e1' : (fs ++ [(SN, V)]).length = fs.length + 1 := by simp
             rw [e1'] at hl1 HO ⊢
             clear R9 e1'
             by_cases h21 : 20 < fs.length + 1
             ·have HN2 : Hid (paramsF s.data.toList = ([], [], 2)) := HY.out h21
              have h21' : (20 : Int) < (fs.length : Int) + 1 := by omega
              clear HX HY
              go_wp2_with fail
              refine (bad_any 2 _ rfl _).mono ?_
              rintro e w' ⟨rfl, hw'⟩
              have hw'' := hw'.symm
              subst hw''
              go_wp2
              go_ret3
              show ParamsPost _ _ _ _
              rw [HN2.out]
              exact paramsPost_none RB 2
             ·have HX' := HX.out h21
              have h21' : ¬ (20 : Int) < (fs.length : Int) + 1 := by omega
              have HXX : Hid (At L G (q + K3) (restS R).2.1 (restS R).2.2.1 g' (fs ++ [(SN, V)])) := HX'
              clear HX HY HX'
              go_wp2
              go_roundw
              case rel => exact ⟨q + K3, _, _, g', fs ++ [(SN, V)], by go_num, by omega, by simp; omega, by rw [show (fs ++ [(SN, V)]).length = fs.length + 1 from by simp]; exact HO.out, RB, HXX⟩
              case measure => simp [intOf]; omega
         ·have hqsi : decide ((q : Int) < (s.size : Int)) = false := by simp; omega
          have HQ2 : Hid (L.drop q = r.dropWhile isSp) := by
           have e : L.drop q = [] := List.drop_of_length_le (by rw [HL.out, ← Lib.size_eq]; omega)
           unfold Hid; rw [← HJ3.out, e]; rfl
          have hh34 : (r.dropWhile isSp).head? ≠ some 34 := by
           rw [← HQ2.out, List.drop_of_length_le (by rw [HL.out, ← Lib.size_eq]; omega)]; simp
          clear HJ3
          obtain ⟨sm1, sm2⟩ := semi_at (r.dropWhile isSp)
          obtain ⟨K3, hK3⟩ : ∃ K3, K3 = (cutP 59 (r.dropWhile isSp)).1.length := ⟨_, rfl⟩
          have HS : Hid (restS R = (dropEnd isSp (cutP 59 (r.dropWhile isSp)).1, (cutP 59 (r.dropWhile isSp)).2.1, (cutP 59 (r.dropWhile isSp)).2.2, tokenS (dropEnd isSp (cutP 59 (r.dropWhile isSp)).1))) := by
           unfold Hid; rw [restS, HRR.out, setS, if_neg hh34]
          have hK3s : q + K3 ≤ s.size ∧ L.drop (q + K3) = tailOf (cutP 59 (r.dropWhile isSp)).2.1 (cutP 59 (r.dropWhile isSp)).2.2 := by
           have h1 := HQ2.out.trans sm2
           rcases drop_app L q K3 _ _ h1 hK3 with ⟨a1, a2⟩ | h
           ·rw [HL.out, ← Lib.size_eq] at a2; exact ⟨a2, a1⟩
           ·rw [HL.out, ← Lib.size_eq] at h; omega
          obtain ⟨hK3a, hK3b⟩ := hK3s
          have HK3b : Hid (L.drop (q + K3) = tailOf (cutP 59 (r.dropWhile isSp)).2.1 (cutP 59 (r.dropWhile isSp)).2.2) := hK3b
          have CI3 : Hid (∀ w, Calls Tryz.prog 52 #[.string (s.extract q s.size ++ ⟨#[59]⟩), .string ⟨#[59]⟩] w fun e w' => e = .returned (.int .i64 (K3 : Int)) ∧ w' = w) := fun w => by
           have := rof_index_at 59 (s.extract q s.size ++ ⟨#[59]⟩) w
           rw [show (s.extract q s.size ++ ⟨#[59]⟩ : ByteArray).data.toList = r.dropWhile isSp ++ [59] from by rw [← HQ2.out, HL.out, ← ext_drop]; simp, whereB_some sm1] at this
           rw [hK3]; exact this
          have hx3 : s.extract q (q + K3) = ba (cutP 59 (r.dropWhile isSp)).1 := by
           apply ba_inj
           rw [ba_data, ext_part s q K3 (cutP 59 (r.dropWhile isSp)).1 _ (by rw [← HL.out]; exact HQ2.out.trans sm2) hK3]
          have hvl : (cutP 59 (r.dropWhile isSp)).1.length ≤ s.size := by omega
          have hdl := dropEnd_length isSp (cutP 59 (r.dropWhile isSp)).1
          have CTR : Hid (∀ w, Calls Tryz.prog 50 #[.string (ba (cutP 59 (r.dropWhile isSp)).1), .string ⟨#[32]⟩] w fun e w' => e = .returned (.string (ba (dropEnd isSp (cutP 59 (r.dropWhile isSp)).1))) ∧ w' = w) := fun w => trimRSp_any _ _ rfl w (by rw [ba_size]; omega)
          have KT := fun w => token_any (ba (dropEnd isSp (cutP 59 (r.dropWhile isSp)).1)) w (by rw [ba_size]; unfold maxLen; omega)
          rw [ba_data] at KT
          have hq3 : (q : Int) + (K3 : Int) ≤ (s.size : Int) := by omega
          have hexs : (s.extract q s.size).size ≤ 1000 := by rw [Lib.size_eq, ext_drop, List.length_drop, ← Lib.size_eq]; omega
          have HSZ : Hid (SN.size + (ba (dropEnd isSp (cutP 59 (r.dropWhile isSp)).1)).size ≤ 2000) := by unfold Hid; rw [ba_size]; omega
          have HVd : Hid ((restS R).1 = (ba (dropEnd isSp (cutP 59 (r.dropWhile isSp)).1)).data.toList ∧ (restS R).2.2.2 = tokenS (dropEnd isSp (cutP 59 (r.dropWhile isSp)).1) ∧ L.drop (q + K3) = tailOf (restS R).2.1 (restS R).2.2.1) := by
           unfold Hid; rw [HS.out]; exact ⟨rfl, rfl, HK3b.out⟩
          generalize dropEnd isSp (cutP 59 (r.dropWhile isSp)).1 = VL at *
          obtain ⟨V, hV⟩ : ∃ V, ba VL = V := ⟨_, rfl⟩
          rw [hV] at CTR KT HSZ HVd
          generalize ba (cutP 59 (r.dropWhile isSp)).1 = VX at *
          clear HS hK3 hK3b HK3b sm1 sm2 hvl hdl hh34
          go_wp2_with fail
          refine (CI3.out _).mono ?_
          rintro e w' ⟨rfl, hw'⟩
          have hw'' := hw'.symm
          subst hw''
          clear CI3
          go_wp2_with fail
          refine (CTR.out _).mono ?_
          rintro e w' ⟨rfl, hw'⟩
          have hw'' := hw'.symm
          subst hw''
          clear CTR
          have hb5 : Below wr.heap.size wr (w4.setCell ⟨gF, 1, none⟩ (.string V)) := hb4.setCell hgF _
          have e0 : (w4.setCell ⟨gF, 1, none⟩ (.string V)).cell? ⟨gF, 0, none⟩ = some (.string SN) := (World.cell?_setCell_other _ _ _ _ (by simp)).trans k0
          have e1 : (w4.setCell ⟨gF, 1, none⟩ (.string V)).cell? ⟨gF, 1, none⟩ = some (.string V) := World.cell?_setCell_same' _ _ _ (by rw [k1]; rfl)
          obtain ⟨w5, hw5⟩ : ∃ w5, w4.setCell ⟨gF, 1, none⟩ (.string V) = w5 := ⟨_, rfl⟩
          rw [hw5] at hb5 e0 e1
          cases htv : tokenS VL
          ·have CK : Hid (∀ w, Calls Tryz.prog 34 #[.string V] w fun e w' => e = .returned (.bool false) ∧ w' = w) := fun w => by rw [← htv]; exact KT w
           have HN1 : Hid (paramsF s.data.toList = ([], [], 1)) := HE1.out (by rw [paramOk, HVd.out.2.1, htv]; simp)
           clear KT htv HVd HSZ
           go_wp2_with fail
           refine (CK.out _).mono ?_
           rintro e w' ⟨rfl, hw'⟩
           have hw'' := hw'.symm
           subst hw''
           clear CK
           go_wp2_with fail
           refine (bad_any 1 _ rfl _).mono ?_
           rintro e w' ⟨rfl, hw'⟩
           have hw'' := hw'.symm
           subst hw''
           go_wp2
           go_ret3
           show ParamsPost _ _ _ _
           rw [HN1.out]
           exact paramsPost_none (hbel.trans (hb5.mono hsz)) 1
          ·have CK : Hid (∀ w, Calls Tryz.prog 34 #[.string V] w fun e w' => e = .returned (.bool true) ∧ w' = w) := fun w => by rw [← htv]; exact KT w
           have HOK : Hid (paramOk R = true) := by unfold Hid; rw [paramOk, HNO.out, HVd.out.2.1, htv]; rfl
           have HFL : Hid (paramFld R = fl (SN, V)) := by unfold Hid; rw [paramFld, HVd.out.1, fl, HSN.out]
           have HTL : Hid (L.drop (q + K3) = tailOf (restS R).2.1 (restS R).2.2.1) := HVd.out.2.2
           clear KT htv HVd
           go_wp2_with fail
           refine (CK.out _).mono ?_
           rintro e w' ⟨rfl, hw'⟩
           have hw'' := hw'.symm
           subst hw''
           clear CK hw5
           have hbe5 : Below w.heap.size w w5 := hbel.trans (hb5.mono hsz)
           have hown5 := ownsRow_below hown hb5
           have hs5 := hb5.size
           have hs5w := hbe5.size
           have HX : Hid (¬ 20 < fs.length + 1 → At L G (q + K3) (restS R).2.1 (restS R).2.2.1 g' (fs ++ [(SN, V)])) := fun h => ⟨HTL.out, by
             rw [← HA.out.go, paramsGo_next HOK.out (by rw [List.length_map]; exact h), HFL.out, List.map_append, List.map_singleton], by have := HA.out.fuel; have := (restS_length R HNO.out).2; omega, by
             intro f hf
             rcases List.mem_append.1 hf with h1 | h1
             ·exact HA.out.len f h1
             ·simp at h1; subst h1; exact HSZ.out⟩
           have HY : Hid (20 < fs.length + 1 → paramsF s.data.toList = ([], [], 2)) := fun h => by rw [HF.out, ← HA.out.go, paramsGo_many HOK.out (by rw [List.length_map]; exact h)]; rfl
           clear HTL HFL HOK HA hown
           go_wp2_with (at_builtin; refine wpList_append_own _ rfl (.tmp 182) (.tmp 184) 66 rfl w.heap.size 105 i0 (.agg #[.string ⟨#[]⟩, .string ⟨#[]⟩]) 2 32 Tryz.underlying66 hi hz0 hz1 hz2 rfl (by decide) _ _ _ rfl (hown5.alloc _) ⟨w5.heap.size, 0, none⟩ 1 1 [.string SN, .string V] rfl rfl (cell_pair _ _ _ _) ?c2 ?c3 ?c4 ?c5 ?_)
           case c2 => first | exact ⟨rfl, rfl⟩ | (intro u hu; simp at hu; rcases hu with rfl | rfl <;> rfl)
           case c3 => unfold maxLen; omega
           case c4 => omega
           case c5 => first | omega | (simp; omega)
           intro v9 w9 hown9 hg9 _
           have RB : Below w.heap.size w w9 := (hbe5.alloc hs5w _).grown hg9 (by simp; omega) (fun j hj => (hown5.lt j hj).1)
           have R9 : w9.ownsRow w.heap.size 105 2 v9 (fs ++ [(SN, V)]).length (fv (fs ++ [(SN, V)])) := by rw [fv_snoc, List.length_append]; exact hown9
           clear hg9 hown9 hown5 hb5 hbe5 e0 e1
           obtain ⟨p9, c9, rfl, hl1, hl2, _, _, _, _⟩ := owned_fields R9
           have HO : Hid (w9.ownsRow w.heap.size 105 2 (.slice p9 (fs ++ [(SN, V)]).length c9) (fs ++ [(SN, V)]).length (fv (fs ++ [(SN, V)]))) := R9
           have e1' : (fs ++ [(SN, V)]).length = fs.length + 1 := by simp
           rw [e1'] at hl1 HO ⊢
           clear R9 e1'
           by_cases h21 : 20 < fs.length + 1
           ·have HN2 : Hid (paramsF s.data.toList = ([], [], 2)) := HY.out h21
            have h21' : (20 : Int) < (fs.length : Int) + 1 := by omega
            clear HX HY
            go_wp2_with fail
            refine (bad_any 2 _ rfl _).mono ?_
            rintro e w' ⟨rfl, hw'⟩
            have hw'' := hw'.symm
            subst hw''
            go_wp2
            go_ret3
            show ParamsPost _ _ _ _
            rw [HN2.out]
            exact paramsPost_none RB 2
           ·have HX' := HX.out h21
            have h21' : ¬ (20 : Int) < (fs.length : Int) + 1 := by omega
            have HXX : Hid (At L G (q + K3) (restS R).2.1 (restS R).2.2.1 g' (fs ++ [(SN, V)])) := HX'
            clear HX HY HX'
            go_wp2
            go_roundw
            case rel => exact ⟨q + K3, _, _, g', fs ++ [(SN, V)], by go_num, by omega, by simp; omega, by rw [show (fs ++ [(SN, V)]).length = fs.length + 1 from by simp]; exact HO.out, RB, HXX⟩
            case measure => simp [intOf]; omega
    ·have hjsi : decide ((j : Int) < (s.size : Int)) = false := by simp; omega
     have HQ : Hid (L.drop j = R.dropWhile isSp) := by
      have e : L.drop j = [] := List.drop_of_length_le (by rw [HL.out, ← Lib.size_eq]; omega)
      unfold Hid; rw [← HJ.out, e]; rfl
     have hcn : cutB 61 (R.dropWhile isSp) = none := by
      rw [← HQ.out, List.drop_of_length_le (by rw [HL.out, ← Lib.size_eq]; omega)]; rfl
     have HXd : Hid ((s.extract j s.size).data.toList = R.dropWhile isSp) := by unfold Hid; rw [ext_drop, ← HL.out]; exact HQ.out
     have CI2 : Hid (∀ w, Calls Tryz.prog 52 #[.string (s.extract j s.size), .string ⟨#[61]⟩] w fun e w' => e = .returned (.int .i64 (-1)) ∧ w' = w) := fun w => by
      have := rof_index_at 61 (s.extract j s.size) w
      rw [HXd.out, whereB_none hcn] at this
      exact this
     have HN1 : Hid (paramsF s.data.toList = ([], [], 1)) := HE1.out (by rw [paramOk, nameOk, name_none R hcn]; simp)
     have hj2i : (j : Int) ≤ (s.size : Int) := by omega
     clear hcn HXd hown HJ
     go_wp2_with fail
     refine (CI2.out _).mono ?_
     rintro e w' ⟨rfl, hw'⟩
     have hw'' := hw'.symm
     subst hw''
     clear CI2
     go_wp2_with fail
     refine (bad_any 1 _ rfl _).mono ?_
     rintro e w' ⟨rfl, hw'⟩
     have hw'' := hw'.symm
     subst hw''
     go_wp2
     go_ret3
     show ParamsPost _ _ _ _
     rw [HN1.out]
     exact paramsPost_none hbel 1
end Go.Proofs.YtlndhdimamnnlaaGreatDoor

