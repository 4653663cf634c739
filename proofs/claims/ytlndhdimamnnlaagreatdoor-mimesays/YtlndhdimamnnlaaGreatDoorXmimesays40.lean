
import Derived.Test.YtlndhdimamnnlaaGreatDoorXmimesays38
namespace Go.Proofs.YtlndhdimamnnlaaGreatDoor
open Go.RowKit
set_option maxHeartbeats 8000000 in
set_option maxRecDepth 100000 in
theorem mread_step (w0 : World) (hE : Env w0) (f : Nat) (IH : ReadC w0 f) : ReadC w0 (f + 1) := by
 intro p n c L d g k w en hd hb0 hg hC hn hc hcm hp hr hk
 subst en
 by_cases h12 : 12 < k + 1
 ·rw [readP, if_pos h12]
  exact mread_many p _ c d g k w hC hk (.inl h12) (f + 1) pt0
 have hc0 := hC.cell
 have hf0 := hC.frozen
 have hgw := hC.lt
 have h12' : ¬ (12 : Int) < (k : Int) + 1 := by omega
 have h3 : ¬ (3 : Int) < (d : Int) := by omega
 have P1 := in7_new w g ((k : Int) + 1)
 have HC1 : Hid (CountAt (w.setCell ⟨g, 0, none⟩ (.int .i64 ((k : Int) + 1))) g ((k : Int) + 1)) := hC.set _
 have hc1 := HC1.out.cell
 have ek : ((k + 1 : Nat) : Int) = (k : Int) + 1 := by omega
 obtain ⟨RES, hRES⟩ : ∃ R, readP (f + 1) L k = R := ⟨_, rfl⟩
 have HRES : Hid (readP (f + 1) L k = RES) := hRES
 rw [hRES]
 clear hRES
 have HE : Hid (Env w0) := hE
 have HIH : Hid (ReadC w0 f) := IH
 clear hE IH
 go_enter Tryz.func29, Tryz.ntmps29
 go_wp2_with fail
 obtain ⟨W1, hW1⟩ : ∃ W, W = (w.setCell ⟨g, 0, none⟩ (.int .i64 ((k : Int) + 1))).alloc (.cells Z7 25) := ⟨_, rfl⟩
 rw [← hW1] at P1
 rw [← hW1]
 clear hW1 HC1 hc1 hc0 hf0
 have hrw : ∀ W, In7 w g ((k : Int) + 1) W → BRow W p L := fun W h => h.1.bytes hC hr
 have hbw : ∀ W, In7 w g ((k : Int) + 1) W → Below w0.heap.size w0 W := fun W h => h.1.base hb0 hg
 have hcw : ∀ W, In7 w g ((k : Int) + 1) W → CountAt W g ((k + 1 : Nat) : Int) := fun W h => by rw [ek]; exact h.1.count hC
 have HRW : Hid (∀ W, In7 w g ((k : Int) + 1) W → BRow W p L) := hrw
 have HBW : Hid (∀ W, In7 w g ((k : Int) + 1) W → Below w0.heap.size w0 W) := hbw
 have HCW : Hid (∀ W, In7 w g ((k : Int) + 1) W → CountAt W g ((k + 1 : Nat) : Int)) := hcw
 have HHC : Hid (CountAt w g (k : Int)) := hC
 clear hrw hbw hcw hr hC hb0
 refine (hparse_any p _ c L rfl W1 hp (HRW.out _ P1)).mono ?_
 rintro e w2 ⟨hb2, pf, cf, fs, rfl, hfs, hfc, hfm, hfr, hfl⟩
 have P2 := P1.below hb2
 clear P1 hb2
 obtain ⟨FS, bd, e1, hpa⟩ : ∃ a b c, parseF L = (a, b, c) := ⟨_, _, _, rfl⟩
 have HPA : Hid (parseF L = (FS, bd, e1)) := hpa
 have HFS : Hid (fs.map fl = FS) := by rw [hpa] at hfs; exact hfs
 have HFR : Hid (FRow w2 pf fs) := hfr
 have HFL : Hid (FLen fs) := hfl
 rw [hpa]
 clear hpa hfs hfr hfl
 by_cases he1 : e1 = 0
 ·subst he1
  obtain ⟨hck, hbd, _⟩ := parseF_more L FS bd HPA.out
  have HCK : Hid (checkF FS = 0) := hck
  clear hck
  have CG : ∀ (nm : ByteArray) W, nm.size ≤ 1000 → In7 w g ((k : Int) + 1) W → FRow W pf fs → Calls Tryz.prog 65 #[.slice pf fs.length cf, .string nm] W fun e w' => e = .returned (.string (ba (getN nm.data.toList FS))) ∧ Below W.heap.size W w' := fun nm W hnm h hf => by
   have := get_any w0 HE.out nm hnm pf fs.length cf fs rfl W (HBW.out W h) (by omega) HFL.out hf
   rw [HFS.out] at this
   exact this
  have HGT : Hid (∀ W, In7 w g ((k : Int) + 1) W → FRow W pf fs → Calls Tryz.prog 65 #[.slice pf fs.length cf, .string ⟨#[67, 111, 110, 116, 101, 110, 116, 45, 84, 121, 112, 101]⟩] W fun e w' => e = .returned (.string (ba (getN nmType FS))) ∧ Below W.heap.size W w') := fun W h hf => CG ⟨#[67, 111, 110, 116, 101, 110, 116, 45, 84, 121, 112, 101]⟩ W (by decide) h hf
  have HGI : Hid (∀ W, In7 w g ((k : Int) + 1) W → FRow W pf fs → Calls Tryz.prog 65 #[.slice pf fs.length cf, .string ⟨#[67, 111, 110, 116, 101, 110, 116, 45, 73, 68]⟩] W fun e w' => e = .returned (.string (ba (getN nmID FS))) ∧ Below W.heap.size W w') := fun W h hf => CG ⟨#[67, 111, 110, 116, 101, 110, 116, 45, 73, 68]⟩ W (by decide) h hf
  have HGL : Hid (∀ W, In7 w g ((k : Int) + 1) W → FRow W pf fs → Calls Tryz.prog 65 #[.slice pf fs.length cf, .string ⟨#[67, 111, 110, 116, 101, 110, 116, 45, 76, 111, 99, 97, 116, 105, 111, 110]⟩] W fun e w' => e = .returned (.string (ba (getN nmLoc FS))) ∧ Below W.heap.size W w') := fun W h hf => CG ⟨#[67, 111, 110, 116, 101, 110, 116, 45, 76, 111, 99, 97, 116, 105, 111, 110]⟩ W (by decide) h hf
  have HGW : Hid (∀ W, In7 w g ((k : Int) + 1) W → FRow W pf fs → Calls Tryz.prog 65 #[.slice pf fs.length cf, .string ⟨#[67, 111, 110, 116, 101, 110, 116, 45, 84, 114, 97, 110, 115, 102, 101, 114, 45, 69, 110, 99, 111, 100, 105, 110, 103]⟩] W fun e w' => e = .returned (.string (ba (getN nmHow FS))) ∧ Below W.heap.size W w') := fun W h hf => CG ⟨#[67, 111, 110, 116, 101, 110, 116, 45, 84, 114, 97, 110, 115, 102, 101, 114, 45, 69, 110, 99, 111, 100, 105, 110, 103]⟩ W (by decide) h hf
  clear CG HFS HFL
  obtain ⟨KD, hKD⟩ : ∃ K, kindOf FS = K := ⟨_, rfl⟩
  have HKD : Hid (kindOf FS = KD) := hKD
  have HKL : Hid (KD.length ≤ 900) := by rw [← hKD]; exact kindOf_len HCK.out
  clear hKD
  go_wp2_with fail
  refine (HGT.out _ P2 HFR.out).mono ?_
  rintro e w3 ⟨rfl, hb3⟩
  have P3 := P2.below hb3
  have HFR3 : Hid (FRow w3 pf fs) := HFR.out.below hb3
  clear P2 hb3 HFR HGT
  go_upto_if 42 with fail
  go_cut [11] (fun s wx => s = .string (ba KD) ∧ wx = w3)
  case first =>
   by_cases hT : getN nmType FS = []
   ·have he : (ba (getN nmType FS)).toList.isEmpty = true := by rw [ba_isEmpty, hT]; rfl
    rw [he]
    go_wp2_with fail
    go_meet
    refine ⟨?_, rfl⟩
    rw [← HKD.out]
    unfold kindOf
    rw [if_pos hT]
    rfl
   ·have he : (ba (getN nmType FS)).toList.isEmpty = false := by
     rw [ba_isEmpty]
     cases hg : getN nmType FS with
     | nil => exact absurd hg hT
     | cons a l => rfl
    rw [he]
    go_wp2_with fail
    go_meet
    refine ⟨?_, rfl⟩
    rw [← HKD.out]
    unfold kindOf
    rw [if_neg hT]
  case rest =>
   obtain ⟨rfl, rfl⟩ := hcut
   go_wp2_with fail
   refine (hparams_any KD _ (by have := HKL.out; unfold maxLen; omega)).mono ?_
   rintro e w4 ⟨hb4, pp, cp, ps, rfl, hps, hpc, hpm, hpr, hpl⟩
   have P4 := P3.below hb4
   have HFR4 : Hid (FRow w4 pf fs) := HFR3.out.below hb4
   have HPR : Hid (FRow w4 pp ps) := hpr
   have HPL : Hid (FLen ps) := hpl
   clear P3 hb4 HFR3 hpr hpl
   obtain ⟨M, PS, e2, hpp⟩ : ∃ a b c, paramsF KD = (a, b, c) := ⟨_, _, _, rfl⟩
   have HPP : Hid (paramsF KD = (M, PS, e2)) := hpp
   have HPS : Hid (ps.map fl = PS) := by rw [hpp] at hps; exact hps
   have HML : Hid (M.length ≤ 900) := by
    have := paramsF_main KD
    rw [hpp] at this
    exact Nat.le_trans this HKL.out
   rw [hpp]
   clear hpp hps
   by_cases he2 : e2 = 0
   ·subst he2
    have CQ : ∀ (nm : ByteArray) W, nm.size ≤ 1000 → In7 w g ((k : Int) + 1) W → FRow W pp ps → Calls Tryz.prog 65 #[.slice pp ps.length cp, .string nm] W fun e w' => e = .returned (.string (ba (getN nm.data.toList PS))) ∧ Below W.heap.size W w' := fun nm W hnm h hf => by
     have := get_any w0 HE.out nm hnm pp ps.length cp ps rfl W (HBW.out W h) (by omega) HPL.out hf
     rw [HPS.out] at this
     exact this
    have HGB : Hid (∀ W, In7 w g ((k : Int) + 1) W → FRow W pp ps → Calls Tryz.prog 65 #[.slice pp ps.length cp, .string ⟨#[98, 111, 117, 110, 100, 97, 114, 121]⟩] W fun e w' => e = .returned (.string (ba (getN nmBound PS))) ∧ Below W.heap.size W w') := fun W h hf => CQ ⟨#[98, 111, 117, 110, 100, 97, 114, 121]⟩ W (by decide) h hf
    have HGC : Hid (∀ W, In7 w g ((k : Int) + 1) W → FRow W pp ps → Calls Tryz.prog 65 #[.slice pp ps.length cp, .string ⟨#[99, 104, 97, 114, 115, 101, 116]⟩] W fun e w' => e = .returned (.string (ba (getN nmChar PS))) ∧ Below W.heap.size W w') := fun W h hf => CQ ⟨#[99, 104, 97, 114, 115, 101, 116]⟩ W (by decide) h hf
    clear CQ
    go_wp2_with fail
    refine (HGI.out _ P4 HFR4.out).mono ?_
    rintro e w5 ⟨rfl, hb5⟩
    have P5 := P4.below hb5
    have HFR5 : Hid (FRow w5 pf fs) := HFR4.out.below hb5
    have HPR5 : Hid (FRow w5 pp ps) := HPR.out.below hb5
    clear P4 hb5 HFR4 HPR HGI
    go_wp2_with fail
    refine (mbare_any _ _ (by rw [ba_size]; have := getN_len HCK.out nmID; unfold maxLen; omega)).mono ?_
    rintro e w6 ⟨⟨ID, rfl, hID⟩, rfl⟩
    have HID : Hid (ID.data.toList = bareI (getN nmID FS)) := hID
    clear hID
    go_wp2_with fail
    refine (HGL.out _ P5 HFR5.out).mono ?_
    rintro e w7 ⟨rfl, hb7⟩
    have P7 := P5.below hb7
    have HFR7 : Hid (FRow w7 pf fs) := HFR5.out.below hb7
    have HPR7 : Hid (FRow w7 pp ps) := HPR5.out.below hb7
    clear P5 hb7 HFR5 HPR5 HGL
    obtain ⟨LO, hLO⟩ : ∃ x, ba (getN nmLoc FS) = x := ⟨_, rfl⟩
    have HLO : Hid (ba (getN nmLoc FS) = LO) := hLO
    rw [hLO]
    clear hLO
    obtain ⟨MB, hMB⟩ : ∃ x, ba M = x := ⟨_, rfl⟩
    have HMB : Hid (ba M = MB) := hMB
    rw [hMB]
    clear hMB
    go_wp2_with fail
    obtain ⟨W8, hW8⟩ : ∃ W, W = w7.alloc (.cells #[.string MB, .string ⟨#[]⟩, .string ID, .string LO, .int .i64 0, .slice none 0 0, .slice none 0 0] 25) := ⟨_, rfl⟩
    have B8 : Below w7.heap.size w7 W8 := by rw [hW8]; exact (Below.refl _ _).alloc (Nat.le_refl _) _
    have Q8 : W8.heap[w7.heap.size]? = some (.cells #[.string MB, .string ⟨#[]⟩, .string ID, .string LO, .int .i64 0, .slice none 0 0, .slice none 0 0] 25) := by rw [hW8]; exact m_new _ _
    rw [← hW8]
    have P8 := P7.below B8
    have HFR8 : Hid (FRow W8 pf fs) := HFR7.out.below B8
    have HPR8 : Hid (FRow W8 pp ps) := HPR7.out.below B8
    have hrq : w.heap.size < w7.heap.size := (Array.getElem?_eq_some_iff.1 P7.2).1
    have hgq : g < w7.heap.size := Nat.lt_trans hgw hrq
    have HF7 : ∀ W, Below w7.heap.size w7 W → FRow W pf fs := fun W hb => HFR7.out.below hb
    have hq8 := B8.size
    clear hW8 P7 HFR7 HPR7
    obtain ⟨q, hq⟩ : ∃ q, w7.heap.size = q := ⟨_, rfl⟩
    rw [hq] at Q8 hrq hgq HF7 B8 hq8
    have HF7' : Hid (∀ W, Below q w7 W → FRow W pf fs) := HF7
    have B8' : Hid (Below q w7 W8) := B8
    clear HF7 B8
    rw [hq]
    clear hq
    refine (pmany_any _ _).mono ?_
    rintro e w9 ⟨rfl, hw9⟩
    have hw9' := hw9.symm
    subst hw9'
    clear hw9
    obtain ⟨qS, dS, hsl, hs1, hs2, hs3, hs4⟩ := slice_end p L.length c bd L rfl hbd hc hcm hp
    have HS4 : Hid (∀ W, BRow W p L → BRow W qS (L.drop bd)) := hs4
    clear hs4
    have hmb : manyS MB.data.toList = manyS M := by rw [← HMB.out]; rfl
    rw [hmb]
    clear hmb
    have ed : ((d + 1 : Nat) : Int) = (d : Int) + 1 := by omega
    cases hm : manyS M with
    | true =>
     obtain ⟨e3, KS, k3, hpR⟩ : ∃ a b c, partsR f (L.drop bd) (getN nmBound PS) (k + 1) = (a, b, c) := ⟨_, _, _, rfl⟩
     have HPT : Hid (partsR f (L.drop bd) (getN nmBound PS) (k + 1) = (e3, KS, k3)) := hpR
     have CRP : Hid (∀ W, In7 w g ((k : Int) + 1) W → Calls Tryz.prog 68 #[.slice qS (L.length - bd) dS, .string (ba (getN nmBound PS)), .int .i64 ((d : Int) + 1), .pointer (some ⟨g, 0, none⟩)] W fun e w' => PartsPost f W g (e3, KS, k3) e w') := fun W h => by
      have := parts_any w0 f HIH.out qS (L.length - bd) dS (L.drop bd) (by rw [List.length_drop]) (ba (getN nmBound PS)) (d + 1) g (k + 1) (by omega) W (HBW.out W h) hg (HCW.out W h) (by omega) hs1 (HS4.out W (HRW.out W h)) (by omega)
      rw [ed, ba_data, hpR] at this
      exact this
     clear hpR
     have hd1 : (d : Int) + 1 ≤ 9223372036854775807 := by omega
     have hdw : IntKind.i64.wrap ((d : Int) + 1) = (d : Int) + 1 := wrap_small _ (by omega) (by omega)
     go_upto_region 15 with fail
     go_region_held3 (fun _ => True) (trivial) (first
      | (go_at_call 65; refine (HGB.out _ P8.drew (HPR8.out.below ((Below.refl _ _).drew))).mono ?_; rintro e w10 ⟨rfl, hb10⟩; have P10 := P8.drew.below hb10; have Q10 := m_kept (W := W8.drew) Q8 hb10; clear hb10)
      | (go_at_call 68; refine (CRP.out _ P10).mono ?_; rintro e w11 ⟨ht11, q11, c11, rfl, hl11, hm11, hn11, hk11⟩; have HK11 : Hid (KFar w11 (fun b => w10.heap.size ≤ b ∧ b < w11.heap.size) (f + 1) q11 KS) := hk11; have HT11 : Hid (Ticks w10 g (k3 : Int) w11) := ht11; have Q11 := (ht11.block q (Array.getElem?_eq_some_iff.1 Q10).1 (by omega)).trans Q10; have R11 := (ht11.block w.heap.size (Array.getElem?_eq_some_iff.1 P10.2).1 (by omega)).trans P10.2; obtain ⟨c0, c1, c2, c3, c4, c5, c6, cfz⟩ := m_cells Q11; clear hk11 ht11))
     have HL11 : Hid (KS.length ≤ c11 ∧ c11 ≤ maxLen ∧ (q11 = none → c11 = 0)) := ⟨hl11, hm11, hn11⟩
     clear hl11 hm11 hn11
     have T11 : Ticks w g (k3 : Int) w11 := P10.1.trans HT11.out HHC.out
     have hq10 : q < w10.heap.size := (Array.getElem?_eq_some_iff.1 Q10).1
     have h1011 : w10.heap.size ≤ w11.heap.size := HT11.out.size
     obtain ⟨W12, hW12⟩ : ∃ W, W = w11.setCell ⟨q, 6, none⟩ (.slice q11 KS.length c11) := ⟨_, rfl⟩
     have T12 : Ticks w g (k3 : Int) W12 := by rw [hW12]; exact T11.set7 q (by omega) 6 _
     have Q12 : W12.heap[q]? = some (.cells #[.string MB, .string ⟨#[]⟩, .string ID, .string LO, .int .i64 0, .slice none 0 0, .slice q11 KS.length c11] 25) := by rw [hW12]; exact m_set Q11 6 _
     have R12 : W12.heap[w.heap.size]? = some (.cells Z7 25) := by rw [hW12]; exact m_other R11 (by omega) 6 _
     have hs12 : W12.heap.size = w11.heap.size := by rw [hW12]; exact set_sz _ _ _
     have hmv : ∀ b, (w10.heap.size ≤ b ∧ b < w11.heap.size) → b < w11.heap.size → W12.heap[b]? = w11.heap[b]? := fun b hb _ => by
      have hbq : b ≠ q := by omega
      rw [hW12, Below.heap_setCell _ _ _ _ hbq]
     have K12 : KFar W12 (fun b => w10.heap.size ≤ b ∧ b < w11.heap.size) (f + 1) q11 KS := KFar.move hmv _ _ _ HK11.out
     have HK12 : Hid (KFar W12 (fun b => w10.heap.size ≤ b ∧ b < w11.heap.size) (f + 1) q11 KS) := K12
     rw [← hW12]
     clear hW12 hmv Q11 R11 c0 c1 c2 c3 c4 c5 c6 cfz T11 K12 HK11
     obtain ⟨c0, c1, c2, c3, c4, c5, c6, cfz⟩ := m_cells Q12
     obtain ⟨r0, r1, r2, r3, r4, r5, r6, rf⟩ := m_cells R12
     have hqr : ¬ q = w.heap.size := by omega
     go_wp2
     have hres := readP_many f L k bd FS PS KD M h12 HPA.out HKD.out HPP.out hm
     rw [HRES.out, HPT.out] at hres
     by_cases he3 : e3 = 0
     ·subst he3
      rw [if_neg (by simp)] at hres
      have hpt : ({ partOf M FS with kids := KS } : PT) = ⟨MB, ⟨#[]⟩, ID, LO, 0, [], KS⟩ := by
       unfold partOf
       rw [HMB.out, HLO.out, ← HID.out]
       rfl
      simp only at hres
      rw [hpt] at hres
      rw [hres]
      refine bodyPost_ret (v := .tuple #[.agg #[.string MB, .string ⟨#[]⟩, .string ID, .string LO, .int .i64 0, .slice none 0 0, .slice q11 KS.length c11], .int .i64 0]) ?_ rfl (rPost_ok (r := ⟨MB, ⟨#[]⟩, ID, LO, 0, [], KS⟩) (fill7_ticks T12 (Nat.le_refl _) _ _ _ _ _ _ _) none 0 q11 c11 ?_)
      ·rw [results_cell_tmp rfl]
       go_simp
      ·obtain ⟨g1, g2, g3⟩ := HL11.out
       have hml := HML.out
       have hil := bareI_len (getN nmID FS)
       have hil2 := getN_len HCK.out nmID
       have hll := getN_len HCK.out nmLoc
       have s1 : MB.size ≤ maxLen := by rw [← HMB.out, ba_size]; unfold maxLen; omega
       have s2 : ID.size ≤ maxLen := by rw [Lib.size_eq, HID.out]; unfold maxLen; omega
       have s3 : LO.size ≤ maxLen := by rw [← HLO.out, ba_size]; unfold maxLen; omega
       refine ⟨(fun a h => by cases h), ⟨s1, Nat.zero_le _, s2, s3, by show _ ≤ (0 : Int); decide, by show (0 : Int) ≤ _; decide, Nat.zero_le _, by show KS.length ≤ _; omega⟩, ⟨Nat.le_refl _, by decide, fun _ => rfl⟩, fun h => absurd rfl h, ⟨g1, g2, g3⟩, ?_⟩
       refine KFar.kind (fun b hb => ?_) _ _ _ (KFar.move (fun b hb _ => fill7_block _ _ _ _ _ _ _ _ _ b (by have hb' : w10.heap.size ≤ b ∧ b < w11.heap.size := hb; omega)) _ _ _ HK12.out)
       have hb' : w10.heap.size ≤ b ∧ b < w11.heap.size := hb
       rw [fill7_size, hs12]
       omega
     ·rw [if_pos (by simpa using he3)] at hres
      rw [hres]
      refine bodyPost_ret (v := .tuple #[.agg #[.string MB, .string ⟨#[]⟩, .string ID, .string LO, .int .i64 0, .slice none 0 0, .slice q11 KS.length c11], .int .i64 (e3 : Int)]) ?_ rfl (rPost_no (fill7_ticks T12 (Nat.le_refl _) _ _ _ _ _ _ _) he3 _ _ _ _ _ _ _ _ _ _ _)
      rw [results_cell_tmp rfl]
      go_simp
    | false =>
     obtain ⟨hw, BO, e3, hdc⟩ : ∃ a b c, decP (getN nmHow FS) (L.drop bd) = (a, b, c) := ⟨_, _, _, rfl⟩
     have HDC : Hid (decP (getN nmHow FS) (L.drop bd) = (hw, BO, e3)) := hdc
     have CDC : Hid (∀ W, In7 w g ((k : Int) + 1) W → Calls Tryz.prog 69 #[.string (ba (getN nmHow FS)), .slice qS (L.length - bd) dS] W fun e w' => DecPost W (hw, BO, e3) e w') := fun W h => by
      have hen := HE.out W (HBW.out W h)
      have := decoded_any (ba (getN nmHow FS)) qS (L.length - bd) dS (L.drop bd) (by rw [List.length_drop]) W (by rw [ba_size]; have := getN_len HCK.out nmHow; omega) (by omega) hs3 (HS4.out W (HRW.out W h)) hen.1 hen.2.1.2.2 hen.2.2
      rw [ba_data, hdc] at this
      exact this
     clear hdc
     go_wp2_with fail
     refine (HGC.out _ P8 HPR8.out).mono ?_
     rintro e w10 ⟨rfl, hb10⟩
     have P10 := P8.below hb10
     have Q10 := m_kept Q8 hb10
     have B10 : Below q w7 w10 := B8'.out.trans (hb10.mono hq8)
     obtain ⟨CS, hCS⟩ : ∃ x, ba (getN nmChar PS) = x := ⟨_, rfl⟩
     have HCS : Hid (ba (getN nmChar PS) = CS) := hCS
     rw [hCS]
     clear hCS hb10 P8 Q8 HPR8
     obtain ⟨c0, c1, c2, c3, c4, c5, c6, cfz⟩ := m_cells Q10
     go_upto_region 18 with fail
     obtain ⟨W11, hW11⟩ : ∃ W, W = w10.setCell ⟨q, 1, none⟩ (.string CS) := ⟨_, rfl⟩
     have P11 : In7 w g ((k : Int) + 1) W11 := by rw [hW11]; exact ⟨P10.1.set7 q (by omega) 1 _, m_other P10.2 (by omega) 1 _⟩
     have Q11 : W11.heap[q]? = some (.cells #[.string MB, .string CS, .string ID, .string LO, .int .i64 0, .slice none 0 0, .slice none 0 0] 25) := by rw [hW11]; exact m_set Q10 1 _
     have B11 : Below q w7 W11 := by rw [hW11]; exact B10.setCell (Nat.le_refl _) _
     have HFR11 : Hid (FRow W11 pf fs) := HF7'.out W11 B11
     rw [← hW11]
     clear hW11 P10 Q10 B10 B11 c0 c1 c2 c3 c4 c5 c6 cfz
     go_region_held3 (fun _ => True) (trivial) (first
      | (go_at_call 65; refine (HGW.out _ P11.drew (HFR11.out.below ((Below.refl _ _).drew))).mono ?_; rintro e w12 ⟨rfl, hb12⟩; have P12 := P11.drew.below hb12; have Q12 := m_kept (W := W11.drew) Q11 hb12; clear hb12)
      | (go_at_call 69; refine (CDC.out _ P12).mono ?_; rintro e w13 ⟨hb13, q13, c13, rfl, hl13, hm13, hr13, hf13⟩; have P13 := P12.below hb13; have Q13 := m_kept Q12 hb13; have HR13 : Hid (BRow w13 q13 BO) := hr13; have HF13 : Hid (FreshP w12 w13 q13 c13) := hf13; have HL13 : Hid (BO.length ≤ c13 ∧ c13 ≤ maxLen) := ⟨hl13, hm13⟩; have h1213 := hb13.size; obtain ⟨c0, c1, c2, c3, c4, c5, c6, cfz⟩ := m_cells Q13; clear hb13 hr13 hf13 hl13 hm13))
     have hq12 : q < w12.heap.size := (Array.getElem?_eq_some_iff.1 Q12).1
     obtain ⟨W14, hW14⟩ : ∃ W, W = (w13.setCell ⟨q, 4, none⟩ (.int .i64 (hw : Int))).setCell ⟨q, 5, none⟩ (.slice q13 BO.length c13) := ⟨_, rfl⟩
     have T14 : Ticks w g ((k : Int) + 1) W14 := by rw [hW14]; exact (P13.1.set7 q (by omega) 4 _).set7 q (by omega) 5 _
     have Q14 : W14.heap[q]? = some (.cells #[.string MB, .string CS, .string ID, .string LO, .int .i64 (hw : Int), .slice q13 BO.length c13, .slice none 0 0] 25) := by rw [hW14]; exact m_set (m_set Q13 4 _) 5 _
     have R14 : W14.heap[w.heap.size]? = some (.cells Z7 25) := by rw [hW14]; exact m_other (m_other P13.2 (by omega) 4 _) (by omega) 5 _
     have hs14 : W14.heap.size = w13.heap.size := by rw [hW14, set_sz, set_sz]
     have HB14 : Hid (∀ b, w12.heap.size ≤ b → W14.heap[b]? = w13.heap[b]?) := fun b hb => by
      have hbq : b ≠ q := by omega
      rw [hW14, Below.heap_setCell _ _ _ _ hbq, Below.heap_setCell _ _ _ _ hbq]
     rw [← hW14]
     clear hW14 Q13 P13 c0 c1 c2 c3 c4 c5 c6 cfz
     obtain ⟨c0, c1, c2, c3, c4, c5, c6, cfz⟩ := m_cells Q14
     obtain ⟨r0, r1, r2, r3, r4, r5, r6, rf⟩ := m_cells R14
     have hqr : ¬ q = w.heap.size := by omega
     go_wp2
     have hres := readP_one f L k bd FS PS KD M h12 HPA.out HKD.out HPP.out hm
     rw [HRES.out, HDC.out] at hres
     by_cases he3 : e3 = 0
     ·subst he3
      rw [if_neg (by simp)] at hres
      have hpt : ({ partOf M FS with cs := ba (getN nmChar PS), how := ((hw : Nat) : Int), body := BO } : PT) = ⟨MB, CS, ID, LO, (hw : Int), BO, []⟩ := by
       unfold partOf
       rw [HMB.out, HLO.out, HCS.out, ← HID.out]
       rfl
      simp only at hres
      rw [hpt] at hres
      rw [hres]
      refine bodyPost_ret (v := .tuple #[.agg #[.string MB, .string CS, .string ID, .string LO, .int .i64 (hw : Int), .slice q13 BO.length c13, .slice none 0 0], .int .i64 0]) ?_ rfl (rPost_ok (r := ⟨MB, CS, ID, LO, (hw : Int), BO, []⟩) (by rw [ek]; exact fill7_ticks T14 (Nat.le_refl _) _ _ _ _ _ _ _) q13 c13 none 0 ?_)
      ·rw [results_cell_tmp rfl]
       go_simp
      ·obtain ⟨g1, g2⟩ := HL13.out
       have hml := HML.out
       have hil := bareI_len (getN nmID FS)
       have hil2 := getN_len HCK.out nmID
       have hll := getN_len HCK.out nmLoc
       have hhw := decP_how (getN nmHow FS) (L.drop bd)
       rw [HDC.out] at hhw
       simp only at hhw
       have s1 : MB.size ≤ maxLen := by rw [← HMB.out, ba_size]; unfold maxLen; omega
       have s2 : ID.size ≤ maxLen := by rw [Lib.size_eq, HID.out]; unfold maxLen; omega
       have s3 : LO.size ≤ maxLen := by rw [← HLO.out, ba_size]; unfold maxLen; omega
       have s4 : CS.size ≤ maxLen := by rw [← HCS.out, ba_size, ← HPS.out]; exact getN_fl _ _ HPL.out
       have hin : InB (fun b => w12.heap.size ≤ b ∧ b < w13.heap.size) q13 := fun a ha => HF13.out.1 a ha
       have hrq12 : w.heap.size < w12.heap.size := by omega
       refine ⟨(fun a ha => ?_), ⟨s1, s4, s2, s3, by show _ ≤ (hw : Int); omega, by show (hw : Int) ≤ _; omega, by show BO.length ≤ _; omega, Nat.zero_le _⟩, ⟨g1, g2, HF13.out.2⟩, BRow.move (fun b hb _ => ?_) HR13.out hin, ⟨Nat.le_refl _, by decide, fun _ => rfl⟩, KFar.nil _ _ _ _⟩
       ·have h := HF13.out.1 a ha
        rw [fill7_size, hs14]
        omega
       ·have hb' : w12.heap.size ≤ b ∧ b < w13.heap.size := hb
        exact (fill7_block _ _ _ _ _ _ _ _ _ b (by omega)).trans (HB14.out b hb'.1)
     ·rw [if_pos (by simpa using he3)] at hres
      rw [hres]
      refine bodyPost_ret (v := .tuple #[.agg #[.string MB, .string CS, .string ID, .string LO, .int .i64 (hw : Int), .slice q13 BO.length c13, .slice none 0 0], .int .i64 (e3 : Int)]) ?_ rfl (rPost_no (by rw [ek]; exact fill7_ticks T14 (Nat.le_refl _) _ _ _ _ _ _ _) he3 _ _ _ _ _ _ _ _ _ _ _)
      rw [results_cell_tmp rfl]
      go_simp
   ·have hz1 : ¬ (e2 : Int) = 0 := by omega
    have hz2 : ((e2 : Int) == 0) = false := by rw [beq_eq_false_iff_ne]; exact hz1
    obtain ⟨r0, r1, r2, r3, r4, r5, r6, rf⟩ := m_cells P4.2
    go_wp2
    have hres : RES = (e2, pt0, k + 1) := by
     rw [← HRES.out, readP, if_neg h12, HPA.out, if_neg (by simp)]
     simp only
     rw [HKD.out, HPP.out, if_pos he2]
    rw [hres]
    refine bodyPost_ret (v := .tuple #[.agg Z7, .int .i64 (e2 : Int)]) ?_ rfl (rPost_no (by rw [ek]; exact (((((((P4.1.set7 _ (Nat.le_refl _) 0 _).set7 _ (Nat.le_refl _) 1 _).set7 _ (Nat.le_refl _) 2 _).set7 _ (Nat.le_refl _) 3 _).set7 _ (Nat.le_refl _) 4 _).set7 _ (Nat.le_refl _) 5 _).set7 _ (Nat.le_refl _) 6 _)) he2 _ _ _ _ _ _ _ _ _ _ _)
    rw [results_cell_tmp rfl]
    go_simp
 ·have hz1 : ¬ (e1 : Int) = 0 := by omega
  have hz2 : ((e1 : Int) == 0) = false := by rw [beq_eq_false_iff_ne]; exact hz1
  obtain ⟨r0, r1, r2, r3, r4, r5, r6, rf⟩ := m_cells P2.2
  go_wp2
  have hres : RES = (e1, pt0, k + 1) := by
   rw [← HRES.out, readP, if_neg h12, HPA.out, if_pos he1]
  rw [hres]
  refine bodyPost_ret (v := .tuple #[.agg Z7, .int .i64 (e1 : Int)]) ?_ rfl (rPost_no (by rw [ek]; exact (((((((P2.1.set7 _ (Nat.le_refl _) 0 _).set7 _ (Nat.le_refl _) 1 _).set7 _ (Nat.le_refl _) 2 _).set7 _ (Nat.le_refl _) 3 _).set7 _ (Nat.le_refl _) 4 _).set7 _ (Nat.le_refl _) 5 _).set7 _ (Nat.le_refl _) 6 _)) he1 _ _ _ _ _ _ _ _ _ _ _)
  rw [results_cell_tmp rfl]
  go_simp
theorem mread_any (w0 : World) (hE : Env w0) : ∀ f, ReadC w0 f
 | 0 => fun p n c _ d g k w _ hd _ _ hC _ _ _ _ _ hk => by
  rw [readP]
  exact mread_many p n c d g k w hC hk (.inr (by omega)) 0 pt0
 | f + 1 => mread_step w0 hE f (mread_any w0 hE f)
end Go.Proofs.YtlndhdimamnnlaaGreatDoor



namespace Go.Proofs.YtlndhdimamnnlaaGreatDoor
open Go.RowKit
def ReadMPost (w : World) (r : Nat × PT) (e : Ending) (w' : World) : Prop :=
 Below w.heap.size w w' ∧ (r.1 = 0 → ∃ pb cb pk ck, e = .returned (.tuple #[.agg #[.string r.2.ty, .string r.2.cs, .string r.2.id, .string r.2.loc, .int .i64 r.2.how, .slice pb r.2.body.length cb, .slice pk r.2.kids.length ck], .int .i64 0]) ∧ PFar w' (fun b => w.heap.size ≤ b ∧ b < w'.heap.size) 3 r.2 pb cb pk ck) ∧
 (r.1 ≠ 0 → e = .returned (.tuple #[.agg Z7, .int .i64 (r.1 : Int)]))
theorem readMPost_no {w w' : World} {n : Nat} {p : PT} (hb : Below w.heap.size w w') (hn : n ≠ 0) : ReadMPost w (n, p) (.returned (.tuple #[.agg Z7, .int .i64 (n : Int)])) w' := ⟨hb, fun h => absurd h hn, fun _ => rfl⟩
theorem fill7_below {w W : World} (h : Below w.heap.size w W) {r : Nat} (hr : w.heap.size ≤ r) (v0 v1 v2 v3 v4 v5 v6 : Value) : Below w.heap.size w (fill7 W r v0 v1 v2 v3 v4 v5 v6) :=
 ((((((h.setCell (p := ⟨r, 0, none⟩) hr v0).setCell (p := ⟨r, 1, none⟩) hr v1).setCell (p := ⟨r, 2, none⟩) hr v2).setCell (p := ⟨r, 3, none⟩) hr v3).setCell (p := ⟨r, 4, none⟩) hr v4).setCell (p := ⟨r, 5, none⟩) hr v5).setCell (p := ⟨r, 6, none⟩) hr v6
set_option maxHeartbeats 8000000 in
set_option maxRecDepth 100000 in
theorem mReadM_any (p : Option Addr) (n c : Nat) (L : List UInt8) (en : n = L.length) (w : World) (hE : Env w) (hc : n ≤ c) (hcm : c ≤ maxLen) (hp : p = none → n = 0 ∧ c = 0) (hr : BRow w p L) :
  Calls Tryz.prog 7 #[.slice p n c] w fun e w' => ReadMPost w (readM L) e w' := by
 subst en
 by_cases hn : 40000 < L.length
 ·have hn' : (40000 : Int) < (L.length : Int) := by omega
  rw [readM, if_pos hn]
  go_enter Tryz.func7, Tryz.ntmps7
  go_wp2
  refine bodyPost_ret (v := .tuple #[.agg Z7, .int .i64 2]) ?_ rfl (readMPost_no ((Below.refl _ _).alloc (Nat.le_refl _) _) (by decide))
  rw [results_cell_tmp rfl]
  go_simp
 have hn' : ¬ (40000 : Int) < (L.length : Int) := by omega
 obtain ⟨RES, hRES⟩ : ∃ R, readM L = R := ⟨_, rfl⟩
 have HRES : Hid (readM L = RES) := hRES
 rw [hRES]
 clear hRES
 have b1 : Below w.heap.size w ((w.alloc (.cells Z7 25)).alloc (.cells #[.int .i64 0] 3)) := ((Below.refl _ _).alloc (Nat.le_refl _) _).alloc (by simp) _
 have k1 : CountAt ((w.alloc (.cells Z7 25)).alloc (.cells #[.int .i64 0] 3)) (w.heap.size + 1) ((0 : Nat) : Int) := by
  have := m_new (w.alloc (.cells Z7 25)) (.cells #[.int .i64 0] 3)
  have e : (w.alloc (.cells Z7 25)).heap.size = w.heap.size + 1 := by simp
  rw [e] at this
  exact this
 have r1 : ((w.alloc (.cells Z7 25)).alloc (.cells #[.int .i64 0] 3)).heap[w.heap.size]? = some (.cells Z7 25) := m_kept (m_new w _) ((Below.refl _ _).alloc (Nat.le_refl _) _)
 have HE : Hid (Env w) := hE
 clear hE
 go_enter Tryz.func7, Tryz.ntmps7
 go_wp2_with fail
 obtain ⟨W1, hW1⟩ : ∃ W, W = (w.alloc (.cells Z7 25)).alloc (.cells #[.int .i64 0] 3) := ⟨_, rfl⟩
 rw [← hW1] at b1 k1 r1
 rw [← hW1]
 clear hW1
 obtain ⟨E1, Q1, K1, hrp⟩ : ∃ a b c, readP 3 L 0 = (a, b, c) := ⟨_, _, _, rfl⟩
 have HRP : Hid (readP 3 L 0 = (E1, Q1, K1)) := hrp
 have CR : Calls Tryz.prog 29 #[.slice p L.length c, .int .i64 1, .pointer (some ⟨w.heap.size + 1, 0, none⟩)] W1 fun e w' => RPost 3 W1 (w.heap.size + 1) (E1, Q1, K1) e w' := by
  have := mread_any w HE.out 3 p L.length c L 1 (w.heap.size + 1) 0 W1 rfl rfl b1 (by omega) k1 (by omega) hc hcm hp (hr.below b1) (by decide)
  rw [hrp] at this
  exact this
 clear hrp
 refine CR.mono ?_
 rintro e w2 ⟨ht2, hok, hno⟩
 have b2 : Below w.heap.size w w2 := ht2.base b1 (by omega)
 have r2 := (ht2.block w.heap.size (Array.getElem?_eq_some_iff.1 r1).1 (by omega)).trans r1
 have hs2 : W1.heap.size ≤ w2.heap.size := ht2.size
 have hs1 : w.heap.size < W1.heap.size := (Array.getElem?_eq_some_iff.1 r1).1
 clear ht2 b1 k1 r1 CR hr
 by_cases h1 : E1 = 0
 ·subst h1
  obtain ⟨pb, cb, pk, ck, rfl, hfar⟩ := hok rfl
  have HF : Hid (PFar w2 (fun b => W1.heap.size ≤ b ∧ b < w2.heap.size) 3 Q1 pb cb pk ck) := hfar
  clear hok hno hfar
  obtain ⟨ty, cs, id, loc, how, body, kids⟩ := Q1
  simp only
  go_wp2_with fail
  obtain ⟨W3, hW3⟩ : ∃ W, W = w2.alloc (.cells #[.string ty, .string cs, .string id, .string loc, .int .i64 how, .slice pb body.length cb, .slice pk kids.length ck] 25) := ⟨_, rfl⟩
  have g3 : Below w2.heap.size w2 W3 := by rw [hW3]; exact (Below.refl _ _).alloc (Nat.le_refl _) _
  have q3 : W3.heap[w2.heap.size]? = some (.cells #[.string ty, .string cs, .string id, .string loc, .int .i64 how, .slice pb body.length cb, .slice pk kids.length ck] 25) := by rw [hW3]; exact m_new _ _
  rw [← hW3]
  clear hW3
  have HF3 : Hid (PFar W3 (fun b => W1.heap.size ≤ b ∧ b < w2.heap.size) 3 ⟨ty, cs, id, loc, how, body, kids⟩ pb cb pk ck) := HF.out.below g3
  have b3 : Below w.heap.size w W3 := b2.trans (g3.mono b2.size)
  have r3 := m_kept r2 g3
  clear HF
  refine (pcheck_any ⟨ty, cs, id, loc, how, body, kids⟩ pb cb pk ck 3 W3 HF3.out.held).mono ?_
  rintro e w4 ⟨rfl, hb4⟩
  have HF4 : Hid (PFar w4 (fun b => W1.heap.size ≤ b ∧ b < w2.heap.size) 3 ⟨ty, cs, id, loc, how, body, kids⟩ pb cb pk ck) := HF3.out.below hb4
  have b4 : Below w.heap.size w w4 := b3.trans (hb4.mono b3.size)
  have r4 := m_kept r3 hb4
  have q4 := m_kept q3 hb4
  have hs4 : w2.heap.size < w4.heap.size := (Array.getElem?_eq_some_iff.1 q4).1
  have hrq : w.heap.size < w2.heap.size := by omega
  clear hb4 HF3 b3 r3 q3 g3 r2 b2
  obtain ⟨q, hq⟩ : ∃ q, w2.heap.size = q := ⟨_, rfl⟩
  rw [hq] at HF4 q4 hs4 hrq hs2
  rw [hq]
  clear hq
  obtain ⟨E2, hE2⟩ : ∃ x, (placesP ⟨ty, cs, id, loc, how, body, kids⟩).1 = x := ⟨_, rfl⟩
  have HE2 : Hid ((placesP ⟨ty, cs, id, loc, how, body, kids⟩).1 = E2) := hE2
  rw [hE2]
  clear hE2
  obtain ⟨r0, r1, r2, r3, r4', r5, r6, rf⟩ := m_cells r4
  obtain ⟨c0, c1, c2, c3, c4, c5, c6, cfz⟩ := m_cells q4
  have hqr : ¬ q = w.heap.size := by omega
  by_cases h2 : E2 = 0
  ·subst h2
   go_wp2
   have hres : RES = (0, ⟨ty, cs, id, loc, how, body, kids⟩) := by
    rw [← HRES.out, readM, if_neg hn, HRP.out, if_neg (by simp)]
    simp only
    rw [HE2.out, if_neg (by simp)]
   rw [hres]
   refine bodyPost_ret (v := .tuple #[.agg #[.string ty, .string cs, .string id, .string loc, .int .i64 how, .slice pb body.length cb, .slice pk kids.length ck], .int .i64 0]) ?_ rfl ⟨fill7_below b4 (Nat.le_refl _) _ _ _ _ _ _ _, fun _ => ⟨pb, cb, pk, ck, rfl, ?_⟩, fun h => absurd rfl h⟩
   ·rw [results_cell_tmp rfl]
    go_simp
   ·refine PFar.kind (fun b hb => ?_) (PFar.move (fun b hb _ => fill7_block _ _ _ _ _ _ _ _ _ b ?_) HF4.out)
    ·have hb' : W1.heap.size ≤ b ∧ b < q := hb
     rw [fill7_size]
     omega
    ·have hb' : W1.heap.size ≤ b ∧ b < q := hb
     omega
  ·have hz1 : ¬ (E2 : Int) = 0 := by omega
   have hz2 : ((E2 : Int) == 0) = false := by rw [beq_eq_false_iff_ne]; exact hz1
   go_wp2
   have hres : RES = (E2, pt0) := by
    rw [← HRES.out, readM, if_neg hn, HRP.out, if_neg (by simp)]
    simp only
    rw [HE2.out, if_pos h2]
   rw [hres]
   refine bodyPost_ret (v := .tuple #[.agg Z7, .int .i64 (E2 : Int)]) ?_ rfl (readMPost_no (fill7_below b4 (Nat.le_refl _) _ _ _ _ _ _ _) h2)
   rw [results_cell_tmp rfl]
   go_simp
 ·obtain ⟨s0, s1, s2, s3, hw, a1, n1, c1, a2, n2, c2, rfl⟩ := hno h1
  have hz1 : ¬ (E1 : Int) = 0 := by omega
  have hz2 : ((E1 : Int) == 0) = false := by rw [beq_eq_false_iff_ne]; exact hz1
  clear hok hno
  simp only
  obtain ⟨r0, r1, r2', r3, r4', r5, r6, rf⟩ := m_cells r2
  have hlt : w.heap.size < w2.heap.size := by omega
  have hne : ¬ w.heap.size = w2.heap.size := by omega
  go_wp2
  have hres : RES = (E1, pt0) := by
   rw [← HRES.out, readM, if_neg hn, HRP.out, if_pos h1]
  rw [hres]
  refine bodyPost_ret (v := .tuple #[.agg Z7, .int .i64 (E1 : Int)]) ?_ rfl (readMPost_no ((fill7_below b2 (Nat.le_refl _) _ _ _ _ _ _ _).alloc (by rw [fill7_size]; exact b2.size) _) h1)
  rw [results_cell_tmp rfl]
  go_simp
end Go.Proofs.YtlndhdimamnnlaaGreatDoor

