/- The walk of the law BundleWhere: it answers true, and nothing that was there is changed. Conditions: the part lies there; the tables lie there. -/
import Derived.Test.YtekppfglaafpoaaGreatDoorXbundlewhere40
import Derived.Test.YtekppfglaafpoaaGreatDoorXbundlewhere41
import Derived.Deep.DeepCutAuto
namespace Go.Proofs.YtekppfglaafpoaaGreatDoor
open Go.RowKit

abbrev pvb (p : PT) (pb : Option Addr) (cb : Nat) (pk : Option Addr) (ck : Nat) : Array Value := #[.string p.ty, .string p.cs, .string p.id, .string p.loc, .int .i64 p.how, .slice pb p.body.length cb, .slice pk p.kids.length ck]
theorem cells_7 {W : World} {k : Nat} {t : TypeId} {v0 v1 v2 v3 v4 v5 v6 : Value} (h : W.heap[k]? = some (.cells #[v0, v1, v2, v3, v4, v5, v6] t)) :
    W.cell? ⟨k, 0, none⟩ = some v0 ∧ W.cell? ⟨k, 1, none⟩ = some v1 ∧ W.cell? ⟨k, 2, none⟩ = some v2 ∧ W.cell? ⟨k, 3, none⟩ = some v3 ∧ W.cell? ⟨k, 4, none⟩ = some v4 ∧ W.cell? ⟨k, 5, none⟩ = some v5 ∧ W.cell? ⟨k, 6, none⟩ = some v6 :=
  ⟨(blk_c h 0).trans rfl, (blk_c h 1).trans rfl, (blk_c h 2).trans rfl, (blk_c h 3).trans rfl, (blk_c h 4).trans rfl, (blk_c h 5).trans rfl, (blk_c h 6).trans rfl⟩
set_option maxHeartbeats 8000000 in
set_option maxRecDepth 100000 in
/-- BundleWhere. -/
theorem wherelaw_any (p : PT) (pb : Option Addr) (cb : Nat) (pk : Option Addr) (ck F : Nat) (w : World) (hE : LEnv w) (hH : PHeld w F p pb cb pk ck) :
    Calls Tryz.prog 6 #[.agg (pvb p pb cb pk ck)] w fun e w' => e = .returned (.bool true) ∧ Below w.heap.size w w' := by
  have HE : Hid (LEnv w) := hE
  have CW : Hid (∀ W, Below w.heap.size w W → Calls Tryz.prog 7 #[.agg (pvb p pb cb pk ck)] W fun e w' => WherePost W (placesP p) e w') := fun W hb => bwhere_any p pb cb pk ck F W (hE.max hb) (hH.below hb)
  have CA : Hid (∀ W, Below w.heap.size w W → Calls Tryz.prog 17 #[.agg (pvb p pb cb pk ck)] W fun e w' => AllPost W (placesP p) e w') := fun W hb => all_any p pb cb pk ck F W (hH.below hb)
  have CI : Hid (∀ W, Below w.heap.size w W → Calls Tryz.prog 26 #[.agg (pvb p pb cb pk ck)] W fun e w' => WithinPost W (placesP p) e w') := fun W hb => within_any p pb cb pk ck F W (hH.below hb)
  have h12 := placesP_few p
  have HIL : Hid ((placesP p).1 = 0 → ∀ k, k < (placesP p).2.length → ((placesP p).2.getD k (pt0, 0)).2 < k) := fun h k hk => in_lt p h k hk
  have HCK : Hid (∀ x ∈ (placesP p).2, chkA x.1 = 0) := placesP_each p
  generalize placesP p = R at *
  clear hE hH
  obtain ⟨W1, hW1⟩ : ∃ W, W = w.alloc (.cells (pvb p pb cb pk ck) 25) := ⟨_, rfl⟩
  have hb1 : Below w.heap.size w W1 := by rw [hW1]; exact (Below.refl _ _).alloc (Nat.le_refl _) _
  have hk1 : W1.heap[w.heap.size]? = some (.cells (pvb p pb cb pk ck) 25) := by rw [hW1]; exact blk_new _ _
  go_enter Tryz.func6, Tryz.ntmps6
  go_wp2_with fail
  rw [← hW1]
  clear hW1
  refine (CW.out _ hb1).mono ?_
  rintro e w2 ⟨hb2, hno, hok⟩
  have hbe2 : Below w.heap.size w w2 := hb1.trans (hb2.mono hb1.size)
  have hk2 := blk_on hk1 hb2
  clear CW hb1 hk1 hb2
  by_cases h0 : R.1 = 0
  · obtain ⟨v2, rfl, own2⟩ := hok h0
    obtain ⟨qw, cw, rfl, hcw1, hcw2, hT2⟩ := owned_t8 rfl own2
    clear hno hok own2
    rw [whereP_length] at hT2 hcw1 ⊢
    obtain ⟨n, hn⟩ : ∃ n, R.2.length = n := ⟨_, rfl⟩
    have HN : Hid (R.2.length = n) := hn
    rw [hn] at hT2 h12 hcw1 ⊢
    go_wp2_with fail
    refine (ledc_any _ (HE.out.below hbe2)).mono ?_
    rintro e w3 ⟨rfl, hb3⟩
    have hbe3 : Below w.heap.size w w3 := hbe2.trans (hb3.mono hbe2.size)
    have hk3 := blk_on hk2 hb3
    have HT3 : Hid (T8 w3 qw n (whereP R.2)) := hT2.below hb3
    clear hb3 hbe2 hk2 hT2
    obtain ⟨d0, d1, d2, d3, d4, d5, d6⟩ := cells_7 hk3
    go_wp2_with fail
    refine (CA.out _ hbe3).mono ?_
    rintro e w4 ⟨hb4, -, hok⟩
    obtain ⟨qa, ca, rfl, ha1, ha2, ha3, hkt⟩ := hok h0
    have hbe4 : Below w.heap.size w w4 := hbe3.trans (hb4.mono hbe3.size)
    have hk4 := blk_on hk3 hb4
    have HT4 : Hid (T8 w4 qw n (whereP R.2)) := HT3.out.below hb4
    have HK4 : Hid (KAt w4 1 qa (R.2.map fun x => x.1.alone)) := hkt
    clear hok hkt hb4 hbe3 hk3 HT3 CA d0 d1 d2 d3 d4 d5 d6
    obtain ⟨d0, d1, d2, d3, d4, d5, d6⟩ := cells_7 hk4
    go_wp2_with fail
    refine (CI.out _ hbe4).mono ?_
    rintro e w5 ⟨hb5, -, hok⟩
    obtain ⟨qi, ci, rfl, hi1, hi2, hi3, hir⟩ := hok h0
    have hbe5 : Below w.heap.size w w5 := hbe4.trans (hb5.mono hbe4.size)
    have HT5 : Hid (T8 w5 qw n (whereP R.2)) := HT4.out.below hb5
    have HK5 : Hid (KAt w5 1 qa (R.2.map fun x => x.1.alone)) := KAt.below hb5 _ _ _ HK4.out
    have HI5 : Hid (IRow w5 qi (R.2.map (·.2))) := hir
    have HIN : Hid (∀ k, k < n → (R.2.getD k (pt0, 0)).2 < k) := fun k hk => HIL.out h0 k (by rw [hn]; exact hk)
    rw [hn] at ha1 hi1 ⊢
    clear hok hir hb5 hbe4 hk4 HT4 HK4 CI d0 d1 d2 d3 d4 d5 d6 HIL hn h0
    go_wp2_with fail
    go_loopw [50] (fun iv wr => ∃ k : Nat, k ≤ n ∧ iv = .int .i64 k ∧ Below w5.heap.size w5 wr) (fun iv _ => n - (intOf iv).toNat)
    case atStart => exact ⟨0, Nat.zero_le _, rfl, Below.refl _ _⟩
    case round =>
      obtain ⟨k, hk, rfl, hbr⟩ := hrel
      by_cases hlt : k < n
      · have hlz : (k : Int) < (n : Int) := by omega
        have hkl : k < R.2.length := by rw [HN.out]; exact hlt
        obtain ⟨bw, ow, rfl, hcw⟩ := (HT5.out.below hbr).2 (by omega)
        have hs := hcw k hlt
        obtain ⟨bi, oi, rfl, hci⟩ := (HI5.out.below hbr) (fun e => by have h := congrArg List.length e; rw [List.length_map, List.length_nil] at h; omega)
        have hin := hci k (by rw [List.length_map]; exact hkl)
        rw [in_get R.2 k hkl] at hin
        obtain ⟨b, o, rfl, hparts⟩ := KAt.each (KAt.below hbr _ _ _ HK5.out) (fun e => by have h := congrArg List.length e; rw [List.length_map, List.length_nil] at h; omega)
        obtain ⟨xb, xcb, xk, xck, ⟨-, -, -, c3, -⟩, -⟩ := hparts k (by rw [List.length_map]; exact hkl)
        rw [alone_get R.2 k hkl] at c3
        have e0 : (R.2.getD k (pt0, 0)).1.alone.loc = (R.2.getD k (pt0, 0)).1.loc := rfl
        rw [e0] at c3
        have hbl : b < wr.heap.size := World.block_lt_of_cell? wr _ c3
        have hinlt : (R.2.getD k (pt0, 0)).2 < k := HIN.out k hlt
        have HWA : Hid (_ = _) := where_at R.2 k hkl hinlt
        have hloc : (R.2.getD k (pt0, 0)).1.loc.size ≤ 120 := by
          have h := HCK.out _ (show R.2.getD k (pt0, 0) ∈ R.2 by rw [List.getD_eq_getElem?_getD, List.getElem?_eq_getElem hkl]; exact List.getElem_mem hkl)
          rw [Lib.size_eq]; exact chkA_loc h
        have hsl : ((whereP R.2).getD k []).length ≤ 120 := wh_short (whereP_each R.2) k
        have HSA : Hid (∀ m : Nat, ((whereP R.2).getD m []).length ≤ 120) := fun m => wh_short (whereP_each R.2) m
        have HCW : Hid (∀ m, m < n → wr.cell? ⟨bw, ow + m, none⟩ = some (.string (tx8 ((whereP R.2).getD m [])))) := hcw
        clear hparts hci hcw e0 hkl
        generalize (R.2.getD k (pt0, 0)).2 = inn at *
        generalize (R.2.getD k (pt0, 0)).1.loc = LO at *
        generalize whereP R.2 = wh at *
        obtain ⟨S, hS⟩ : ∃ S, wh.getD k [] = S := ⟨_, rfl⟩
        rw [hS] at hs hsl HWA
        have HWB : Hid (S = if LO.data.toList = [] then fromW wh inn else ledU (fromW wh inn) LO.data.toList) := HWA.out
        clear HWA hS
        have hsz := hbr.size
        have hbe5r : Below w.heap.size w wr := hbe5.trans (hbr.mono hbe5.size)
        by_cases hneg : inn < 0
        · obtain ⟨AH, hAH⟩ : ∃ A, fromW wh inn = A := ⟨_, rfl⟩
          have HAH : Hid (fromW wh inn = AH) := hAH
          have hAHn : AH = nowS := by rw [← hAH]; unfold fromW; rw [if_pos hneg]
          have hAD : Hid ((ByteArray.mk #[116, 104, 105, 115, 109, 101, 115, 115, 97, 103, 101, 58, 47]).data.toList = AH) := by unfold Hid; rw [hAHn]; rfl
          have hAS : (ByteArray.mk #[116, 104, 105, 115, 109, 101, 115, 115, 97, 103, 101, 58, 47]).size ≤ maxLen := by decide
          clear hAH
          have hnz : ¬ (0 : Int) ≤ inn := by omega
          by_cases hl : LO.data.toList = []
          · have hE : LO.toList.isEmpty = true := by rw [ByteArray.toList_eq, hl]; rfl
            have hSA : S = AH := by rw [HWB.out, if_pos hl, HAH.out]
            have hEq : ((tx8 S).toList == [116, 104, 105, 115, 109, 101, 115, 115, 97, 103, 101, 58, 47]) = true := by rw [hSA, hAHn]; kernel_rfl
            clear hSA
            clear HWB hl HAH HSA HCW
            go_wp2_with fail
            go_roundw
            case rel => exact ⟨k + 1, by omega, by go_num, hbr⟩
            case measure => simp [intOf]; omega
          · have hE : LO.toList.isEmpty = false := by rw [ByteArray.toList_eq]; simpa using hl
            have hSA : S = ledU AH LO.data.toList := by rw [HWB.out, if_neg hl, HAH.out]
            have CP : Hid (∀ W, Calls Tryz.prog 21 #[.string (tx8 S)] W fun e w' => UPost W (parseU S) e w') := fun W => uparse_any (tx8 S) (by rw [tx8_size]; unfold maxLen; omega) W
            have CL : Hid (∀ W, Below w.heap.size w W → Calls Tryz.prog 11 #[.string ⟨#[116, 104, 105, 115, 109, 101, 115, 115, 97, 103, 101, 58, 47]⟩, .string LO] W fun e w' => e = .returned (.string (tx8 S)) ∧ Below W.heap.size W w') := fun W hW => by
              have h := bled_any ⟨#[116, 104, 105, 115, 109, 101, 115, 115, 97, 103, 101, 58, 47]⟩ LO hAS (by unfold maxLen; omega) W (HE.out.max hW)
              rw [hAD.out, ← hSA] at h
              exact h
            have CL2 : Hid (S ≠ [] → (parseU S).2 = 0 ∧ (parseU S).1.sch ≠ [] ∧ ∀ W, Below w.heap.size w W → Calls Tryz.prog 11 #[.string ⟨#[97, 58, 98]⟩, .string (tx8 S)] W fun e w' => e = .returned (.string (tx8 S)) ∧ Below W.heap.size W w') := fun hne => by
              rw [hSA] at hne
              obtain ⟨k1, k2, k3⟩ := led_abs AH LO.data.toList hne
              rw [← hSA] at k1 k2 k3
              refine ⟨k1, k2, fun W hW => ?_⟩
              have h := bled_any ⟨#[97, 58, 98]⟩ (tx8 S) (by decide) (by rw [tx8_size]; unfold maxLen; omega) W (HE.out.max hW)
              rw [show (ByteArray.mk #[97, 58, 98]).data.toList = abL from rfl, tx8_data, k3] at h
              exact h
            clear HWB hl HAH HSA HCW hSA hAD hAS
            have hes := tx8_empty S
            obtain ⟨us, uhh, uh, up, uhq, uq, uhf, uf, eU, hU⟩ : ∃ us uhh uh up uhq uq uhf uf eU, (parseU S).2 = eU ∧ (ofL (parseU S).1).v = .agg #[.string us, .bool uhh, .string uh, .string up, .bool uhq, .string uq, .bool uhf, .string uf] ∧ us.data.toList = (parseU S).1.sch := ⟨_, _, _, _, _, _, _, _, _, rfl, rfl, rfl⟩
            obtain ⟨hU1, hU2, hU3⟩ := hU
            have CP' : Hid (∀ W, Calls Tryz.prog 21 #[.string (tx8 S)] W fun e w' => e = .returned (.tuple #[.agg #[.string us, .bool uhh, .string uh, .string up, .bool uhq, .string uq, .bool uhf, .string uf], .int .i64 (eU : Int)]) ∧ Below W.heap.size W w') := fun W => (CP.out W).mono (by rintro e w' ⟨rfl, hb⟩; exact ⟨by rw [hU1, hU2], hb⟩)
            rw [hU1, ← hU3] at CL2
            clear CP hU1 hU2 hU3
            have k3 : ∀ W, Below wr.heap.size wr W → W.cell? ⟨b, o + k * 7 + 3, none⟩ = some (.string LO) := fun W hb => (hb.cell (p := ⟨b, o + k * 7 + 3, none⟩) hbl).trans c3
            by_cases hSe : S = []
            · have hE2 : (tx8 S).toList.isEmpty = true := by rw [hes, hSe]; rfl
              clear CL2 hes hSe
              go_wp2_with fail
              refine (CP'.out _).mono ?_
              rintro e w6 ⟨rfl, hb6⟩
              have z3 := k3 _ (hb6.alloc hb6.size (.cells #[.string us, .bool uhh, .string uh, .string up, .bool uhq, .string uq, .bool uhf, .string uf] 52))
              have hbe6 : Below w5.heap.size w5 w6 := hbr.trans (hb6.mono hbr.size)
              clear CP' hb6 c3
              go_wp2_with fail
              refine (CL.out _ (hbe5.trans ((hbe6.alloc hbe6.size _).mono hbe5.size))).mono ?_
              rintro e w7 ⟨rfl, hb7⟩
              have hbe7 : Below w5.heap.size w5 w7 := (hbe6.alloc hbe6.size _).trans (hb7.mono (by have := hbe6.size; simp; omega))
              clear CL hb7 z3 k3
              go_wp2_with fail
              go_roundw
              case rel => exact ⟨k + 1, by omega, by go_num, hbe7⟩
              case measure => simp [intOf]; omega
            · have hE2 : (tx8 S).toList.isEmpty = false := by rw [hes]; simpa using hSe
              obtain ⟨j1, j2, j3⟩ := CL2.out hSe
              have hus : us.toList.isEmpty = false := by rw [ByteArray.toList_eq]; simpa using j2
              have CL3 : Hid (∀ W, Below w.heap.size w W → Calls Tryz.prog 11 #[.string ⟨#[97, 58, 98]⟩, .string (tx8 S)] W fun e w' => e = .returned (.string (tx8 S)) ∧ Below W.heap.size W w') := j3
              subst j1
              clear CL2 hes hSe j2 j3
              go_wp2_with fail
              refine (CP'.out _).mono ?_
              rintro e w6 ⟨rfl, hb6⟩
              have z3 := k3 _ (hb6.alloc hb6.size (.cells #[.string us, .bool uhh, .string uh, .string up, .bool uhq, .string uq, .bool uhf, .string uf] 52))
              have hbe6 : Below w5.heap.size w5 w6 := hbr.trans (hb6.mono hbr.size)
              clear CP' hb6 c3
              go_wp2_with fail
              refine (CL.out _ (hbe5.trans ((hbe6.alloc hbe6.size _).mono hbe5.size))).mono ?_
              rintro e w7 ⟨rfl, hb7⟩
              have hbe7 : Below w5.heap.size w5 w7 := (hbe6.alloc hbe6.size _).trans (hb7.mono (by have := hbe6.size; simp; omega))
              have z0 : w7.cell? ⟨w6.heap.size, 0, none⟩ = some (.string us) := (blk_c (blk_on (blk_new w6 _) hb7) 0).trans rfl
              clear CL hb7 z3 k3
              go_wp2_with fail
              refine (CL3.out _ (hbe5.trans (hbe7.mono hbe5.size))).mono ?_
              rintro e w8 ⟨rfl, hb8⟩
              have hbe8 : Below w5.heap.size w5 w8 := hbe7.trans (hb8.mono hbe7.size)
              clear CL3 hb8 z0
              go_wp2_with fail
              go_roundw
              case rel => exact ⟨k + 1, by omega, by go_num, hbe8⟩
              case measure => simp [intOf]; omega
        · obtain ⟨m, rfl⟩ : ∃ m : Nat, inn = (m : Int) := ⟨inn.toNat, by omega⟩
          have hmk : m < k := by omega
          have hmz : (m : Int) < (n : Int) := by omega
          have hm0 : (0 : Int) ≤ (m : Int) := by omega
          have hmc := HCW.out m (by omega)
          by_cases hem : wh.getD m [] = []
          · obtain ⟨AH, hAH⟩ : ∃ A, fromW wh (m : Int) = A := ⟨_, rfl⟩
            have HAH : Hid (fromW wh (m : Int) = AH) := hAH
            have hAHn : AH = nowS := by rw [← hAH]; unfold fromW; rw [if_neg (by omega), if_pos (by simpa using hem)]
            have hAD : Hid ((ByteArray.mk #[116, 104, 105, 115, 109, 101, 115, 115, 97, 103, 101, 58, 47]).data.toList = AH) := by unfold Hid; rw [hAHn]; rfl
            have hAS : (ByteArray.mk #[116, 104, 105, 115, 109, 101, 115, 115, 97, 103, 101, 58, 47]).size ≤ maxLen := by decide
            clear hAH
            have hE1 : (tx8 (wh.getD m [])).toList.isEmpty = true := by rw [tx8_empty, hem]; rfl
            clear hem
            generalize wh.getD m [] = A0 at *
            by_cases hl : LO.data.toList = []
            · have hE : LO.toList.isEmpty = true := by rw [ByteArray.toList_eq, hl]; rfl
              have hSA : S = AH := by rw [HWB.out, if_pos hl, HAH.out]
              have hEq : ((tx8 S).toList == [116, 104, 105, 115, 109, 101, 115, 115, 97, 103, 101, 58, 47]) = true := by rw [hSA, hAHn]; kernel_rfl
              clear hSA
              clear HWB hl HAH HSA HCW
              go_wp2_with fail
              go_roundw
              case rel => exact ⟨k + 1, by omega, by go_num, hbr⟩
              case measure => simp [intOf]; omega
            · have hE : LO.toList.isEmpty = false := by rw [ByteArray.toList_eq]; simpa using hl
              have hSA : S = ledU AH LO.data.toList := by rw [HWB.out, if_neg hl, HAH.out]
              have CP : Hid (∀ W, Calls Tryz.prog 21 #[.string (tx8 S)] W fun e w' => UPost W (parseU S) e w') := fun W => uparse_any (tx8 S) (by rw [tx8_size]; unfold maxLen; omega) W
              have CL : Hid (∀ W, Below w.heap.size w W → Calls Tryz.prog 11 #[.string ⟨#[116, 104, 105, 115, 109, 101, 115, 115, 97, 103, 101, 58, 47]⟩, .string LO] W fun e w' => e = .returned (.string (tx8 S)) ∧ Below W.heap.size W w') := fun W hW => by
                have h := bled_any ⟨#[116, 104, 105, 115, 109, 101, 115, 115, 97, 103, 101, 58, 47]⟩ LO hAS (by unfold maxLen; omega) W (HE.out.max hW)
                rw [hAD.out, ← hSA] at h
                exact h
              have CL2 : Hid (S ≠ [] → (parseU S).2 = 0 ∧ (parseU S).1.sch ≠ [] ∧ ∀ W, Below w.heap.size w W → Calls Tryz.prog 11 #[.string ⟨#[97, 58, 98]⟩, .string (tx8 S)] W fun e w' => e = .returned (.string (tx8 S)) ∧ Below W.heap.size W w') := fun hne => by
                rw [hSA] at hne
                obtain ⟨k1, k2, k3⟩ := led_abs AH LO.data.toList hne
                rw [← hSA] at k1 k2 k3
                refine ⟨k1, k2, fun W hW => ?_⟩
                have h := bled_any ⟨#[97, 58, 98]⟩ (tx8 S) (by decide) (by rw [tx8_size]; unfold maxLen; omega) W (HE.out.max hW)
                rw [show (ByteArray.mk #[97, 58, 98]).data.toList = abL from rfl, tx8_data, k3] at h
                exact h
              clear HWB hl HAH HSA HCW hSA hAD hAS
              have hes := tx8_empty S
              obtain ⟨us, uhh, uh, up, uhq, uq, uhf, uf, eU, hU⟩ : ∃ us uhh uh up uhq uq uhf uf eU, (parseU S).2 = eU ∧ (ofL (parseU S).1).v = .agg #[.string us, .bool uhh, .string uh, .string up, .bool uhq, .string uq, .bool uhf, .string uf] ∧ us.data.toList = (parseU S).1.sch := ⟨_, _, _, _, _, _, _, _, _, rfl, rfl, rfl⟩
              obtain ⟨hU1, hU2, hU3⟩ := hU
              have CP' : Hid (∀ W, Calls Tryz.prog 21 #[.string (tx8 S)] W fun e w' => e = .returned (.tuple #[.agg #[.string us, .bool uhh, .string uh, .string up, .bool uhq, .string uq, .bool uhf, .string uf], .int .i64 (eU : Int)]) ∧ Below W.heap.size W w') := fun W => (CP.out W).mono (by rintro e w' ⟨rfl, hb⟩; exact ⟨by rw [hU1, hU2], hb⟩)
              rw [hU1, ← hU3] at CL2
              clear CP hU1 hU2 hU3
              have k3 : ∀ W, Below wr.heap.size wr W → W.cell? ⟨b, o + k * 7 + 3, none⟩ = some (.string LO) := fun W hb => (hb.cell (p := ⟨b, o + k * 7 + 3, none⟩) hbl).trans c3
              by_cases hSe : S = []
              · have hE2 : (tx8 S).toList.isEmpty = true := by rw [hes, hSe]; rfl
                clear CL2 hes hSe
                go_wp2_with fail
                refine (CP'.out _).mono ?_
                rintro e w6 ⟨rfl, hb6⟩
                have z3 := k3 _ (hb6.alloc hb6.size (.cells #[.string us, .bool uhh, .string uh, .string up, .bool uhq, .string uq, .bool uhf, .string uf] 52))
                have hbe6 : Below w5.heap.size w5 w6 := hbr.trans (hb6.mono hbr.size)
                clear CP' hb6 c3
                go_wp2_with fail
                refine (CL.out _ (hbe5.trans ((hbe6.alloc hbe6.size _).mono hbe5.size))).mono ?_
                rintro e w7 ⟨rfl, hb7⟩
                have hbe7 : Below w5.heap.size w5 w7 := (hbe6.alloc hbe6.size _).trans (hb7.mono (by have := hbe6.size; simp; omega))
                clear CL hb7 z3 k3
                go_wp2_with fail
                go_roundw
                case rel => exact ⟨k + 1, by omega, by go_num, hbe7⟩
                case measure => simp [intOf]; omega
              · have hE2 : (tx8 S).toList.isEmpty = false := by rw [hes]; simpa using hSe
                obtain ⟨j1, j2, j3⟩ := CL2.out hSe
                have hus : us.toList.isEmpty = false := by rw [ByteArray.toList_eq]; simpa using j2
                have CL3 : Hid (∀ W, Below w.heap.size w W → Calls Tryz.prog 11 #[.string ⟨#[97, 58, 98]⟩, .string (tx8 S)] W fun e w' => e = .returned (.string (tx8 S)) ∧ Below W.heap.size W w') := j3
                subst j1
                clear CL2 hes hSe j2 j3
                go_wp2_with fail
                refine (CP'.out _).mono ?_
                rintro e w6 ⟨rfl, hb6⟩
                have z3 := k3 _ (hb6.alloc hb6.size (.cells #[.string us, .bool uhh, .string uh, .string up, .bool uhq, .string uq, .bool uhf, .string uf] 52))
                have hbe6 : Below w5.heap.size w5 w6 := hbr.trans (hb6.mono hbr.size)
                clear CP' hb6 c3
                go_wp2_with fail
                refine (CL.out _ (hbe5.trans ((hbe6.alloc hbe6.size _).mono hbe5.size))).mono ?_
                rintro e w7 ⟨rfl, hb7⟩
                have hbe7 : Below w5.heap.size w5 w7 := (hbe6.alloc hbe6.size _).trans (hb7.mono (by have := hbe6.size; simp; omega))
                have z0 : w7.cell? ⟨w6.heap.size, 0, none⟩ = some (.string us) := (blk_c (blk_on (blk_new w6 _) hb7) 0).trans rfl
                clear CL hb7 z3 k3
                go_wp2_with fail
                refine (CL3.out _ (hbe5.trans (hbe7.mono hbe5.size))).mono ?_
                rintro e w8 ⟨rfl, hb8⟩
                have hbe8 : Below w5.heap.size w5 w8 := hbe7.trans (hb8.mono hbe7.size)
                clear CL3 hb8 z0
                go_wp2_with fail
                go_roundw
                case rel => exact ⟨k + 1, by omega, by go_num, hbe8⟩
                case measure => simp [intOf]; omega
          · obtain ⟨AH, hAH⟩ : ∃ A, wh.getD m [] = A := ⟨_, rfl⟩
            have HAH : Hid (fromW wh (m : Int) = AH) := by unfold Hid fromW; rw [if_neg (by omega), if_neg (by simpa using hem)]; simpa using hAH
            rw [hAH] at hmc hem
            have hAl : AH.length ≤ 120 := by rw [← hAH]; exact HSA.out m
            have hAD : Hid ((tx8 AH).data.toList = AH) := tx8_data AH
            have hAS : (tx8 AH).size ≤ maxLen := by rw [tx8_size]; unfold maxLen; omega
            have hE1 : (tx8 AH).toList.isEmpty = false := by rw [tx8_empty]; simpa using hem
            clear hAH hem
            by_cases hl : LO.data.toList = []
            · have hE : LO.toList.isEmpty = true := by rw [ByteArray.toList_eq, hl]; rfl
              have hSA : S = AH := by rw [HWB.out, if_pos hl, HAH.out]
              subst hSA
              clear HWB hl HAH HSA HCW
              go_wp2_with fail
              go_roundw
              case rel => exact ⟨k + 1, by omega, by go_num, hbr⟩
              case measure => simp [intOf]; omega
            · have hE : LO.toList.isEmpty = false := by rw [ByteArray.toList_eq]; simpa using hl
              have hSA : S = ledU AH LO.data.toList := by rw [HWB.out, if_neg hl, HAH.out]
              have CP : Hid (∀ W, Calls Tryz.prog 21 #[.string (tx8 S)] W fun e w' => UPost W (parseU S) e w') := fun W => uparse_any (tx8 S) (by rw [tx8_size]; unfold maxLen; omega) W
              have CL : Hid (∀ W, Below w.heap.size w W → Calls Tryz.prog 11 #[.string (tx8 AH), .string LO] W fun e w' => e = .returned (.string (tx8 S)) ∧ Below W.heap.size W w') := fun W hW => by
                have h := bled_any (tx8 AH) LO hAS (by unfold maxLen; omega) W (HE.out.max hW)
                rw [hAD.out, ← hSA] at h
                exact h
              have CL2 : Hid (S ≠ [] → (parseU S).2 = 0 ∧ (parseU S).1.sch ≠ [] ∧ ∀ W, Below w.heap.size w W → Calls Tryz.prog 11 #[.string ⟨#[97, 58, 98]⟩, .string (tx8 S)] W fun e w' => e = .returned (.string (tx8 S)) ∧ Below W.heap.size W w') := fun hne => by
                rw [hSA] at hne
                obtain ⟨k1, k2, k3⟩ := led_abs AH LO.data.toList hne
                rw [← hSA] at k1 k2 k3
                refine ⟨k1, k2, fun W hW => ?_⟩
                have h := bled_any ⟨#[97, 58, 98]⟩ (tx8 S) (by decide) (by rw [tx8_size]; unfold maxLen; omega) W (HE.out.max hW)
                rw [show (ByteArray.mk #[97, 58, 98]).data.toList = abL from rfl, tx8_data, k3] at h
                exact h
              clear HWB hl HAH HSA HCW hSA hAD hAS
              have hes := tx8_empty S
              obtain ⟨us, uhh, uh, up, uhq, uq, uhf, uf, eU, hU⟩ : ∃ us uhh uh up uhq uq uhf uf eU, (parseU S).2 = eU ∧ (ofL (parseU S).1).v = .agg #[.string us, .bool uhh, .string uh, .string up, .bool uhq, .string uq, .bool uhf, .string uf] ∧ us.data.toList = (parseU S).1.sch := ⟨_, _, _, _, _, _, _, _, _, rfl, rfl, rfl⟩
              obtain ⟨hU1, hU2, hU3⟩ := hU
              have CP' : Hid (∀ W, Calls Tryz.prog 21 #[.string (tx8 S)] W fun e w' => e = .returned (.tuple #[.agg #[.string us, .bool uhh, .string uh, .string up, .bool uhq, .string uq, .bool uhf, .string uf], .int .i64 (eU : Int)]) ∧ Below W.heap.size W w') := fun W => (CP.out W).mono (by rintro e w' ⟨rfl, hb⟩; exact ⟨by rw [hU1, hU2], hb⟩)
              rw [hU1, ← hU3] at CL2
              clear CP hU1 hU2 hU3
              have k3 : ∀ W, Below wr.heap.size wr W → W.cell? ⟨b, o + k * 7 + 3, none⟩ = some (.string LO) := fun W hb => (hb.cell (p := ⟨b, o + k * 7 + 3, none⟩) hbl).trans c3
              by_cases hSe : S = []
              · have hE2 : (tx8 S).toList.isEmpty = true := by rw [hes, hSe]; rfl
                clear CL2 hes hSe
                go_wp2_with fail
                refine (CP'.out _).mono ?_
                rintro e w6 ⟨rfl, hb6⟩
                have z3 := k3 _ (hb6.alloc hb6.size (.cells #[.string us, .bool uhh, .string uh, .string up, .bool uhq, .string uq, .bool uhf, .string uf] 52))
                have hbe6 : Below w5.heap.size w5 w6 := hbr.trans (hb6.mono hbr.size)
                clear CP' hb6 c3
                go_wp2_with fail
                refine (CL.out _ (hbe5.trans ((hbe6.alloc hbe6.size _).mono hbe5.size))).mono ?_
                rintro e w7 ⟨rfl, hb7⟩
                have hbe7 : Below w5.heap.size w5 w7 := (hbe6.alloc hbe6.size _).trans (hb7.mono (by have := hbe6.size; simp; omega))
                clear CL hb7 z3 k3
                go_wp2_with fail
                go_roundw
                case rel => exact ⟨k + 1, by omega, by go_num, hbe7⟩
                case measure => simp [intOf]; omega
              · have hE2 : (tx8 S).toList.isEmpty = false := by rw [hes]; simpa using hSe
                obtain ⟨j1, j2, j3⟩ := CL2.out hSe
                have hus : us.toList.isEmpty = false := by rw [ByteArray.toList_eq]; simpa using j2
                have CL3 : Hid (∀ W, Below w.heap.size w W → Calls Tryz.prog 11 #[.string ⟨#[97, 58, 98]⟩, .string (tx8 S)] W fun e w' => e = .returned (.string (tx8 S)) ∧ Below W.heap.size W w') := j3
                subst j1
                clear CL2 hes hSe j2 j3
                go_wp2_with fail
                refine (CP'.out _).mono ?_
                rintro e w6 ⟨rfl, hb6⟩
                have z3 := k3 _ (hb6.alloc hb6.size (.cells #[.string us, .bool uhh, .string uh, .string up, .bool uhq, .string uq, .bool uhf, .string uf] 52))
                have hbe6 : Below w5.heap.size w5 w6 := hbr.trans (hb6.mono hbr.size)
                clear CP' hb6 c3
                go_wp2_with fail
                refine (CL.out _ (hbe5.trans ((hbe6.alloc hbe6.size _).mono hbe5.size))).mono ?_
                rintro e w7 ⟨rfl, hb7⟩
                have hbe7 : Below w5.heap.size w5 w7 := (hbe6.alloc hbe6.size _).trans (hb7.mono (by have := hbe6.size; simp; omega))
                have z0 : w7.cell? ⟨w6.heap.size, 0, none⟩ = some (.string us) := (blk_c (blk_on (blk_new w6 _) hb7) 0).trans rfl
                clear CL hb7 z3 k3
                go_wp2_with fail
                refine (CL3.out _ (hbe5.trans (hbe7.mono hbe5.size))).mono ?_
                rintro e w8 ⟨rfl, hb8⟩
                have hbe8 : Below w5.heap.size w5 w8 := hbe7.trans (hb8.mono hbe7.size)
                clear CL3 hb8 z0
                go_wp2_with fail
                go_roundw
                case rel => exact ⟨k + 1, by omega, by go_num, hbe8⟩
                case measure => simp [intOf]; omega
      · obtain rfl : k = n := by omega
        have hlz : ¬ (k : Int) < (k : Int) := by omega
        go_wp2_with fail
        go_ret
        exact ⟨rfl, hbe5.trans (hbr.mono hbe5.size)⟩
  · obtain rfl := hno h0
    have hz : ((R.1 : Int) == 0) = false := by rw [beq_eq_false_iff_ne]; omega
    clear h0 hno hok
    go_wp2_with fail
    refine (ledc_any _ (HE.out.below hbe2)).mono ?_
    rintro e w3 ⟨rfl, hb3⟩
    have hbe3 : Below w.heap.size w w3 := hbe2.trans (hb3.mono hbe2.size)
    clear hb3 hbe2 hk2
    go_wp2_with fail
    refine (ledc_any _ (HE.out.below hbe3)).mono ?_
    rintro e w4 ⟨rfl, hb4⟩
    have hbe4 : Below w.heap.size w w4 := hbe3.trans (hb4.mono hbe3.size)
    clear hb4 hbe3
    go_wp2_with fail
    go_ret
    exact ⟨rfl, hbe4⟩
end Go.Proofs.YtekppfglaafpoaaGreatDoor
