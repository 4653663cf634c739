/- The reference's PutIn: texts in the places of a page's links. -/
import Derived.Test.YtdlnlepecdcmjaaDoorXlinksaysupto22
import Derived.Test.YtdlnlepecdcmjaaDoorXlinksaysupto42
import Derived.Test.YtdlnlepecdcmjaaDoorXlinksaysupto43
import Derived.Deep.RegionHeld3
namespace Go.Proofs.YtdlnlepecdcmjaaDoor
open Go.RowKit

theorem tls_len (ts : List ByteArray) : (tls ts).length = ts.length := by simp [tls]
theorem tls_get (ts : List ByteArray) (k : Nat) (h : k < ts.length) : (tls ts).getD k [] = (ts.getD k ⟨#[]⟩).data.toList := by simp [tls, List.getD_eq_getElem?_getD, List.getElem?_eq_getElem h]
theorem sum_at (ts : List (List UInt8)) (k : Nat) (h : k < ts.length) : (ts.getD k []).length + sumL (ts.drop (k + 1)) ≤ sumL ts := by
  have h1 := sumL_drop ts k
  rw [drop_at ts k [] h, sumL_cons] at h1
  exact h1
theorem empty_own (w : World) (B : Nat) (h : B ≤ w.heap.size) : (w.alloc (.cells #[] 5)).ownsRow B 5 1 (.slice (some ⟨w.heap.size, 0, none⟩) 0 0) ([] : List UInt8).length (bv []) :=
  ⟨rfl, .inr ⟨w.heap.size, 0, #[], rfl, h, heap_alloc_new w _, Nat.le_refl _, by decide, rfl, rfl⟩⟩
set_option maxHeartbeats 16000000 in
set_option maxRecDepth 100000 in
theorem rput_any (w0 : World) (HE : LEnv w0) (q : Option Addr) (n c : Nat) (b : List UInt8) (en : n = b.length) (h4 : b.length ≤ 4000) (a2 : Option Addr) (m c2 : Nat) (ts : List ByteArray) (et : m = ts.length) (hmm : m ≤ maxLen) (hts : sumL (tls ts) ≤ 1100000)
    (w : World) (hb : Below w0.heap.size w0 w) (hr : BRow w q b) (hq : q = none → n = 0 ∧ c = 0) (hs : TxRow w a2 ts) :
    Calls Tryd.prog 8 #[.slice q n c, .slice a2 m c2] w fun e w' => PutPost w (putP smallU b (tls ts)) e w' := by
  have CF : Hid (Calls Tryd.prog 7 #[.slice q n c] w fun e w' => FindPost w b.length (findP smallU b) e w') := rlinks_any w0 HE q n c b en h4 w hb hr hq
  cases hf : findP smallU b with
  | none =>
    rw [hf] at CF
    have HN : Hid (putP smallU b (tls ts) = ([], 2)) := by unfold Hid putP; rw [hf]
    clear hf HE hts en et hq hs hr
    go_enter Tryd.func8, Tryd.ntmps8
    go_wp2_with fail
    refine CF.out.mono ?_
    rintro e w1 ⟨hb1, rfl⟩
    clear CF
    go_wp2_with fail
    go_ret2
    show PutPost _ _ _ _
    rw [HN.out]
    exact ⟨hb1, .inl ⟨by decide, rfl⟩⟩
  | some l =>
    rw [hf] at CF
    obtain ⟨ho, hl60, hb4⟩ := find_ord smallU b l hf
    have hleft := findP_leftL smallU b l hf
    unfold maxLen at hmm
    by_cases hml : m = l.length
    · have HTS : Hid (∀ k, k < m → (ts.getD k ⟨#[]⟩).size ≤ 1100000) := fun k hk => by
        have h1 := sum_at (tls ts) k (by rw [tls_len]; omega)
        rw [tls_get ts k (by omega)] at h1
        rw [Lib.size_eq]
        omega
      have CP : Hid (∀ (k : Nat) (W : World), k < m → Calls Tryd.prog 26 #[.string (ts.getD k ⟨#[]⟩), .int .u8 33, .int .u8 126, .string ⟨#[34, 39, 60, 62, 38, 61]⟩] W fun e w' => e = .returned (.bool (plainT (ts.getD k ⟨#[]⟩).data.toList)) ∧ w' = W) := fun k W hk => by
        have h1 := between_big (ts.getD k ⟨#[]⟩) ⟨#[34, 39, 60, 62, 38, 61]⟩ [34, 39, 60, 62, 38, 61] rfl 33 126 33 126 rfl rfl W (by have := HTS.out k hk; omega)
        rw [betw_plain] at h1
        exact h1
      have HS : Hid (TxRow w a2 ts) := hs
      have HA : Hid (∀ k, k < m → ((tls ts).drop k).all plainT = (plainT (ts.getD k ⟨#[]⟩).data.toList && ((tls ts).drop (k + 1)).all plainT)) := fun k hk => tls_all ts k (by omega)
      have HZ : Hid (((tls ts).drop m).all plainT = true) := by unfold Hid; rw [List.drop_of_length_le (by simp [tls]; omega)]; rfl
      have HBAD : Hid ((tls ts).all plainT = false → putP smallU b (tls ts) = ([], 1)) := fun h => by
        unfold putP; rw [hf]; simp only
        rw [if_neg (by simp [tls]; omega), if_pos h]
      have HOKK : Hid ((tls ts).all plainT = true → putP smallU b (tls ts) = if 4000 < (fillP l (tls ts) b).length then ([], 2) else (fillP l (tls ts) b, 0)) := fun h => by
        unfold putP; rw [hf]; simp only
        rw [if_neg (by simp [tls]; omega), if_neg (by rw [h]; decide)]
      have HTM : Hid (m = ts.length) := et
      have HORD : Hid (Ord b.length 0 l) := ho
      have HLEFT : Hid (∀ x ∈ l, x.2.length + 1 ≤ x.1) := hleft
      have HTOT : Hid (sumL (tls ts) ≤ 1100000) := hts
      have HR : Hid (BRow w q b) := hr
      have HQ0 : Hid (q = none → n = 0 ∧ c = 0) := hq
      have HEN : Hid (n = b.length) := en
      have hm60 : m ≤ 60 := by omega
      have hn4 : n ≤ 4000 := by omega
      unfold FindPost at CF
      simp only at CF
      rw [← hml] at CF
      have HML : Hid (m = l.length) := hml
      clear hf HE hts en et hq hs hr ho hleft hml hb4 h4
      go_enter Tryd.func8, Tryd.ntmps8
      go_wp2_with fail
      refine CF.out.mono ?_
      rintro e w1 ⟨hb1, v1, rfl, own1⟩
      have own1' : w1.ownsRow w.heap.size 33 3 v1 l.length (lv b.length l) := by rw [← HML.out]; exact own1
      obtain ⟨a1, c1, rfl, h1a, h1b, h1n, hk1⟩ := owned_links own1'
      rw [← HML.out]
      have HK : Hid (KRow w1 a1 b.length l) := hk1
      have HS1 : Hid (TxRow w1 a2 ts) := HS.out.below hb1
      have HR1 : Hid (BRow w1 q b) := HR.out.below hb1
      have HB1 : Hid (Below w.heap.size w w1) := hb1
      clear CF own1 own1' hk1 HS HR hb1
      go_wp2_with (at_builtin; refine append_bytes rfl (.tmp 25) (.tmp 26) rfl w1.heap.size _ [] rfl (empty_own w1 w1.heap.size (Nat.le_refl _)) q n c b HEN.out rfl (HR1.out.below ((Below.refl _ _).alloc (Nat.le_refl _) _)) HQ0.out (by simp; omega) (by simp) ?_)
      intro v8 w2 OP HOP own2 hg2
      have hb2 : Below w1.heap.size w1 w2 := ((Below.refl _ _).alloc (Nat.le_refl _) _).grown hg2 (by simp) (fun k hk => by cases hk; exact Nat.le_refl _)
      obtain ⟨p8, c8, rfl, h8a, h8b, h8n⟩ := slice_of own2
      have HS2 : Hid (TxRow w2 a2 ts) := HS1.out.below hb2
      have HP0 : Hid (PuAt w1 b l (tls ts) (.slice p8 OP.length c8) w2 m OP) := ⟨hb2, own2, by rw [HOP.out, HML.out, List.drop_of_length_le (Nat.le_refl _), fill_end]⟩
      have HB2 : Hid (Below w.heap.size w w2) := HB1.out.trans (hb2.mono HB1.out.size)
      clear own2 hg2 hb2 HR1 HQ0 HOP h8n
      obtain ⟨n8, hn8⟩ : ∃ k, OP.length = k := ⟨_, rfl⟩
      rw [hn8] at HP0 h8a ⊢
      have HN8 : Hid (OP.length = n8) := hn8
      clear hn8
      go_wp2_with fail
      go_loop [30] (fun iv => ∃ k : Nat, k ≤ m ∧ iv = .int .i64 k ∧ Hid (((tls ts).drop k).all plainT = (tls ts).all plainT)) (fun iv => m - (intOf iv).toNat)
      case atStart => exact ⟨0, Nat.zero_le _, rfl, rfl⟩
      case round =>
        obtain ⟨k, hk, rfl, HQ⟩ := hrel
        by_cases hlt : k < m
        · obtain ⟨bt, ot, e2, hct⟩ := HS2.out (fun e => by have := HTM.out; rw [e] at this; simp at this; omega)
          subst e2
          have k3 := hct k (by rw [← HTM.out]; exact hlt)
          have hki : (k : Int) < (m : Int) := by omega
          have HC : Hid (∀ W, Calls Tryd.prog 26 #[.string (ts.getD k ⟨#[]⟩), .int .u8 33, .int .u8 126, .string ⟨#[34, 39, 60, 62, 38, 61]⟩] W fun e w' => e = .returned (.bool (plainT (ts.getD k ⟨#[]⟩).data.toList)) ∧ w' = W) := fun W => CP.out k W hlt
          have HAK := HA.out k hlt
          have hwk : IntKind.i64.wrap ((k : Int) + 1) = ((k + 1 : Nat) : Int) := by rw [IntKind.wrap_i64]; omega
          clear hct
          generalize ts.getD k ⟨#[]⟩ = T at *
          cases hp : plainT T.data.toList with
          | true =>
            rw [hp] at HC HAK
            have HN : Hid (((tls ts).drop (k + 1)).all plainT = (tls ts).all plainT) := by unfold Hid; rw [← HQ.out, HAK]; rfl
            clear HAK HQ hp
            go_wp2_with fail
            refine (HC.out _).mono ?_
            rintro e w3 ⟨rfl, hw3⟩
            have hw4 := hw3.symm
            subst hw4
            go_wp2_with fail
            go_round
            case rel => exact ⟨k + 1, by omega, by go_num, HN⟩
            case measure => simp [intOf]; omega
          | false =>
            rw [hp] at HC HAK
            have HN : Hid (putP smallU b (tls ts) = ([], 1)) := HBAD.out (by rw [← HQ.out, HAK]; rfl)
            clear HAK HQ hp
            go_wp2_with fail
            refine (HC.out _).mono ?_
            rintro e w3 ⟨rfl, hw3⟩
            have hw4 := hw3.symm
            subst hw4
            go_wp2_with fail
            go_ret2
            show PutPost _ _ _ _
            rw [HN.out]
            exact ⟨HB2.out, .inl ⟨by decide, rfl⟩⟩
        · obtain rfl : k = m := by omega
          have HOK : Hid (putP smallU b (tls ts) = if 4000 < (fillP l (tls ts) b).length then ([], 2) else (fillP l (tls ts) b, 0)) := HOKK.out (by rw [← HQ.out]; exact HZ.out)
          have hkk : decide ((k : Int) < (k : Int)) = false := by simp
          have hw1 : IntKind.i64.wrap ((k : Int) - 1) = (k : Int) - 1 := by rw [IntKind.wrap_i64]; omega
          clear HQ HZ HA CP HBAD HOKK HS2
          go_wp2_with fail
          go_loopw [8, 11] (fun ov iv wr => ∃ (j : Nat) (X : List UInt8) (po : Option Addr) (lo co : Nat), iv = .int .i64 ((j : Int) - 1) ∧ ov = .slice po lo co ∧ j ≤ k ∧ lo = X.length ∧ Hid (PuAt w1 b l (tls ts) (.slice po lo co) wr j X)) (fun _ iv _ => (intOf iv + 1).toNat)
          case atStart => exact ⟨k, OP, p8, n8, c8, rfl, rfl, Nat.le_refl _, HN8.out.symm, HP0⟩
          case round =>
            obtain ⟨j, X, po, lo, co, rfl, rfl, hjk, elo, HJ⟩ := hrel
            have HLO : Hid (lo = X.length) := elo
            obtain ⟨hbl, hlc⟩ : lo ≤ co ∧ co ≤ 9223372036854775807 := by
              obtain ⟨a, c', e1, e2, e3, _⟩ := slice_of HJ.out.own
              injection e1 with _ _ e4
              rw [elo, e4]
              exact ⟨e2, e3⟩
            have hXl : X.length ≤ 1104000 := by
              have h1 := fill_len (l.drop j) ((tls ts).drop j) b
              rw [← HJ.out.eq] at h1
              have h2 := sumL_drop (tls ts) j
              have h3 := HTOT.out
              have h4 := HEN.out
              omega
            clear elo HP0
            cases j with
            | zero =>
              have hneg : ((0 : Nat) : Int) - 1 = -1 := rfl
              rw [hneg]
              have HE0 : Hid (X = fillP l (tls ts) b) := HJ.out.eq
              have HOW : Hid (wr.ownsRow w.heap.size 5 1 (.slice po lo co) X.length (bv X)) := ownsRow_base HJ.out.own HB1.out.size
              have HBW : Hid (Below w.heap.size w wr) := HB1.out.trans (HJ.out.bel.mono HB1.out.size)
              by_cases h4 : 4000 < lo
              · have h4' : (4000 : Int) < (lo : Int) := by omega
                have HN : Hid (putP smallU b (tls ts) = ([], 2)) := by unfold Hid; rw [HOK.out, if_pos (by rw [← HE0.out, ← HLO.out]; exact h4)]
                clear HJ hneg
                go_wp2_with fail
                go_ret2
                show PutPost _ _ _ _
                rw [HN.out]
                exact ⟨HBW.out, .inl ⟨by decide, rfl⟩⟩
              · have h4' : ¬ (4000 : Int) < (lo : Int) := by omega
                have HN : Hid (putP smallU b (tls ts) = (X, 0)) := by unfold Hid; rw [HOK.out, if_neg (by rw [← HE0.out, ← HLO.out]; exact h4), HE0.out]
                clear HJ hneg
                go_wp2_with fail
                go_ret2
                show PutPost _ _ _ _
                rw [HN.out]
                exact ⟨HBW.out, .inr ⟨rfl, _, rfl, HOW.out⟩⟩
            | succ j =>
              have hjj : ((j + 1 : Nat) : Int) - 1 = (j : Int) := by omega
              rw [hjj]
              have hjl : j < l.length := by have := HML.out; omega
              have hjt : j < ts.length := by have := HTM.out; omega
              have HSr : TxRow wr a2 ts := HS1.out.below HJ.out.bel
              have HKr : KRow wr a1 b.length l := HK.out.below HJ.out.bel
              obtain ⟨bt, ot, e2, hct⟩ := HSr (fun e => by rw [e] at hjt; simp at hjt)
              obtain ⟨bl, e1, hcl⟩ := HKr (fun e => by rw [e] at hjl; simp at hjl)
              subst e1 e2
              have k3 := hct j hjt
              obtain ⟨k0, k1, _⟩ := hcl j hjl
              have hl0 : bl < w1.heap.size := by
                obtain ⟨b', e3, hc'⟩ := HK.out (fun e => by rw [e] at hjl; simp at hjl)
                injection e3 with e3
                injection e3 with e3
                rw [e3]
                exact World.block_lt_of_cell? w1 _ (hc' j hjl).1
              have ht0 : bt < w1.heap.size := by
                obtain ⟨b', o', e3, hc'⟩ := HS1.out (fun e => by rw [e] at hjt; simp at hjt)
                injection e3 with e3
                injection e3 with e3
                rw [e3]
                exact World.block_lt_of_cell? w1 _ (hc' j hjt)
              have hji : (j : Int) < (k : Int) := by omega
              have hj0 : (0 : Int) ≤ (j : Int) := by omega
              have hwj : IntKind.i64.wrap ((j : Int) - 1) = (j : Int) - 1 := by rw [IntKind.wrap_i64]; omega
              have hget := tls_get ts j hjt
              have HTZ := HTS.out j (by omega)
              obtain ⟨T, hT⟩ : ∃ T, ts.getD j ⟨#[]⟩ = T := ⟨_, rfl⟩
              rw [hT] at k3 hget HTZ
              clear hct hcl HSr HKr
              by_cases ht : T.data.toList = []
              · have hemp : T.toList.isEmpty = true := by rw [ByteArray.toList_eq, ht]; rfl
                have HJ2 : Hid (PuAt w1 b l (tls ts) (.slice po lo co) wr j X) := ⟨HJ.out.bel, HJ.out.own, by rw [HJ.out.eq, fill_keepK l (tls ts) b j hjl (by rw [tls_len]; exact hjt) (by rw [hget, ht])]⟩
                clear HJ ht hget hT
                go_wp2_with fail
                go_roundw
                case rel => exact ⟨j, X, po, lo, co, rfl, rfl, by omega, HLO.out, HJ2⟩
                case measure => simp [intOf]
              · have hemp : T.toList.isEmpty = false := by rw [ByteArray.toList_eq]; cases h : T.data.toList with
                  | nil => exact absurd h ht
                  | cons _ _ => rfl
                obtain ⟨hstep, hjX⟩ := fill_step l (tls ts) b HORD.out HLEFT.out j hjl (by rw [tls_len]; exact hjt) (by rw [hget]; exact ht)
                rw [← HJ.out.eq, hget] at hstep
                rw [← HJ.out.eq] at hjX
                obtain ⟨i0, hi0⟩ : ∃ i, b.length - (l.getD j (0, [])).1 = i := ⟨_, rfl⟩
                obtain ⟨j0, hj0'⟩ : ∃ i, i0 + (l.getD j (0, [])).2.length = i := ⟨_, rfl⟩
                rw [hi0] at k0 k1 hstep hjX
                rw [hj0'] at k1 hstep hjX
                have hij0 : i0 ≤ j0 := by omega
                have CR : Hid (Calls Tryd.prog 27 #[.slice po lo co, .int .i64 i0, .int .i64 j0, .slice (some ⟨wr.heap.size, 0, none⟩) T.size (grownCap wr.drew T.size 0 5)] (Lib.bytesWorld wr.drew 5 T) fun e w' => ∃ v', e = .returned v' ∧ Below w1.heap.size w1 w' ∧ w'.ownsRow w1.heap.size 5 1 v' (X.take i0 ++ T.data.toList ++ X.drop j0).length (bv (X.take i0 ++ T.data.toList ++ X.drop j0))) := puts_one w1 wr (.slice po lo co) X T i0 j0 lo HLO.out hij0 (by rw [HLO.out]; exact hjX) ht (by omega) HJ.out.bel HJ.out.own
                have hcv : ∀ W, (convert 9 22 (.string T)).run Tryd.prog W = .ok (.slice (some ⟨W.heap.size, 0, none⟩) T.size (grownCap W T.size 0 5)) (Lib.bytesWorld W 5 T) := fun W => Lib.run_convert_string_bytes W _ _ _ T Tryd.underlying9 Tryd.underlying22 Tryd.underlying5
                have HKEEP : Hid (∀ W, Below w1.heap.size w1 W → Below w1.heap.size w1 (Lib.bytesWorld W 5 T)) := fun W hW => hW.trans ⟨rfl, rfl, rfl, by rw [Lib.bytesWorld_size]; omega, fun q hq => Lib.bytesWorld_at_old W _ T q (Nat.lt_of_lt_of_le hq hW.size)⟩
                have f0 : ∀ w', Below w1.heap.size w1 w' → w'.cell? ⟨bl, j * 3, none⟩ = some (.int .i64 (i0 : Int)) := fun w' h => (h.cell (p := ⟨bl, j * 3, none⟩) hl0).trans ((HJ.out.bel.cell (p := ⟨bl, j * 3, none⟩) hl0).symm.trans k0)
                have f1 : ∀ w', Below w1.heap.size w1 w' → w'.cell? ⟨bl, j * 3 + 1, none⟩ = some (.int .i64 (j0 : Int)) := fun w' h => (h.cell (p := ⟨bl, j * 3 + 1, none⟩) hl0).trans ((HJ.out.bel.cell (p := ⟨bl, j * 3 + 1, none⟩) hl0).symm.trans k1)
                have f3 : ∀ w', Below w1.heap.size w1 w' → w'.cell? ⟨bt, ot + j, none⟩ = some (.string T) := fun w' h => (h.cell (p := ⟨bt, ot + j, none⟩) ht0).trans ((HJ.out.bel.cell (p := ⟨bt, ot + j, none⟩) ht0).symm.trans k3)
                have HBR : Hid (Below w1.heap.size w1 wr) := HJ.out.bel
                have hbr : Below w1.heap.size w1 wr.drew := HJ.out.bel.drew
                have HST : Hid (fillP (l.drop j) ((tls ts).drop j) b = X.take i0 ++ T.data.toList ++ X.drop j0) := hstep
                clear HJ hstep hjX hget ht hT hi0 hj0' hij0 HTZ
                go_upto_region 17 with fail
                first
                  | (go_region_held (fun w' => Below w1.heap.size w1 w') (first | assumption | exact HBR.out.drew | exact HKEEP.out _ HBR.out.drew) (first
                      | (go_at_call 27; refine CR.out.mono ?_; rintro e w' ⟨v', rfl, hb', hown'⟩)))
                  | fail
                rename_i hHeld
                clear hHeld
                obtain ⟨po', co', rfl, _⟩ := slice_of hown'
                have HJ2 : Hid (PuAt w1 b l (tls ts) (.slice po' (X.take i0 ++ T.data.toList ++ X.drop j0).length co') w' j (X.take i0 ++ T.data.toList ++ X.drop j0)) := ⟨hb', hown', HST.out.symm⟩
                clear hb' hown' CR hcv HKEEP f0 f1 f3 HBR hbr k0 k1 k3
                generalize X.take i0 ++ T.data.toList ++ X.drop j0 = Y at *
                obtain ⟨ly, hly⟩ : ∃ k, Y.length = k := ⟨_, rfl⟩
                have HLY : Hid (Y.length = ly) := hly
                rw [hly] at HJ2 ⊢
                clear hly
                go_wp2_with fail
                go_roundw
                case rel => exact ⟨j, Y, po', ly, co', rfl, rfl, by omega, HLY.out.symm, HJ2⟩
                case measure => simp [intOf]
    · have HN : Hid (putP smallU b (tls ts) = ([], 4)) := by
        unfold Hid putP; rw [hf]; simp only
        rw [if_pos (by rw [tls_len]; omega)]
      have hne : ((l.length : Int) != (m : Int)) = true := by rw [bne_iff_ne]; omega
      unfold FindPost at CF
      simp only at CF
      clear hf HE hts en et hq hs hr ho hleft
      go_enter Tryd.func8, Tryd.ntmps8
      go_wp2_with fail
      refine CF.out.mono ?_
      rintro e w1 ⟨hb1, v1, rfl, own1⟩
      obtain ⟨a1, c1, rfl, h1a, h1b, h1n, hk1⟩ := owned_links own1
      clear CF own1 hk1
      go_wp2_with fail
      go_ret2
      show PutPost _ _ _ _
      rw [HN.out]
      exact ⟨hb1, .inl ⟨by decide, rfl⟩⟩
end Go.Proofs.YtdlnlepecdcmjaaDoor
