/- link's filled: its walk. -/
import Derived.Test.YtdlnlepecdcmjaaDoorXlinksaysupto17
namespace Go.Proofs.YtdlnlepecdcmjaaDoor
open Go.RowKit

theorem brow_drop {w : World} {a : Addr} {l : List UInt8} (h : BRow w (some a) l) (d : Nat) : BRow w (some (a.add d)) (l.drop d) := by
  intro hne
  obtain ⟨b, o, e, hc⟩ := h (fun e => by rw [e] at hne; simp at hne)
  obtain rfl := Option.some.inj e
  refine ⟨b, o + d, by rw [Addr.add_lit], fun i hi => ?_⟩
  rw [List.length_drop] at hi
  rw [Nat.add_assoc, hc (d + i) (by omega)]
  congr 3
  rw [List.getD_eq_getElem?_getD, List.getD_eq_getElem?_getD, List.getElem?_drop]
theorem fill_keep (x : LK) (ls : List LK) (ts : List (List UInt8)) (s : List UInt8) : fillP (x :: ls) ([] :: ts) s = fillP ls ts s := by rw [fillP, if_pos rfl]
theorem fill_put (x : LK) (ls : List LK) (t : List UInt8) (ts : List (List UInt8)) (s : List UInt8) (h : t ≠ []) : fillP (x :: ls) (t :: ts) s = s.take (s.length - x.1) ++ t ++ fillP ls ts (s.drop (s.length - x.1 + x.2.length)) := by rw [fillP, if_neg h]
theorem fill_end (ts : List (List UInt8)) (s : List UInt8) : fillP [] ts s = s := by cases ts <;> rfl
set_option maxHeartbeats 16000000 in
set_option maxRecDepth 100000 in
theorem filled_any (q : Option Addr) (n c : Nat) (b : List UInt8) (en : n = b.length) (hn : n ≤ 4000) (hnc : n ≤ c) (hcm : c ≤ maxLen) (a1 : Option Addr) (m c1 : Nat) (l : List LK) (em : m = l.length) (hc1 : c1 ≤ maxLen) (hmc : m ≤ c1)
    (a2 : Option Addr) (c2 : Nat) (ts : List ByteArray) (et : m = ts.length) (hts : ∀ t ∈ ts, t.size ≤ maxLen) (w : World) (hr : BRow w q b) (hq : q = none → n = 0 ∧ c = 0) (hk : KRow w a1 n l) (hs : TxRow w a2 ts) (hord : Ord n 0 l) (hleft : ∀ x ∈ l, 1 ≤ x.1) :
    Calls Tryd.prog 14 #[.slice q n c, .slice a1 m c1, .slice a2 m c2] w fun e w' => FillPost w (fillP l (tls ts) b) e w' := by
  obtain ⟨i0, hi, hz0, hz1, hz2⟩ := info_parts info_u8
  have HR : Hid (∀ w', Below w.heap.size w w' → BRow w' q b) := fun w' h => hr.below h
  have HK : Hid (∀ w', Below w.heap.size w w' → KRow w' a1 n l) := fun w' h => hk.below h
  have HS : Hid (∀ w', Below w.heap.size w w' → TxRow w' a2 ts) := fun w' h => hs.below h
  have HQ : Hid (q = none → n = 0 ∧ c = 0) := hq
  have HL : Hid (∀ x ∈ l, 1 ≤ x.1) := hleft
  have HT : Hid (∀ t ∈ ts, t.size ≤ maxLen) := hts
  have HE : Hid (m = l.length ∧ m = ts.length ∧ n = b.length) := ⟨em, et, en⟩
  have HA0 : Hid (FillSt w n b l (tls ts) (m + 1) w (.slice none 0 0) 0 0 []) := ⟨by omega, Nat.zero_le _, Nat.zero_le _, fun h => by
    cases l with
    | nil => simp at h
    | cons x l => have h1 := hleft x (by simp); have h2 := hord.1; omega, by simp, hord, Below.refl _ _, World.ownsRow_nil _ _ _ _, rfl⟩
  unfold maxLen at hcm hc1
  clear hr hk hs hq hleft hts hord en em et
  go_enter Tryd.func14, Tryd.ntmps14
  go_wp2_with fail
  go_loopg [8, 9, 14] (m + 1) (fun gk v dv iv wr => ∃ (i d : Nat) (O : List UInt8), iv = .int .i64 i ∧ dv = .int .i64 d ∧ Hid (FillSt w n b l (tls ts) gk wr v i d O))
  case atStart => exact ⟨0, 0, [], rfl, rfl, HA0⟩
  case round =>
    obtain ⟨i, d, O, rfl, rfl, HJ⟩ := hrel
    clear HA0
    obtain ⟨a8, c8, rfl, h8a, h8b, h8n⟩ := slice_of HJ.out.own
    have hol := HJ.out.ol
    have hdn := HJ.out.dn
    have hfew := HJ.out.few
    have hil := HJ.out.il
    have hbs := HJ.out.bel.size
    by_cases hlt : i < m
    · have hil2 : i < l.length := by rw [← HE.out.1]; exact hlt
      have hit : i < ts.length := by rw [← HE.out.2.1]; exact hlt
      obtain ⟨bl, e1, hcl⟩ := HK.out wr HJ.out.bel (fun e => by rw [e] at hil2; simp at hil2)
      obtain ⟨bt, ot, e2, hct⟩ := HS.out wr HJ.out.bel (fun e => by rw [e] at hit; simp at hit)
      subst e1; subst e2
      obtain ⟨k0, k1, k2⟩ := hcl i hil2
      have k3 := hct i hit
      have hld := drop_at l i (0, []) hil2
      have htd : (tls ts).drop i = (ts.getD i ⟨#[]⟩).data.toList :: (tls ts).drop (i + 1) := by
        rw [drop_at (tls ts) i [] (by simp [tls]; exact hit)]
        simp [tls, List.getD_eq_getElem?_getD, List.getElem?_eq_getElem hit]
      have hTm : (ts.getD i ⟨#[]⟩).size ≤ maxLen := HT.out _ (by rw [List.getD_eq_getElem?_getD, List.getElem?_eq_getElem hit]; exact List.getElem_mem hit)
      have hx1 : 1 ≤ (l.getD i (0, [])).1 := HL.out _ (by rw [List.getD_eq_getElem?_getD, List.getElem?_eq_getElem hil2]; exact List.getElem_mem hil2)
      have hord := HJ.out.ord
      rw [hld] at hord
      obtain ⟨o1, o2, o3, o4⟩ := hord
      have heq := HJ.out.eq
      rw [hld, htd] at heq
      have hltI : (i : Int) < (m : Int) := by omega
      have HTC : Hid (∀ w', Below w.heap.size w w' → w'.cell? ⟨bt, ot + i, none⟩ = some (.string (ts.getD i ⟨#[]⟩))) := fun w' h => by
        obtain ⟨b5, o5, e5, h5⟩ := HS.out w' h (fun e => by rw [e] at hit; simp at hit)
        obtain ⟨rfl, rfl⟩ : bt = b5 ∧ ot = o5 := by injection e5 with e5; injection e5 with h1 h2; exact ⟨h1, h2⟩
        exact h5 i hit
      clear hcl hct hld htd
      generalize l.getD i (0, []) = x at *
      generalize ts.getD i ⟨#[]⟩ = T at *
      obtain ⟨lf, raw⟩ := x
      simp only at *
      unfold maxLen at hTm
      have hblt := World.block_lt_of_cell? wr _ k0
      have hbtl := World.block_lt_of_cell? wr _ k3
      simp only at hblt hbtl
      have hwi : IntKind.i64.wrap ((i : Int) + 1) = ((i + 1 : Nat) : Int) := by rw [IntKind.wrap_i64]; omega
      have HB : Hid (Below w.heap.size w wr) := HJ.out.bel
      have HO : Hid (wr.ownsRow w.heap.size 5 1 (.slice a8 O.length c8) O.length (bv O)) := HJ.out.own
      obtain ⟨V2, hV2⟩ : ∃ V, V = lba (unamp raw) := ⟨_, rfl⟩
      rw [← hV2] at k2
      have HEQ : Hid (fillP l (tls ts) b = O ++ fillP ((lf, raw) :: l.drop (i + 1)) (T.data.toList :: (tls ts).drop (i + 1)) (b.drop d)) := heq
      obtain ⟨F, hF⟩ : ∃ F, F = n - lf := ⟨_, rfl⟩
      obtain ⟨E, hE⟩ : ∃ E, E = F + raw.length := ⟨_, rfl⟩
      rw [← hF] at k0 k1 o2 o4
      rw [← hE] at k1 o4
      have hFn : F < n := by omega
      have hEn : E ≤ n := by omega
      have hFE : F ≤ E := by omega
      have HBL : Hid (b.length = n) := HE.out.2.2.symm
      have HPT : Hid (T.data.toList ≠ [] → fillP l (tls ts) b = (O ++ (b.drop d).take (F - d) ++ T.data.toList) ++ fillP (l.drop (i + 1)) ((tls ts).drop (i + 1)) (b.drop E)) := fun h => by
        have h1 : (b.drop d).length - lf = F - d := by rw [List.length_drop, HBL.out]; omega
        have h2 : d + (F - d + raw.length) = E := by omega
        rw [HEQ.out, fill_put _ _ _ _ _ h]
        simp only [h1, List.drop_drop, h2, List.append_assoc]
      have HKP : Hid (T.data.toList = [] → fillP l (tls ts) b = O ++ fillP (l.drop (i + 1)) ((tls ts).drop (i + 1)) (b.drop d)) := fun h => by
        rw [HEQ.out, h, fill_keep]
      have HD2 : Hid (i + 1 < l.length → F + raw.length < n) := fun h => by
        have h1 := drop_at l (i + 1) (0, []) h
        rw [h1] at o4
        have h2 := o4.2.1
        have h3 := o4.1
        have h4 : 1 ≤ (l.getD (i + 1) (0, [])).1 := HL.out _ (by rw [List.getD_eq_getElem?_getD, List.getElem?_eq_getElem h]; exact List.getElem_mem h)
        omega
      clear hV2 heq HEQ
      by_cases hTe : T.data.toList = []
      · have hTz : T.toList.isEmpty = true := by rw [ByteArray.toList_eq, hTe]; rfl
        have HRL : Hid (FillSt w n b l (tls ts) (gk - 1) (wr.alloc (.cells #[.int .i64 (F : Int), .int .i64 (E : Int), .string V2] 33)) (.slice a8 O.length c8) (i + 1) d O) := by
          refine ⟨by omega, by omega, hdn, fun h => by have := HD2.out h; omega, hol, o4.mono (by omega), HB.out.alloc hbs _, HO.out.alloc _, HKP.out hTe⟩
        clear HJ hTe o4 HPT HKP HD2 hF hE
        go_wp2_with fail
        go_roundg (gk - 1)
        case measure => omega
        case rel => exact ⟨i + 1, d, O, by go_num, rfl, HRL⟩
      · have hTz : T.toList.isEmpty = false := by
          rw [ByteArray.toList_eq]
          cases hh : T.data.toList with
          | nil => exact absurd hh hTe
          | cons y Y => rfl
        have hEQ := HPT.out hTe
        obtain ⟨bq, oq, eq, _⟩ := HR.out wr HB.out (fun e => by have := HBL.out; rw [e] at this; simp at this; omega)
        have hPr := (HR.out wr HB.out).part bq oq eq d (F - d)
        subst eq
        have hPl : ((b.drop d).take (F - d)).length = F - d := by rw [List.length_take, List.length_drop, HBL.out]; omega
        have hdF : (d : Int) ≤ (F : Int) := by omega
        have hFc : (F : Int) ≤ (c : Int) := by omega
        have hFc' : F ≤ c := by omega
        have hdc : d < c := by omega
        have HEQ2 : Hid (fillP l (tls ts) b = (O ++ (b.drop d).take (F - d) ++ T.data.toList) ++ fillP (l.drop (i + 1)) ((tls ts).drop (i + 1)) (b.drop E)) := hEQ
        have HO4 : Hid (Ord n E (l.drop (i + 1))) := o4
        have HDD : Hid (i + 1 < l.length → E < n) := fun h => by have := HD2.out h; omega
        have HPR : Hid (BRow wr (some ⟨bq, oq + d, none⟩) ((b.drop d).take (F - d))) := hPr
        have HPL : Hid (((b.drop d).take (F - d)).length = F - d) := hPl
        clear HJ o4 HPT HKP HD2 hF hE hEQ hPr hPl
        generalize (b.drop d).take (F - d) = P at *
        have hba : Below wr.heap.size wr (wr.alloc (.cells #[.int .i64 (F : Int), .int .i64 (E : Int), .string V2] 33)) := (Below.refl _ _).alloc (Nat.le_refl _) _
        have hnew := lnew wr (.cells #[.int .i64 (F : Int), .int .i64 (E : Int), .string V2] 33)
        go_wp2_with (at_builtin; refine append_bytes rfl (.tmp 24) (.tmp 29) rfl w.heap.size _ O rfl (HO.out.alloc _) _ _ _ P ?c0 rfl (HPR.out.below hba) ?c1 ?c2 ?c3 ?_)
        case c0 => exact HPL.out.symm
        case c1 => intro h; cases h
        case c2 => omega
        case c3 => have := hba.size; omega
        intro v5 w5 OP HOP hown5 hg5
        have HOB : Hid (∀ k, (Value.slice a8 O.length c8).ownBlock = some k → w.heap.size ≤ k ∧ k < wr.heap.size) := HO.out.lt
        have hb5 : Below w.heap.size w w5 := (HB.out.alloc hbs _).grown hg5 (by have := hba.size; omega) (fun k hk => (HOB.out k hk).1)
        have hl5 : w5.heap[wr.heap.size]? = some (.cells #[.int .i64 (F : Int), .int .i64 (E : Int), .string V2] 33) := by
          rw [hg5.block _ (by simp) (by intro e; have := (HOB.out _ e.symm).2; omega)]
          exact hnew
        have k5 : w5.cell? ⟨bt, ot + i, none⟩ = some (.string T) := HTC.out w5 hb5
        obtain ⟨a5, c5, rfl, h5a, h5b, h5n⟩ := slice_of hown5
        have hol5 : OP.length ≤ 8000 := by rw [HOP.out, List.length_append, HPL.out]; omega
        rw [← HOP.out] at HEQ2
        have HO5 : Hid (w5.ownsRow w.heap.size 5 1 (.slice a5 OP.length c5) OP.length (bv OP)) := hown5
        have HB5 : Hid (Below w.heap.size w w5) := hb5
        have HL5 : Hid (w5.heap[wr.heap.size]? = _) := hl5
        have hs5 := hb5.size
        have hz5 := lltn hl5
        clear hown5 hg5 hl5 hba hnew k0 k1 k2 k3 HOB HO HB hb5
        clear HOP
        have hw4 : IntKind.i64.wrap (4000 - (OP.length : Int)) = 4000 - (OP.length : Int) := by rw [IntKind.wrap_i64]; omega
        by_cases hbig : (4000 : Int) - (OP.length : Int) < (T.size : Int)
        · have HTOT : Hid (4000 < (fillP l (tls ts) b).length) := by
            unfold Hid
            rw [HEQ2.out, List.length_append, List.length_append, ← Lib.size_eq T]
            omega
          clear HEQ2 HO5 HO4 HDD
          go_wp2_with fail
          go_ret2
          exact ⟨HB5.out, .inl ⟨HTOT.out, rfl⟩⟩
        · have hTs : T.size ≤ 4000 := by omega
          have hOT : OP.length + T.size ≤ 4000 := by omega
          go_wp2_with (at_builtin; refine Lib.wpList_append_own_string _ rfl (.tmp 40) (.tmp 44) 22 9 rfl w.heap.size 5 i0 Tryd.underlying22 Tryd.underlying9 hi hz0 hz1 hz2 _ _ _ rfl HO5.out T rfl ?d1 ?d2 ?d3 ?_)
          case d1 => unfold maxLen; omega
          case d2 => omega
          intro v6 w6 hown6 hg6 _
          have HOB5 : Hid (∀ k, (Value.slice a5 OP.length c5).ownBlock = some k → w.heap.size ≤ k ∧ k ≠ wr.heap.size) := fun k hk => by
            refine ⟨(HO5.out.lt k hk).1, fun e => ?_⟩
            rcases HO5.out.2 with ⟨h1, _⟩ | ⟨gg, cap, cur, h1, _, h3, _⟩
            · injection h1 with h1 _ _
              rw [h1] at hk
              cases hk
            · rw [h1] at hk
              injection hk with hk
              have hk' : gg = k := hk
              rw [hk', e, HL5.out] at h3
              injection h3 with h3
              injection h3 with _ h3
              cases h3
          have hb6 : Below w.heap.size w w6 := HB5.out.grown hg6 hs5 (fun k hk => (HOB5.out k hk).1)
          have hl6 : w6.heap[wr.heap.size]? = some (.cells #[.int .i64 (F : Int), .int .i64 (E : Int), .string V2] 33) := by
            rw [hg6.block _ hz5 (by intro e; exact (HOB5.out _ e.symm).2 rfl)]
            exact HL5.out
          obtain ⟨d0, d1, d2, df⟩ := lcells3 hl6
          have R6 : w6.ownsRow w.heap.size 5 1 v6 (OP ++ T.data.toList).length (bv (OP ++ T.data.toList)) := by
            rw [bv_append, List.length_append, ← Lib.size_eq T, ← lstrCells]
            exact hown6
          have HRL : Hid (FillSt w n b l (tls ts) (gk - 1) w6 v6 (i + 1) E (OP ++ T.data.toList)) :=
            ⟨by omega, by omega, hEn, HDD.out, by rw [List.length_append, ← Lib.size_eq T]; exact hOT, HO4.out, hb6, R6, HEQ2.out⟩
          clear hown6 hg6 HOB5 hb6 hl6 R6 HEQ2 HO5 HO4 HDD
          go_wp2_with fail
          go_roundg (gk - 1)
          case measure => omega
          case rel => exact ⟨i + 1, E, OP ++ T.data.toList, by go_num, rfl, HRL⟩
    · have him : i = m := by have := HE.out.1; omega
      have hnl : ¬ (i : Int) < (m : Int) := by omega
      have HEQ : Hid (fillP l (tls ts) b = O ++ b.drop d) := by
        unfold Hid
        rw [HJ.out.eq, him, HE.out.1, List.drop_of_length_le (Nat.le_refl _), fill_end]
      have HB : Hid (Below w.heap.size w wr) := HJ.out.bel
      have HO : Hid (wr.ownsRow w.heap.size 5 1 (.slice a8 O.length c8) O.length (bv O)) := HJ.out.own
      have HBL : Hid (b.length = n) := HE.out.2.2.symm
      have HDL : Hid ((b.drop d).length = n - d) := by unfold Hid; rw [List.length_drop, HBL.out]
      have HRW : Hid (BRow wr q b) := HR.out wr HB.out
      clear HJ
      have hdi : (d : Int) ≤ (n : Int) := by omega
      have hdnn : d ≤ c := by omega
      cases q with
      | none =>
        obtain ⟨h0, hc0⟩ := HQ.out rfl
        have hd0 : d = 0 := by omega
        have hbe : b = [] := List.length_eq_zero_iff.1 (by rw [HBL.out]; exact h0)
        subst h0 hc0 hd0
        have HBE : Hid (b.drop 0 = []) := by unfold Hid; rw [hbe]; rfl
        clear hbe
        go_wp2_with (at_builtin; refine append_bytes rfl (.tmp 49) (.tmp 52) rfl w.heap.size _ O rfl HO.out none 0 0 [] rfl rfl (fun h => absurd rfl h) (fun _ => ⟨rfl, rfl⟩) (by omega) hbs ?_)
        intro v7 w7 OP HOP hown7 hg7
        have hb7 : Below w.heap.size w w7 := HB.out.grown hg7 hbs (fun k hk => (HO.out.lt k hk).1)
        have HEQ3 : Hid (fillP l (tls ts) b = OP) := by unfold Hid; rw [HEQ.out, HOP.out, HBE.out, List.append_nil]
        obtain ⟨a7, c7, rfl, h7a, h7b, h7n⟩ := slice_of hown7
        have hOPl : OP.length ≤ 8000 := by rw [HOP.out]; omega
        have HO7 : Hid (w7.ownsRow w.heap.size 5 1 (.slice a7 OP.length c7) OP.length (bv OP)) := hown7
        have HB7 : Hid (Below w.heap.size w w7) := hb7
        clear hown7 hg7 hb7 HO HB HOP HEQ
        by_cases hbig : 4000 < OP.length
        · have hbig' : (4000 : Int) < (OP.length : Int) := by omega
          go_wp2_with fail
          go_ret2
          show FillPost _ _ _ _
          rw [HEQ3.out]
          exact ⟨HB7.out, .inl ⟨hbig, rfl⟩⟩
        · have hbig' : ¬ (4000 : Int) < (OP.length : Int) := by omega
          go_wp2_with fail
          go_ret2
          show FillPost _ _ _ _
          rw [HEQ3.out]
          exact ⟨HB7.out, .inr ⟨by omega, _, rfl, HO7.out⟩⟩
      | some aq =>
        have HPR : Hid (BRow wr (some (aq.add d)) (b.drop d)) := brow_drop HRW.out d
        clear HRW
        by_cases hdc : d < c
        · go_wp2_with (at_builtin; refine append_bytes rfl (.tmp 49) (.tmp 52) rfl w.heap.size _ O rfl HO.out _ _ _ (b.drop d) HDL.out.symm rfl HPR.out (fun h => by cases h) (by omega) hbs ?_)
          intro v7 w7 OP HOP hown7 hg7
          have hb7 : Below w.heap.size w w7 := HB.out.grown hg7 hbs (fun k hk => (HO.out.lt k hk).1)
          have HEQ3 : Hid (fillP l (tls ts) b = OP) := by unfold Hid; rw [HEQ.out, HOP.out]
          obtain ⟨a7, c7, rfl, h7a, h7b, h7n⟩ := slice_of hown7
          have hOPl : OP.length ≤ 8000 := by rw [HOP.out]; simp only [List.length_append]; have := HDL.out; omega
          have HO7 : Hid (w7.ownsRow w.heap.size 5 1 (.slice a7 OP.length c7) OP.length (bv OP)) := hown7
          have HB7 : Hid (Below w.heap.size w w7) := hb7
          clear hown7 hg7 hb7 HO HB HOP HEQ
          by_cases hbig : 4000 < OP.length
          · have hbig' : (4000 : Int) < (OP.length : Int) := by omega
            go_wp2_with fail
            go_ret2
            show FillPost _ _ _ _
            rw [HEQ3.out]
            exact ⟨HB7.out, .inl ⟨hbig, rfl⟩⟩
          · have hbig' : ¬ (4000 : Int) < (OP.length : Int) := by omega
            go_wp2_with fail
            go_ret2
            show FillPost _ _ _ _
            rw [HEQ3.out]
            exact ⟨HB7.out, .inr ⟨by omega, _, rfl, HO7.out⟩⟩
        · have hdc2 : d = c := by omega
          have hnc2 : n = c := by omega
          have HBE : Hid (b.drop d = []) := by unfold Hid; rw [List.drop_of_length_le (by rw [HBL.out]; omega)]
          subst hdc2
          subst hnc2
          go_wp2_with (at_builtin; refine append_bytes rfl (.tmp 49) (.tmp 52) rfl w.heap.size _ O rfl HO.out _ _ _ [] ?e0 rfl (fun h => absurd rfl h) (fun h => by cases h) ?e1 hbs ?_)
          case e1 => omega
          intro v7 w7 OP HOP hown7 hg7
          have hb7 : Below w.heap.size w w7 := HB.out.grown hg7 hbs (fun k hk => (HO.out.lt k hk).1)
          have HEQ3 : Hid (fillP l (tls ts) b = OP) := by unfold Hid; rw [HEQ.out, HOP.out, HBE.out, List.append_nil]
          obtain ⟨a7, c7, rfl, h7a, h7b, h7n⟩ := slice_of hown7
          have hOPl : OP.length ≤ 8000 := by rw [HOP.out]; omega
          have HO7 : Hid (w7.ownsRow w.heap.size 5 1 (.slice a7 OP.length c7) OP.length (bv OP)) := hown7
          have HB7 : Hid (Below w.heap.size w w7) := hb7
          clear hown7 hg7 hb7 HO HB HOP HEQ
          by_cases hbig : 4000 < OP.length
          · have hbig' : (4000 : Int) < (OP.length : Int) := by omega
            go_wp2_with fail
            go_ret2
            show FillPost _ _ _ _
            rw [HEQ3.out]
            exact ⟨HB7.out, .inl ⟨hbig, rfl⟩⟩
          · have hbig' : ¬ (4000 : Int) < (OP.length : Int) := by omega
            go_wp2_with fail
            go_ret2
            show FillPost _ _ _ _
            rw [HEQ3.out]
            exact ⟨HB7.out, .inr ⟨by omega, _, rfl, HO7.out⟩⟩
end Go.Proofs.YtdlnlepecdcmjaaDoor
