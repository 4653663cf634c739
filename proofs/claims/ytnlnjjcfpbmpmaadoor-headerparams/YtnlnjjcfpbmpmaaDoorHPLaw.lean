/- The law HeaderParams' walk: it answers true, and nothing that was there is changed. Conditions: the texts lie there. -/
import Derived.Test.YtnlnjjcfpbmpmaaDoorHSmall
import Derived.Test.YtnlnjjcfpbmpmaaDoorPlainN
namespace Go.Proofs.YtnlnjjcfpbmpmaaDoor
open Go.RowKit

theorem has_quote (s : ByteArray) (w : World) : Calls Tryd.prog 49 #[.string s, .string ⟨#[34]⟩] w fun e w' => e = .returned (.bool (s.data.toList.contains 34)) ∧ w' = w := by
  refine (Tryd.strings_Contains_one s 34 w).mono ?_
  rintro e w' ⟨rfl, rfl⟩
  exact ⟨by rw [indexByte_mem], rfl⟩

/-- What the loop has come to: the text, the fields that are wanted. -/
structure Put (m : List UInt8) (k : Nat) (S : ByteArray) (fs : List FV) (l : List Seg) : Prop where
  text : S.data.toList = m ++ tx l
  ok : ∀ s ∈ l, s.ok
  fld : fs.map fl = l.map Seg.fld
  few : l.length ≤ k
  size : S.size ≤ 30 + 1000 * k
  len : ∀ f ∈ fs, f.1.size ≤ 30 ∧ f.2.size ≤ 900
theorem Put.next {m : List UInt8} {k : Nat} {S : ByteArray} {fs : List FV} {l : List Seg} (h : Put m k S fs l) : Put m (k + 1) S fs l :=
  ⟨h.text, h.ok, h.fld, by have := h.few; omega, by have := h.size; omega, h.len⟩
theorem Put.many {m : List UInt8} {k : Nat} {S : ByteArray} {fs : List FV} {l : List Seg} (h : Put m k S fs l) : fs.length ≤ k := by
  have := congrArg List.length h.fld
  simp at this
  have := h.few
  omega
theorem Put.tok {m : List UInt8} {k : Nat} {S : ByteArray} {fs : List FV} {l : List Seg} (h : Put m k S fs l) {n v : ByteArray} (hn : tokenS n.data.toList = true) (hv : tokenS v.data.toList = true) :
    Put m (k + 1) (S ++ ((⟨#[32, 59, 32]⟩ : ByteArray) ++ n ++ ⟨#[61, 32]⟩ ++ v)) (fs ++ [(ba (small8 n.data.toList), v)]) (l ++ [.tok n.data.toList v.data.toList]) := by
  have s1 := (token_facts hn).2.1
  have s2 := (token_facts hv).2.1
  rw [← Lib.size_eq] at s1 s2
  have hd : (S ++ ((⟨#[32, 59, 32]⟩ : ByteArray) ++ n ++ ⟨#[61, 32]⟩ ++ v)).data.toList = m ++ tx (l ++ [.tok n.data.toList v.data.toList]) := by
    rw [tx_snoc]
    have := h.text
    simp [Seg.text, Seg.pre, Seg.body, this]
  refine ⟨hd, ?_, ?_, ?_, ?_, ?_⟩
  · intro s hs
    rcases List.mem_append.1 hs with h1 | h1
    · exact h.ok s h1
    · simp at h1; subst h1; exact ⟨hn, hv⟩
  · rw [List.map_append, List.map_append, h.fld]; rfl
  · have := h.few; simp; omega
  · rw [Lib.size_eq, hd, tx_snoc, ← List.append_assoc, ← h.text, List.length_append, ← Lib.size_eq]
    have := h.size
    have e : (Seg.text (.tok n.data.toList v.data.toList)).length = n.size + v.size + 5 := by
      rw [Lib.size_eq, Lib.size_eq]; simp [Seg.text, Seg.pre, Seg.body]; omega
    rw [e]; omega
  · intro f hf
    rcases List.mem_append.1 hf with h1 | h1
    · exact h.len f h1
    · simp at h1; subst h1; simp only [ba_size, small8, Lib.toLowerA, List.length_map]; rw [← Lib.size_eq]; omega
theorem Put.quo {m : List UInt8} {k : Nat} {S : ByteArray} {fs : List FV} {l : List Seg} (h : Put m k S fs l) {n v : ByteArray} (hn : tokenS n.data.toList = true) (hv : valueS v.data.toList = true) (hq : v.data.toList.contains 34 = false) :
    Put m (k + 1) (S ++ ((⟨#[59]⟩ : ByteArray) ++ n ++ ⟨#[32, 61, 34]⟩ ++ v ++ ⟨#[34, 32]⟩)) (fs ++ [(ba (small8 n.data.toList), v)]) (l ++ [.quo n.data.toList v.data.toList 1]) := by
  have s1 := (token_facts hn).2.1
  have s2 := (value_facts hv).1
  rw [← Lib.size_eq] at s1 s2
  have hd : (S ++ ((⟨#[59]⟩ : ByteArray) ++ n ++ ⟨#[32, 61, 34]⟩ ++ v ++ ⟨#[34, 32]⟩)).data.toList = m ++ tx (l ++ [.quo n.data.toList v.data.toList 1]) := by
    rw [tx_snoc]
    have := h.text
    simp [Seg.text, Seg.pre, Seg.body, this, blanks]
  refine ⟨hd, ?_, ?_, ?_, ?_, ?_⟩
  · intro s hs
    rcases List.mem_append.1 hs with h1 | h1
    · exact h.ok s h1
    · simp at h1; subst h1; exact ⟨hn, hq⟩
  · rw [List.map_append, List.map_append, h.fld]; rfl
  · have := h.few; simp; omega
  · rw [Lib.size_eq, hd, tx_snoc, ← List.append_assoc, ← h.text, List.length_append, ← Lib.size_eq]
    have := h.size
    have e : (Seg.text (.quo n.data.toList v.data.toList 1)).length = n.size + v.size + 6 := by
      rw [Lib.size_eq, Lib.size_eq]; simp [Seg.text, Seg.pre, Seg.body, blanks]; omega
    rw [e]; omega
  · intro f hf
    rcases List.mem_append.1 hf with h1 | h1
    · exact h.len f h1
    · simp at h1; subst h1; simp only [ba_size, small8, Lib.toLowerA, List.length_map]; rw [← Lib.size_eq]; omega
/-- What is taken apart at the end. -/
theorem Put.done {m : List UInt8} {k : Nat} {S : ByteArray} {fs : List FV} {l : List Seg} (h : Put m k S fs l) (hm : tokenS m = true) (hk : k ≤ 5) (hv : valueS (dropEnd isSp S.data.toList) = true) : paramsF (dropEnd isSp S.data.toList) = (small8 m, fs.map fl, 0) := by
  obtain ⟨l', h1, h2, h3, h4⟩ := dropEnd_tx m hm l h.ok
  rw [h.text, h1] at hv ⊢
  rw [params_all m hm l' h2 (by rw [h3]; have := h.few; omega) hv, h.fld, h4]

set_option maxHeartbeats 8000000 in
set_option maxRecDepth 100000 in
theorem hplaw_main (m : List UInt8) (p1 p2 : Option Addr) (n1 c1 n2 c2 : Nat) (L1 L2 : List ByteArray) (e1 : n1 = L1.length) (e2 : n2 = L2.length) (w : World) (hm : tokenS m = true)
    (hl1 : SLen L1) (hl2 : SLen L2) (hr1 : SRow w p1 L1) (hr2 : SRow w p2 L2) (hc1 : n1 ≤ c1) :
    Calls Tryd.prog 10 #[.string (ba m), .slice p1 n1 c1, .slice p2 n2 c2] w fun e w' => e = .returned (.bool true) ∧ Below w.heap.size w w' := by
  obtain ⟨i0, hi, hz0, hz1, hz2⟩ := info_parts info_fieldH
  have hml := (token_facts hm).2.1
  have CT : Hid (∀ w, Calls Tryd.prog 33 #[.string (ba m)] w fun e w' => e = .returned (.bool true) ∧ w' = w) := fun w => by rw [← hm]; exact htok_any _ w (by rw [ba_size]; unfold maxLen; omega)
  have HM : Hid (tokenS m = true) := hm
  have EN1 : Hid (n1 = L1.length) := e1
  have EN2 : Hid (n2 = L2.length) := e2
  have HR1 : Hid (SRow w p1 L1) := hr1
  have HR2 : Hid (SRow w p2 L2) := hr2
  have HL1 : Hid (SLen L1) := hl1
  have HL2 : Hid (SLen L2) := hl2
  obtain ⟨M, hMd⟩ : ∃ M, M = min n1 5 := ⟨_, rfl⟩
  have hM1 : M ≤ n1 := by omega
  have hM5 : M ≤ 5 := by omega
  have hmin : min (n1 : Int) 5 = (M : Int) := by omega
  have hMc : (M : Int) ≤ (c1 : Int) := by omega
  clear hm e1 e2 hr1 hr2 hl1 hl2 hMd
  by_cases hL : L1 = []
  · have hM0 : M ≤ 0 := by have := EN1.out; rw [hL] at this; simp at this; omega
    cases p1 with
    | none =>
      go_enter Tryd.func10, Tryd.ntmps10
      go_wp2_with fail
      refine (headed_any _).mono ?_
      rintro e w1 ⟨rfl, hb1⟩
      go_wp2_with fail
      refine (CT.out _).mono ?_
      rintro e w' ⟨rfl, hw'⟩
      have hw'' := hw'.symm
      subst hw''
      clear CT
      go_wp2
      go_loopw [7, 8, 30] (fun sv wv iv wr => ∃ (k : Nat) (S : ByteArray) (fs : List FV) (l : List Seg), k ≤ M ∧ iv = .int .i64 k ∧ sv = .string S ∧ wr.ownsRow w.heap.size 51 2 wv fs.length (fv fs) ∧ Below w.heap.size w wr ∧ Hid (Put m k S fs l)) (fun _ _ iv _ => M - (intOf iv).toNat)
      case atStart => exact ⟨0, ba m, [], [], Nat.zero_le _, rfl, rfl, World.ownsRow_nil _ _ _ _, hb1, ⟨by rw [ba_data]; simp [tx], (by intro s hs; cases hs), rfl, Nat.le_refl _, (by rw [ba_size]; omega), (by intro f hf; cases hf)⟩⟩
      case round =>
        obtain ⟨k, S, fs, l, hk, rfl, rfl, hown, hbel, HP⟩ := hrel
        clear hb1
        have hsz := hbel.size
        by_cases hlt : k < M
        · exact absurd hlt (by omega)
        · obtain rfl : k = M := by omega
          have hPs := HP.out.size
          have hPm := HP.out.many
          obtain ⟨T, hT⟩ : ∃ T, T = ba (dropEnd isSp S.data.toList) := ⟨_, rfl⟩
          have hTs : T.size ≤ S.size := by rw [hT, ba_size]; have := dropEnd_length isSp S.data.toList; rw [← Lib.size_eq] at this; exact this
          have CR : Hid (∀ w, Calls Tryd.prog 51 #[.string S, .string ⟨#[32]⟩] w fun e w' => e = .returned (.string T) ∧ w' = w) := fun w => trimRSp_any S T (by rw [hT]; rfl) w (by omega)
          have KV := fun w => hval_any T w (by unfold maxLen; omega)
          obtain ⟨pw, cw, rfl, hcw1, hcw2, _, _, _, hfr⟩ := owned_fields hown
          have HFR : Hid (FRow wr pw fs) := hfr
          clear hown hfr
          have hTd : T.data.toList = dropEnd isSp S.data.toList := by rw [hT]; rfl
          cases hv : valueS T.data.toList
          · have CV : Hid (∀ w, Calls Tryd.prog 35 #[.string T] w fun e w' => e = .returned (.bool false) ∧ Below w.heap.size w w') := fun w => by rw [← hv]; exact KV w
            clear KV hT hv hTd
            go_wp2_with fail
            refine (CR.out _).mono ?_
            rintro e w' ⟨rfl, hw'⟩
            have hw'' := hw'.symm
            subst hw''
            clear CR
            go_wp2_with fail
            refine (CV.out _).mono ?_
            rintro e w2 ⟨rfl, hb2⟩
            clear CV
            have hbel2 : Below w.heap.size w w2 := hbel.trans (hb2.mono hsz)
            go_wp2
            go_ret
            exact ⟨rfl, hbel2⟩
          · have CV : Hid (∀ w, Calls Tryd.prog 35 #[.string T] w fun e w' => e = .returned (.bool true) ∧ Below w.heap.size w w') := fun w => by rw [← hv]; exact KV w
            have HD : Hid (paramsF T.data.toList = (small8 m, fs.map fl, 0)) := by
              unfold Hid
              rw [hTd]
              exact HP.out.done HM.out hM5 (by rw [← hTd]; exact hv)
            have CP : Hid (∀ w, Calls Tryd.prog 29 #[.string T] w fun e w' => ParamsPost w (small8 m, fs.map fl, 0) e w') := fun w => by rw [← HD.out]; exact hparams_any T.data.toList w (by rw [← Lib.size_eq]; unfold maxLen; omega)
            have CS : Hid (∀ w, Calls Tryd.prog 50 #[.string (ba m)] w fun e w' => e = .returned (.string (ba (small8 m))) ∧ Below w.heap.size w w') := fun w => small1_any m w (by omega)
            clear KV hT hv hTd HD
            go_wp2_with fail
            refine (CR.out _).mono ?_
            rintro e w' ⟨rfl, hw'⟩
            have hw'' := hw'.symm
            subst hw''
            clear CR
            go_wp2_with fail
            refine (CV.out _).mono ?_
            rintro e w2 ⟨rfl, hb2⟩
            clear CV
            go_wp2_with fail
            refine (CP.out _).mono ?_
            rintro e w3 ⟨hb3, p3, c3, fs3, rfl, hfs3, hd1, hd2, hrow3, hlen3⟩
            clear CP
            obtain rfl : fs3 = fs := by
              have a1 := of_fl hfs3
              have b1 := of_fl (rfl : fs.map fl = fs.map fl)
              rw [a1, ← b1]
            have HR3 : Hid (FRow w3 p3 fs3) := hrow3
            have hb23 := hb2.trans (hb3.mono hb2.size)
            have HFR3 : Hid (FRow w3 pw fs3) := HFR.out.below hb23
            have hbel3 : Below w.heap.size w w3 := hbel.trans (hb23.mono hsz)
            clear hb2 hb3 hb23 hrow3 hlen3 hfs3 HFR
            go_wp2_with fail
            refine (CS.out _).mono ?_
            rintro e w4 ⟨rfl, hb4⟩
            clear CS
            go_wp2_with fail
            refine (feq_any p3 pw _ _ _ _ fs3 fs3 rfl rfl _ (by unfold maxLen; omega) (HR3.out.below hb4) (HFR3.out.below hb4)).mono ?_
            rintro e w5 ⟨rfl, hb5⟩
            rw [show eqV fs3 fs3 = true from by unfold eqV; exact decide_eq_true rfl]
            have hb45 := hb4.trans (hb5.mono hb4.size)
            clear hb4 hb5
            go_wp2
            go_ret
            exact ⟨rfl, hbel3.trans (hb45.mono hbel3.size)⟩
    | some x =>
      go_enter Tryd.func10, Tryd.ntmps10
      go_wp2_with fail
      refine (headed_any _).mono ?_
      rintro e w1 ⟨rfl, hb1⟩
      go_wp2_with fail
      refine (CT.out _).mono ?_
      rintro e w' ⟨rfl, hw'⟩
      have hw'' := hw'.symm
      subst hw''
      clear CT
      go_wp2
      go_loopw [7, 8, 30] (fun sv wv iv wr => ∃ (k : Nat) (S : ByteArray) (fs : List FV) (l : List Seg), k ≤ M ∧ iv = .int .i64 k ∧ sv = .string S ∧ wr.ownsRow w.heap.size 51 2 wv fs.length (fv fs) ∧ Below w.heap.size w wr ∧ Hid (Put m k S fs l)) (fun _ _ iv _ => M - (intOf iv).toNat)
      case atStart => exact ⟨0, ba m, [], [], Nat.zero_le _, rfl, rfl, World.ownsRow_nil _ _ _ _, hb1, ⟨by rw [ba_data]; simp [tx], (by intro s hs; cases hs), rfl, Nat.le_refl _, (by rw [ba_size]; omega), (by intro f hf; cases hf)⟩⟩
      case round =>
        obtain ⟨k, S, fs, l, hk, rfl, rfl, hown, hbel, HP⟩ := hrel
        clear hb1
        have hsz := hbel.size
        by_cases hlt : k < M
        · exact absurd hlt (by omega)
        · obtain rfl : k = M := by omega
          have hPs := HP.out.size
          have hPm := HP.out.many
          obtain ⟨T, hT⟩ : ∃ T, T = ba (dropEnd isSp S.data.toList) := ⟨_, rfl⟩
          have hTs : T.size ≤ S.size := by rw [hT, ba_size]; have := dropEnd_length isSp S.data.toList; rw [← Lib.size_eq] at this; exact this
          have CR : Hid (∀ w, Calls Tryd.prog 51 #[.string S, .string ⟨#[32]⟩] w fun e w' => e = .returned (.string T) ∧ w' = w) := fun w => trimRSp_any S T (by rw [hT]; rfl) w (by omega)
          have KV := fun w => hval_any T w (by unfold maxLen; omega)
          obtain ⟨pw, cw, rfl, hcw1, hcw2, _, _, _, hfr⟩ := owned_fields hown
          have HFR : Hid (FRow wr pw fs) := hfr
          clear hown hfr
          have hTd : T.data.toList = dropEnd isSp S.data.toList := by rw [hT]; rfl
          cases hv : valueS T.data.toList
          · have CV : Hid (∀ w, Calls Tryd.prog 35 #[.string T] w fun e w' => e = .returned (.bool false) ∧ Below w.heap.size w w') := fun w => by rw [← hv]; exact KV w
            clear KV hT hv hTd
            go_wp2_with fail
            refine (CR.out _).mono ?_
            rintro e w' ⟨rfl, hw'⟩
            have hw'' := hw'.symm
            subst hw''
            clear CR
            go_wp2_with fail
            refine (CV.out _).mono ?_
            rintro e w2 ⟨rfl, hb2⟩
            clear CV
            have hbel2 : Below w.heap.size w w2 := hbel.trans (hb2.mono hsz)
            go_wp2
            go_ret
            exact ⟨rfl, hbel2⟩
          · have CV : Hid (∀ w, Calls Tryd.prog 35 #[.string T] w fun e w' => e = .returned (.bool true) ∧ Below w.heap.size w w') := fun w => by rw [← hv]; exact KV w
            have HD : Hid (paramsF T.data.toList = (small8 m, fs.map fl, 0)) := by
              unfold Hid
              rw [hTd]
              exact HP.out.done HM.out hM5 (by rw [← hTd]; exact hv)
            have CP : Hid (∀ w, Calls Tryd.prog 29 #[.string T] w fun e w' => ParamsPost w (small8 m, fs.map fl, 0) e w') := fun w => by rw [← HD.out]; exact hparams_any T.data.toList w (by rw [← Lib.size_eq]; unfold maxLen; omega)
            have CS : Hid (∀ w, Calls Tryd.prog 50 #[.string (ba m)] w fun e w' => e = .returned (.string (ba (small8 m))) ∧ Below w.heap.size w w') := fun w => small1_any m w (by omega)
            clear KV hT hv hTd HD
            go_wp2_with fail
            refine (CR.out _).mono ?_
            rintro e w' ⟨rfl, hw'⟩
            have hw'' := hw'.symm
            subst hw''
            clear CR
            go_wp2_with fail
            refine (CV.out _).mono ?_
            rintro e w2 ⟨rfl, hb2⟩
            clear CV
            go_wp2_with fail
            refine (CP.out _).mono ?_
            rintro e w3 ⟨hb3, p3, c3, fs3, rfl, hfs3, hd1, hd2, hrow3, hlen3⟩
            clear CP
            obtain rfl : fs3 = fs := by
              have a1 := of_fl hfs3
              have b1 := of_fl (rfl : fs.map fl = fs.map fl)
              rw [a1, ← b1]
            have HR3 : Hid (FRow w3 p3 fs3) := hrow3
            have hb23 := hb2.trans (hb3.mono hb2.size)
            have HFR3 : Hid (FRow w3 pw fs3) := HFR.out.below hb23
            have hbel3 : Below w.heap.size w w3 := hbel.trans (hb23.mono hsz)
            clear hb2 hb3 hb23 hrow3 hlen3 hfs3 HFR
            go_wp2_with fail
            refine (CS.out _).mono ?_
            rintro e w4 ⟨rfl, hb4⟩
            clear CS
            go_wp2_with fail
            refine (feq_any p3 pw _ _ _ _ fs3 fs3 rfl rfl _ (by unfold maxLen; omega) (HR3.out.below hb4) (HFR3.out.below hb4)).mono ?_
            rintro e w5 ⟨rfl, hb5⟩
            rw [show eqV fs3 fs3 = true from by unfold eqV; exact decide_eq_true rfl]
            have hb45 := hb4.trans (hb5.mono hb4.size)
            clear hb4 hb5
            go_wp2
            go_ret
            exact ⟨rfl, hbel3.trans (hb45.mono hbel3.size)⟩
  · obtain ⟨b, o, rfl, _⟩ := HR1.out hL
    clear hL
    go_enter Tryd.func10, Tryd.ntmps10
    go_wp2_with fail
    refine (headed_any _).mono ?_
    rintro e w1 ⟨rfl, hb1⟩
    go_wp2_with fail
    refine (CT.out _).mono ?_
    rintro e w' ⟨rfl, hw'⟩
    have hw'' := hw'.symm
    subst hw''
    clear CT
    go_wp2
    go_loopw [7, 8, 30] (fun sv wv iv wr => ∃ (k : Nat) (S : ByteArray) (fs : List FV) (l : List Seg), k ≤ M ∧ iv = .int .i64 k ∧ sv = .string S ∧ wr.ownsRow w.heap.size 51 2 wv fs.length (fv fs) ∧ Below w.heap.size w wr ∧ Hid (Put m k S fs l)) (fun _ _ iv _ => M - (intOf iv).toNat)
    case atStart => exact ⟨0, ba m, [], [], Nat.zero_le _, rfl, rfl, World.ownsRow_nil _ _ _ _, hb1, ⟨by rw [ba_data]; simp [tx], (by intro s hs; cases hs), rfl, Nat.le_refl _, (by rw [ba_size]; omega), (by intro f hf; cases hf)⟩⟩
    case round =>
      obtain ⟨k, S, fs, l, hk, rfl, rfl, hown, hbel, HP⟩ := hrel
      clear hb1
      have hsz := hbel.size
      by_cases hlt : k < M
      · have hkl : k < L1.length := by rw [← EN1.out]; omega
        obtain ⟨b', o', he', hcell⟩ := HR1.out (fun e => by rw [e] at hkl; simp at hkl)
        obtain ⟨rfl, rfl⟩ : b = b' ∧ o = o' := by injection he' with he'; injection he' with h1 h2; exact ⟨h1, h2⟩
        have hN1 : wr.cell? ⟨b, o + k, none⟩ = some (.string (L1.getD k default)) := (hbel.cell (p := ⟨b, o + k, none⟩) (World.block_lt_of_cell? w _ (hcell k hkl))).trans (hcell k hkl)
        have hNs := HL1.out _ (sv_mem L1 k hkl)
        clear he' hcell
        generalize L1.getD k default = N at *
        have KT := fun w => htok_any N w hNs
        have hPs := HP.out.size
        have hPm := HP.out.many
        cases hnt : tokenS N.data.toList
        · have CN : Hid (∀ w, Calls Tryd.prog 33 #[.string N] w fun e w' => e = .returned (.bool false) ∧ w' = w) := fun w => by rw [← hnt]; exact KT w
          clear KT hnt
          go_wp2_with fail
          refine (CN.out _).mono ?_
          rintro e w' ⟨rfl, hw'⟩
          have hw'' := hw'.symm
          subst hw''
          go_wp2
          go_roundw
          case rel => exact ⟨k + 1, S, fs, l, by omega, by go_num, rfl, hown, hbel, HP.out.next⟩
          case measure => simp [intOf]; omega
        · have CN : Hid (∀ w, Calls Tryd.prog 33 #[.string N] w fun e w' => e = .returned (.bool true) ∧ w' = w) := fun w => by rw [← hnt]; exact KT w
          have hN30 := (token_facts hnt).2.1
          rw [← Lib.size_eq] at hN30
          clear KT
          by_cases hkv : k < n2
          · have hkl2 : k < L2.length := by rw [← EN2.out]; exact hkv
            have hkv' : ¬ (n2 : Int) ≤ (k : Int) := by omega
            have hkv2 : decide ((n2 : Int) ≤ (k : Int)) = false := by simp; omega
            obtain ⟨b2, o2, hp2, hcell2⟩ := HR2.out (fun e => by rw [e] at hkl2; simp at hkl2)
            have hV1 : wr.cell? ⟨b2, o2 + k, none⟩ = some (.string (L2.getD k default)) := (hbel.cell (p := ⟨b2, o2 + k, none⟩) (World.block_lt_of_cell? w _ (hcell2 k hkl2))).trans (hcell2 k hkl2)
            have hVs := HL2.out _ (sv_mem L2 k hkl2)
            clear hcell2
            subst hp2
            generalize L2.getD k default = V at *
            have KV := fun w => htok_any V w hVs
            have KW := fun w => hval_any V w hVs
            have KQ := has_quote V
            have CS : Hid (∀ w, Calls Tryd.prog 50 #[.string N] w fun e w' => e = .returned (.string (ba (small8 N.data.toList))) ∧ Below w.heap.size w w') := fun w => small1_any N.data.toList w (by rw [← Lib.size_eq]; omega)
            cases hvt : tokenS V.data.toList
            · have CV : Hid (∀ w, Calls Tryd.prog 33 #[.string V] w fun e w' => e = .returned (.bool false) ∧ w' = w) := fun w => by rw [← hvt]; exact KV w
              clear KV
              cases hvv : valueS V.data.toList
              · have CW : Hid (∀ w, Calls Tryd.prog 35 #[.string V] w fun e w' => e = .returned (.bool false) ∧ Below w.heap.size w w') := fun w => by rw [← hvv]; exact KW w
                clear KW KQ CS hvv hvt hnt
                go_wp2_with fail
                refine (CN.out _).mono ?_
                rintro e w' ⟨rfl, hw'⟩
                have hw'' := hw'.symm
                subst hw''
                clear CN
                go_wp2_with fail
                refine (CV.out _).mono ?_
                rintro e w' ⟨rfl, hw'⟩
                have hw'' := hw'.symm
                subst hw''
                clear CV
                go_wp2_with fail
                refine (CW.out _).mono ?_
                rintro e w2 ⟨rfl, hb2⟩
                clear CW
                have hbel2 : Below w.heap.size w w2 := hbel.trans (hb2.mono hsz)
                have hown2 := ownsRow_below hown hb2
                clear hb2
                go_wp2
                go_roundw
                case rel => exact ⟨k + 1, S, fs, l, by omega, by go_num, rfl, hown2, hbel2, HP.out.next⟩
                case measure => simp [intOf]; omega
              · have CW : Hid (∀ w, Calls Tryd.prog 35 #[.string V] w fun e w' => e = .returned (.bool true) ∧ Below w.heap.size w w') := fun w => by rw [← hvv]; exact KW w
                have hV900 := (value_facts hvv).1
                rw [← Lib.size_eq] at hV900
                clear KW
                cases hvq : V.data.toList.contains 34
                · have CQ : Hid (∀ w, Calls Tryd.prog 49 #[.string V, .string ⟨#[34]⟩] w fun e w' => e = .returned (.bool false) ∧ w' = w) := fun w => by rw [← hvq]; exact KQ w
                  have HP2 : Hid (Put m (k + 1) _ _ _) := HP.out.quo hnt hvv hvq
                  generalize ba (small8 N.data.toList) = SN at *
                  clear KQ hvv hvt hnt hvq
                  go_wp2_with fail
                  refine (CN.out _).mono ?_
                  rintro e w' ⟨rfl, hw'⟩
                  have hw'' := hw'.symm
                  subst hw''
                  clear CN
                  go_wp2_with fail
                  refine (CV.out _).mono ?_
                  rintro e w' ⟨rfl, hw'⟩
                  have hw'' := hw'.symm
                  subst hw''
                  clear CV
                  go_wp2_with fail
                  refine (CW.out _).mono ?_
                  rintro e w2 ⟨rfl, hb2⟩
                  clear CW
                  have hbel2 : Below w.heap.size w w2 := hbel.trans (hb2.mono hsz)
                  have hown2 := ownsRow_below hown hb2
                  have hsz2 := hbel2.size
                  clear hb2
                  go_wp2_with fail
                  refine (CQ.out _).mono ?_
                  rintro e w' ⟨rfl, hw'⟩
                  have hw'' := hw'.symm
                  subst hw''
                  clear CQ
                  obtain ⟨S9, hS9⟩ : ∃ S9 : ByteArray, (S ++ ((⟨#[59]⟩ : ByteArray) ++ N ++ ⟨#[32, 61, 34]⟩ ++ V ++ ⟨#[34, 32]⟩)) = S9 := ⟨_, rfl⟩
                  rw [hS9] at HP2
                  go_wp2_with fail
                  refine (CS.out _).mono ?_
                  rintro e w3 ⟨rfl, hb3⟩
                  clear CS
                  have hbw3 : Below w.heap.size w w3 := hbel2.trans (hb3.mono hsz2)
                  have hown3 := ownsRow_below hown2 hb3
                  have hs3 := hbw3.size
                  clear hb3
                  go_wp2_with (at_builtin; refine wpList_append_own _ rfl (.tmp 74) (.tmp 79) 40 rfl w.heap.size 51 i0 (.agg #[.string ⟨#[]⟩, .string ⟨#[]⟩]) 2 32 Tryd.underlying40 hi hz0 hz1 hz2 rfl (by decide) _ _ _ rfl (hown3.alloc _) ⟨w3.heap.size, 0, none⟩ 1 1 [.string SN, .string V] rfl rfl ?c1 ?c2 ?c3 ?c4 ?c5 ?_)
                  case c1 => exact cell_pair _ _ _ _
                  case c2 => intro u hu; simp at hu; rcases hu with rfl | rfl <;> rfl
                  case c3 => unfold maxLen; omega
                  case c4 => omega
                  case c5 => simp; omega
                  intro v9 w9 hown9 hg9 _
                  have RB : Below w.heap.size w w9 := (hbw3.alloc hs3 _).grown hg9 (by simp; omega) (fun j hj => (hown3.lt j hj).1)
                  have R9 : w9.ownsRow w.heap.size 51 2 v9 (fs ++ [(SN, V)]).length (fv (fs ++ [(SN, V)])) := by rw [fv_snoc, List.length_append]; exact hown9
                  clear hg9 hown9 hown3
                  go_wp2
                  go_roundw
                  case rel => exact ⟨k + 1, S9, _, _, by omega, by go_num, rfl, R9, RB, HP2⟩
                  case measure => simp [intOf]; omega
                · have CQ : Hid (∀ w, Calls Tryd.prog 49 #[.string V, .string ⟨#[34]⟩] w fun e w' => e = .returned (.bool true) ∧ w' = w) := fun w => by rw [← hvq]; exact KQ w
                  clear KQ hvv hvt hnt hvq CS
                  go_wp2_with fail
                  refine (CN.out _).mono ?_
                  rintro e w' ⟨rfl, hw'⟩
                  have hw'' := hw'.symm
                  subst hw''
                  clear CN
                  go_wp2_with fail
                  refine (CV.out _).mono ?_
                  rintro e w' ⟨rfl, hw'⟩
                  have hw'' := hw'.symm
                  subst hw''
                  clear CV
                  go_wp2_with fail
                  refine (CW.out _).mono ?_
                  rintro e w2 ⟨rfl, hb2⟩
                  clear CW
                  have hbel2 : Below w.heap.size w w2 := hbel.trans (hb2.mono hsz)
                  have hown2 := ownsRow_below hown hb2
                  clear hb2
                  go_wp2_with fail
                  refine (CQ.out _).mono ?_
                  rintro e w' ⟨rfl, hw'⟩
                  have hw'' := hw'.symm
                  subst hw''
                  clear CQ
                  go_wp2
                  go_roundw
                  case rel => exact ⟨k + 1, S, fs, l, by omega, by go_num, rfl, hown2, hbel2, HP.out.next⟩
                  case measure => simp [intOf]; omega
            · have CV : Hid (∀ w, Calls Tryd.prog 33 #[.string V] w fun e w' => e = .returned (.bool true) ∧ w' = w) := fun w => by rw [← hvt]; exact KV w
              have HP2 : Hid (Put m (k + 1) _ _ _) := HP.out.tok hnt hvt
              have hV30 := (token_facts hvt).2.1
              rw [← Lib.size_eq] at hV30
              generalize ba (small8 N.data.toList) = SN at *
              clear KV KW KQ hvt hnt
              go_wp2_with fail
              refine (CN.out _).mono ?_
              rintro e w' ⟨rfl, hw'⟩
              have hw'' := hw'.symm
              subst hw''
              clear CN
              go_wp2_with fail
              refine (CV.out _).mono ?_
              rintro e w' ⟨rfl, hw'⟩
              have hw'' := hw'.symm
              subst hw''
              clear CV
              obtain ⟨S9, hS9⟩ : ∃ S9 : ByteArray, (S ++ ((⟨#[32, 59, 32]⟩ : ByteArray) ++ N ++ ⟨#[61, 32]⟩ ++ V)) = S9 := ⟨_, rfl⟩
              rw [hS9] at HP2
              go_wp2_with fail
              refine (CS.out _).mono ?_
              rintro e w3 ⟨rfl, hb3⟩
              clear CS
              have hbw3 : Below w.heap.size w w3 := hbel.trans (hb3.mono hsz)
              have hown3 := ownsRow_below hown hb3
              have hs3 := hbw3.size
              clear hb3
              go_wp2_with (at_builtin; refine wpList_append_own _ rfl (.tmp 74) (.tmp 79) 40 rfl w.heap.size 51 i0 (.agg #[.string ⟨#[]⟩, .string ⟨#[]⟩]) 2 32 Tryd.underlying40 hi hz0 hz1 hz2 rfl (by decide) _ _ _ rfl (hown3.alloc _) ⟨w3.heap.size, 0, none⟩ 1 1 [.string SN, .string V] rfl rfl ?c1 ?c2 ?c3 ?c4 ?c5 ?_)
              case c1 => exact cell_pair _ _ _ _
              case c2 => intro u hu; simp at hu; rcases hu with rfl | rfl <;> rfl
              case c3 => unfold maxLen; omega
              case c4 => omega
              case c5 => simp; omega
              intro v9 w9 hown9 hg9 _
              have RB : Below w.heap.size w w9 := (hbw3.alloc hs3 _).grown hg9 (by simp; omega) (fun j hj => (hown3.lt j hj).1)
              have R9 : w9.ownsRow w.heap.size 51 2 v9 (fs ++ [(SN, V)]).length (fv (fs ++ [(SN, V)])) := by rw [fv_snoc, List.length_append]; exact hown9
              clear hg9 hown9 hown3
              go_wp2
              go_roundw
              case rel => exact ⟨k + 1, S9, _, _, by omega, by go_num, rfl, R9, RB, HP2⟩
              case measure => simp [intOf]; omega
          · have hkv' : (n2 : Int) ≤ (k : Int) := by omega
            clear hnt
            go_wp2_with fail
            refine (CN.out _).mono ?_
            rintro e w' ⟨rfl, hw'⟩
            have hw'' := hw'.symm
            subst hw''
            clear CN
            go_wp2
            go_roundw
            case rel => exact ⟨k + 1, S, fs, l, by omega, by go_num, rfl, hown, hbel, HP.out.next⟩
            case measure => simp [intOf]; omega
      · obtain rfl : k = M := by omega
        have hPs := HP.out.size
        have hPm := HP.out.many
        obtain ⟨T, hT⟩ : ∃ T, T = ba (dropEnd isSp S.data.toList) := ⟨_, rfl⟩
        have hTs : T.size ≤ S.size := by rw [hT, ba_size]; have := dropEnd_length isSp S.data.toList; rw [← Lib.size_eq] at this; exact this
        have CR : Hid (∀ w, Calls Tryd.prog 51 #[.string S, .string ⟨#[32]⟩] w fun e w' => e = .returned (.string T) ∧ w' = w) := fun w => trimRSp_any S T (by rw [hT]; rfl) w (by omega)
        have KV := fun w => hval_any T w (by unfold maxLen; omega)
        obtain ⟨pw, cw, rfl, hcw1, hcw2, _, _, _, hfr⟩ := owned_fields hown
        have HFR : Hid (FRow wr pw fs) := hfr
        clear hown hfr
        have hTd : T.data.toList = dropEnd isSp S.data.toList := by rw [hT]; rfl
        cases hv : valueS T.data.toList
        · have CV : Hid (∀ w, Calls Tryd.prog 35 #[.string T] w fun e w' => e = .returned (.bool false) ∧ Below w.heap.size w w') := fun w => by rw [← hv]; exact KV w
          clear KV hT hv hTd
          go_wp2_with fail
          refine (CR.out _).mono ?_
          rintro e w' ⟨rfl, hw'⟩
          have hw'' := hw'.symm
          subst hw''
          clear CR
          go_wp2_with fail
          refine (CV.out _).mono ?_
          rintro e w2 ⟨rfl, hb2⟩
          clear CV
          have hbel2 : Below w.heap.size w w2 := hbel.trans (hb2.mono hsz)
          go_wp2
          go_ret
          exact ⟨rfl, hbel2⟩
        · have CV : Hid (∀ w, Calls Tryd.prog 35 #[.string T] w fun e w' => e = .returned (.bool true) ∧ Below w.heap.size w w') := fun w => by rw [← hv]; exact KV w
          have HD : Hid (paramsF T.data.toList = (small8 m, fs.map fl, 0)) := by
            unfold Hid
            rw [hTd]
            exact HP.out.done HM.out hM5 (by rw [← hTd]; exact hv)
          have CP : Hid (∀ w, Calls Tryd.prog 29 #[.string T] w fun e w' => ParamsPost w (small8 m, fs.map fl, 0) e w') := fun w => by rw [← HD.out]; exact hparams_any T.data.toList w (by rw [← Lib.size_eq]; unfold maxLen; omega)
          have CS : Hid (∀ w, Calls Tryd.prog 50 #[.string (ba m)] w fun e w' => e = .returned (.string (ba (small8 m))) ∧ Below w.heap.size w w') := fun w => small1_any m w (by omega)
          clear KV hT hv hTd HD
          go_wp2_with fail
          refine (CR.out _).mono ?_
          rintro e w' ⟨rfl, hw'⟩
          have hw'' := hw'.symm
          subst hw''
          clear CR
          go_wp2_with fail
          refine (CV.out _).mono ?_
          rintro e w2 ⟨rfl, hb2⟩
          clear CV
          go_wp2_with fail
          refine (CP.out _).mono ?_
          rintro e w3 ⟨hb3, p3, c3, fs3, rfl, hfs3, hd1, hd2, hrow3, hlen3⟩
          clear CP
          obtain rfl : fs3 = fs := by
            have a1 := of_fl hfs3
            have b1 := of_fl (rfl : fs.map fl = fs.map fl)
            rw [a1, ← b1]
          have HR3 : Hid (FRow w3 p3 fs3) := hrow3
          have hb23 := hb2.trans (hb3.mono hb2.size)
          have HFR3 : Hid (FRow w3 pw fs3) := HFR.out.below hb23
          have hbel3 : Below w.heap.size w w3 := hbel.trans (hb23.mono hsz)
          clear hb2 hb3 hb23 hrow3 hlen3 hfs3 HFR
          go_wp2_with fail
          refine (CS.out _).mono ?_
          rintro e w4 ⟨rfl, hb4⟩
          clear CS
          go_wp2_with fail
          refine (feq_any p3 pw _ _ _ _ fs3 fs3 rfl rfl _ (by unfold maxLen; omega) (HR3.out.below hb4) (HFR3.out.below hb4)).mono ?_
          rintro e w5 ⟨rfl, hb5⟩
          rw [show eqV fs3 fs3 = true from by unfold eqV; exact decide_eq_true rfl]
          have hb45 := hb4.trans (hb5.mono hb4.size)
          clear hb4 hb5
          go_wp2
          go_ret
          exact ⟨rfl, hbel3.trans (hb45.mono hbel3.size)⟩

/-- HeaderParams. -/
theorem hplaw_any (s : ByteArray) (p1 p2 : Option Addr) (n1 c1 n2 c2 : Nat) (L1 L2 : List ByteArray) (e1 : n1 = L1.length) (e2 : n2 = L2.length) (w : World) (hs : s.size ≤ maxLen)
    (hl1 : SLen L1) (hl2 : SLen L2) (hr1 : SRow w p1 L1) (hr2 : SRow w p2 L2) (hc1 : n1 ≤ c1) :
    Calls Tryd.prog 10 #[.string s, .slice p1 n1 c1, .slice p2 n2 c2] w fun e w' => e = .returned (.bool true) ∧ Below w.heap.size w w' := by
  cases hm : tokenS s.data.toList
  · have CT : Hid (∀ w, Calls Tryd.prog 33 #[.string s] w fun e w' => e = .returned (.bool false) ∧ w' = w) := fun w => by rw [← hm]; exact htok_any _ w hs
    clear hm hl1 hl2 hr1 hr2 e1 e2
    go_enter Tryd.func10, Tryd.ntmps10
    go_wp2_with fail
    refine (headed_any _).mono ?_
    rintro e w1 ⟨rfl, hb1⟩
    go_wp2_with fail
    refine (CT.out _).mono ?_
    rintro e w' ⟨rfl, hw'⟩
    have hw'' := hw'.symm
    subst hw''
    clear CT
    go_wp2_with fail
    refine (headed_any _).mono ?_
    rintro e w2 ⟨rfl, hb2⟩
    have hb12 := hb1.trans (hb2.mono hb1.size)
    clear hb1 hb2
    go_wp2
    go_ret
    exact ⟨rfl, hb12⟩
  · exact hplaw_main s.data.toList p1 p2 n1 c1 n2 c2 L1 L2 e1 e2 w hm hl1 hl2 hr1 hr2 hc1
end Go.Proofs.YtnlnjjcfpbmpmaaDoor
