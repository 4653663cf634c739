
import Derived.Test.YtlndhdimamnnlaaGreatDoorXmimesays44
import Derived.Test.YtlndhdimamnnlaaGreatDoorXmimesays48
import Derived.Lib.LaidCase
import Derived.Lib.LaidU8T
import Derived.Lib.LaidTab
import Derived.LaidByTextLater
import Derived.Lib.SmallJoins
namespace Go.Proofs.YtlndhdimamnnlaaGreatDoor
open Go.RowKit
def rtM (r : Nat × PT) : PT := if r.1 = 0 then r.2 else pt0
theorem held0 (w : World) (F : Nat) : PHeld w F pt0 none 0 none 0 :=
 ⟨⟨by decide, by decide, by decide, by decide, by decide, by decide, by decide, by decide⟩, ⟨by decide, by decide, fun _ => rfl⟩, fun h => absurd rfl h, ⟨by decide, by decide, fun _ => rfl⟩, KAt.nil _ _ _⟩
theorem readM_held {w w' : World} {r : Nat × PT} {e : Ending} (h : ReadMPost w r e w') : Below w.heap.size w w' ∧ ∃ ty cs id loc how pb nb cb pk nk ck, e = .returned (.tuple #[.agg #[.string ty, .string cs, .string id, .string loc, .int .i64 how, .slice pb nb cb, .slice pk nk ck], .int .i64 (r.1 : Int)]) ∧ ∃ RT : PT, RT = rtM r ∧ RT.ty = ty ∧ RT.cs = cs ∧ RT.id = id ∧ RT.loc = loc ∧ RT.how = how ∧ RT.body.length = nb ∧ RT.kids.length = nk ∧ PHeld w' 3 RT pb cb pk ck := by
 obtain ⟨hb, hok, hno⟩ := h
 refine ⟨hb, ?_⟩
 by_cases h0 : r.1 = 0
 ·obtain ⟨pb, cb, pk, ck, he, hf⟩ := hok h0
  have hr : rtM r = r.2 := by unfold rtM; rw [if_pos h0]
  exact ⟨_, _, _, _, _, pb, _, cb, pk, _, ck, by rw [he, h0]; rfl, r.2, hr.symm, rfl, rfl, rfl, rfl, rfl, rfl, rfl, hf.held⟩
 ·have hr : rtM r = pt0 := by unfold rtM; rw [if_neg h0]
  exact ⟨_, _, _, _, _, none, _, 0, none, _, 0, hno h0, pt0, hr.symm, rfl, rfl, rfl, rfl, rfl, rfl, rfl, held0 _ _⟩
theorem rsame_self {RT : PT} {ty cs id loc : ByteArray} {how : Int} {pb pb2 : Option Addr} {nb cb cb2 : Nat} {pk pk2 : Option Addr} {nk ck ck2 F F2 : Nat} {w : World} (h1 : RT.ty = ty) (h2 : RT.cs = cs) (h3 : RT.id = id) (h4 : RT.loc = loc) (h5 : RT.how = how) (h6 : RT.body.length = nb) (h7 : RT.kids.length = nk) (hp : PHeld w F RT pb cb pk ck) (hq : PHeld w F2 RT pb2 cb2 pk2 ck2) :
  Calls Tryz.prog 11 #[.agg #[.string ty, .string cs, .string id, .string loc, .int .i64 how, .slice pb nb cb, .slice pk nk ck], .agg #[.string ty, .string cs, .string id, .string loc, .int .i64 how, .slice pb2 nb cb2, .slice pk2 nk ck2]] w fun e w' => e = .returned (.bool true) ∧ Below w.heap.size w w' := by
 subst h1 h2 h3 h4 h5 h6 h7
 refine (rsame_any F RT RT pb pb2 cb pk pk2 ck cb2 ck2 F2 w hp hq).mono ?_
 rintro e w' ⟨b, rfl, hiff, hb⟩
 have hbt : b = true := hiff.2 rfl
 subst hbt
 exact ⟨rfl, hb⟩
theorem split_len {w w' : World} {r : List (List UInt8) × Nat} {v : Value} (h1 : r.2 ≠ 0 → v = .slice none 0 0) (h2 : r.2 = 0 → ∃ Y : List SY, Y.map (·.1) = r.1 ∧ w'.ownsRow w.heap.size 22 1 v r.1.length (syv Y) ∧ SOwn w' w.heap.size Y) : ∃ p n c, v = .slice p n c := by
 by_cases h0 : r.2 = 0
 ·obtain ⟨Y, _, ho, _⟩ := h2 h0
  obtain ⟨p, c, e⟩ := owned_slice ho
  exact ⟨p, _, c, e⟩
 ·exact ⟨_, _, _, h1 h0⟩
theorem splitS_count (b border : List UInt8) : (splitS b border).1.length ≤ 1000000 := by
 have key : ∀ (f : Nat) (rest : List UInt8) (cur : Option (List UInt8)) (out l : List (List UInt8)), splitGo border f rest cur out = some l → l.length ≤ out.length + f + 1 := by
  intro f
  induction f with
  | zero => intro rest cur out l h; rw [splitGo] at h; cases h
  | succ f ih =>
   intro rest cur out l h
   have hcl : (closed cur out).length ≤ out.length + 1 := by cases cur <;> simp [closed]
   rw [splitGo] at h
   split at h
   ·cases h
   ·split at h
    ·obtain rfl := Option.some.inj h
     omega
    ·split at h
     ·have := ih _ _ _ l h; omega
     ·have := ih _ _ _ l h; omega
 unfold splitS
 split
 ·simp
 ·split
  ·simp
  ·cases h : splitGo border (b.length + 1) b none [] with
   | none => simp
   | some l =>
    have := key _ _ _ _ l h
    simp only [List.length_nil] at this
    show l.length ≤ _
    omega
set_option maxHeartbeats 16000000 in
set_option maxRecDepth 100000 in
theorem msays_any (p : PT) (pb : Option Addr) (cb : Nat) (pk : Option Addr) (ck F : Nat) (q0 : Option Addr) (n c : Nat) (L : List UInt8) (en : n = L.length) (B : ByteArray) (w : World) (hE : SEnv w) (hH : PHeld w F p pb cb pk ck) (hc : n ≤ c) (hcm : c ≤ maxLen) (hq : q0 = none → n = 0 ∧ c = 0) (hr : BRow w q0 L) (hB : B.size ≤ maxLen) :
  Calls Tryz.prog 3 #[.agg #[.string p.ty, .string p.cs, .string p.id, .string p.loc, .int .i64 p.how, .slice pb p.body.length cb, .slice pk p.kids.length ck], .slice q0 n c, .string B] w fun e w' => e = .returned (.bool true) ∧ Below w.heap.size w w' := by
 have HE : Hid (∀ W, Below w.heap.size w W → SEnv W) := fun W hb => hE.below hb
 have HH : Hid (∀ W, Below w.heap.size w W → PHeld W F p pb cb pk ck) := fun W hb => hH.below hb
 obtain ⟨eT, T, hWT⟩ : ∃ a b, writeM p = (a, b) := ⟨_, _, rfl⟩
 obtain ⟨eC, hC⟩ : ∃ e, (placesP p).1 = e := ⟨_, rfl⟩
 have CW : Hid (∀ W, Below w.heap.size w W → Calls Tryz.prog 5 #[.agg #[.string p.ty, .string p.cs, .string p.id, .string p.loc, .int .i64 p.how, .slice pb p.body.length cb, .slice pk p.kids.length ck]] W fun e w' => WritePost W (eT, T) e w') := fun W hb => by
  have := write_mime p pb cb pk ck F W (HE.out W hb).1.2 (HH.out W hb)
  rw [hWT] at this
  exact this
 have CK : Hid (∀ W, Below w.heap.size w W → Calls Tryz.prog 8 #[.agg #[.string p.ty, .string p.cs, .string p.id, .string p.loc, .int .i64 p.how, .slice pb p.body.length cb, .slice pk p.kids.length ck]] W fun e w' => e = .returned (.int .i64 (eC : Int)) ∧ Below W.heap.size W w') := fun W hb => by
  have := rcheck_any F p pb cb pk ck W (HH.out W hb) (fun w' hb' => ((HE.out W hb).1.1 w' hb').2.2)
  rw [checkP_places, hC] at this
  exact this
 have CT : Hid (eC = 0 → ∀ W, Below w.heap.size w W → Calls Tryz.prog 9 #[.agg #[.string p.ty, .string p.cs, .string p.id, .string p.loc, .int .i64 p.how, .slice pb p.body.length cb, .slice pk p.kids.length ck]] W fun e w' => e = .returned (.string (ba (textP 3 p))) ∧ Below W.heap.size W w') := fun h0 W hb => by
  obtain ⟨g1, g2⟩ := good_places (by rw [hC]; exact h0)
  exact rtext_any 3 F p pb cb pk ck W (HE.out W hb) (HH.out W hb) g1 g2
 have HWf : Hid ((eC ≠ 0 → eT = eC ∧ T = []) ∧ (eC = 0 → (ba (textP 3 p)).size ≤ 240000 ∧ (40000 < (ba (textP 3 p)).size → eT = 2 ∧ T = []) ∧ (¬ 40000 < (ba (textP 3 p)).size → eT = 0 ∧ ba T = ba (textP 3 p)))) := by
  have hw : writeM p = if (placesP p).1 ≠ 0 then ((placesP p).1, []) else if 40000 < (textP 3 p).length then (2, []) else (0, textP 3 p) := rfl
  rw [hWT, hC] at hw
  refine ⟨fun h => ?_, fun h => ?_⟩
  ·rw [if_pos h] at hw
   obtain ⟨rfl, rfl⟩ := Prod.mk.inj hw
   exact ⟨rfl, rfl⟩
  ·rw [if_neg (by simpa using h)] at hw
   obtain ⟨g1, g2⟩ := good_places (by rw [hC]; exact h)
   have htl := text_len 3 p g1 g2
   rw [ba_size]
   refine ⟨by omega, fun h4 => ?_, fun h4 => ?_⟩
   ·rw [if_pos h4] at hw
    obtain ⟨rfl, rfl⟩ := Prod.mk.inj hw
    exact ⟨rfl, rfl⟩
   ·rw [if_neg h4] at hw
    obtain ⟨rfl, rfl⟩ := Prod.mk.inj hw
    exact ⟨rfl, rfl⟩
 have CS : Hid (∀ W, Below w.heap.size w W → Calls Tryz.prog 6 #[.slice q0 n c, .string B] W fun e w' => SplitPost W (splitS L B.data.toList) e w') := fun W hb => split_any q0 n c L en B W hc (hr.under hb)
 have CR : Hid (∀ W, Below w.heap.size w W → Calls Tryz.prog 7 #[.slice q0 n c] W fun e w' => ReadMPost W (readM L) e w') := fun W hb => mReadM_any q0 n c L en W (HE.out W hb).1.1 hc hcm hq (hr.under hb)
 have CB : Hid (∀ W, Below w.heap.size w W → n ≤ 40000 → Calls Tryz.prog 12 #[.slice q0 n c] W fun e w' => ReadMPost W (readM L) e w') := fun W hb h => rbundle_any q0 n c L en W (HE.out W hb).1 h hc hcm hq (hr.under hb)
 have CP : Hid (∀ W, Below w.heap.size w W → n ≤ 40000 → 1 ≤ B.size → B.size ≤ 60 → Calls Tryz.prog 13 #[.slice q0 n c, .string B] W fun e w' => SplitPostR W (splitS L B.data.toList) e w') := fun W hb h h1 h2 => by
  obtain ⟨mx, hmx⟩ := ((HE.out W hb).1.2 W (Below.refl _ _)).2.1
  exact rsplit_any q0 n c L en B h1 h2 mx W h hq (hr.under hb) hmx
 have CU : Hid (∀ W, Below w.heap.size w W → Calls Tryz.prog 10 #[] W fun e w' => e = .returned (.bool true) ∧ Below W.heap.size W w') := fun W hb => bundled_any W (HE.out W hb).1
 have HSp : Hid ((40000 < n → splitS L B.data.toList = ([], 2) ∧ readM L = (2, pt0)) ∧ (¬ 40000 < n → B.size = 0 ∨ 60 < B.size → splitS L B.data.toList = ([], 3))) := by
  refine ⟨fun h => ⟨?_, ?_⟩, fun h h2 => ?_⟩
  ·unfold splitS; rw [if_pos (by omega)]
  ·unfold readM; rw [if_pos (by omega)]
  ·unfold splitS
   rw [if_neg (by omega), if_pos]
   rcases h2 with h2 | h2
   ·exact .inl (List.length_eq_zero_iff.1 (by rw [← Lib.size_eq]; exact h2))
   ·exact .inr (by rw [← Lib.size_eq]; exact h2)
 have HSc : Hid ((splitS L B.data.toList).1.length ≤ 1000000) := splitS_count _ _
 obtain ⟨SR, hSR⟩ : ∃ SR, splitS L B.data.toList = SR := ⟨_, rfl⟩
 obtain ⟨MR, hMR⟩ : ∃ MR, readM L = MR := ⟨_, rfl⟩
 rw [hSR] at CS CP HSp HSc
 rw [hMR] at CR CB HSp
 obtain ⟨SL, SE⟩ := SR
 obtain ⟨RT, hRT⟩ : ∃ RT, RT = rtM MR := ⟨_, rfl⟩
 have HRT0 : Hid (40000 < n → RT = pt0) := fun h => by rw [hRT, (HSp.out.1 h).2]; rfl
 obtain ⟨RE, hRE⟩ : ∃ RE, MR.1 = RE := ⟨_, rfl⟩
 have HRE : Hid (40000 < n → RE = 2) := fun h => by rw [← hRE, (HSp.out.1 h).2]
 unfold maxLen at hB
 obtain ⟨W1, hW1⟩ : ∃ W, W = w.alloc (.cells #[.string p.ty, .string p.cs, .string p.id, .string p.loc, .int .i64 p.how, .slice pb p.body.length cb, .slice pk p.kids.length ck] 25) := ⟨_, rfl⟩
 have hb1 : Below w.heap.size w W1 := by rw [hW1]; exact (Below.refl _ _).alloc (Nat.le_refl _) _
 have hk1 : W1.heap[w.heap.size]? = some (.cells #[.string p.ty, .string p.cs, .string p.id, .string p.loc, .int .i64 p.how, .slice pb p.body.length cb, .slice pk p.kids.length ck] 25) := by rw [hW1]; exact blkM_new _ _
 clear hE hH en hr hq hcm hc hSR hMR hWT hC
 obtain ⟨d0, d1, d2, d3, d4, d5, d6, df⟩ := m_cells hk1
 go_enter Tryz.func3, Tryz.ntmps3
 go_wp2_with fail
 rw [← hW1]
 clear hW1
 refine (CW.out _ hb1).mono ?_
 rintro e w2 ⟨hb2, q2, c2, rfl, t1, t2, t3, tr⟩
 simp only at t1 tr
 have hbe2 : Below w.heap.size w w2 := hb1.trans (hb2.mono hb1.size)
 have hk2 := m_kept hk1 hb2
 have HCV : Hid (∀ W, Below w2.heap.size w2 W → (convert 22 9 (.slice q2 T.length c2)).run Tryz.prog W = .ok (.string (ba T)) W) := fun W hb => conv_bytes W q2 T.length c2 T rfl (tr.under hb) (fun h => by have := t3 h; omega)
 obtain ⟨nT, hnT⟩ : ∃ nT, T.length = nT := ⟨_, rfl⟩
 rw [hnT] at HCV
 simp only [hnT]
 clear CW hb2 t1 t2 t3 tr hk1 hb1 hnT d0 d1 d2 d3 d4 d5 d6 df
 go_wp2_with fail
 refine (CS.out _ hbe2).mono ?_
 rintro e w3 ⟨hb3, v3, rfl, s1, s2⟩
 obtain ⟨pS, nS, cS, rfl⟩ := split_len (r := (SL, SE)) s1 s2
 have HS1 : Hid (SE ≠ 0 → Value.slice pS nS cS = .slice none 0 0) := s1
 have HS2 : Hid (SE = 0 → ∃ Y : List SY, Y.map (·.1) = SL ∧ w3.ownsRow w2.heap.size 22 1 (.slice pS nS cS) SL.length (syv Y) ∧ SOwn w3 w2.heap.size Y) := s2
 have hbe3 : Below w.heap.size w w3 := hbe2.trans (hb3.mono hbe2.size)
 have hk3 := m_kept hk2 hb3
 have hb23 : Below w2.heap.size w2 w3 := hb3
 simp only
 clear CS hb3 s1 s2 hk2
 go_wp2_with fail
 refine (CR.out _ hbe3).mono ?_
 intro e w4 h4
 obtain ⟨hb4, ty, cs, id, loc, how, rb, nb, cb4, rk, nk, ck4, rfl, RT', hRT', x1, x2, x3, x4, x5, x6, x7, hh4⟩ := readM_held h4
 obtain rfl : RT' = RT := hRT'.trans hRT.symm
 have hbe4 : Below w.heap.size w w4 := hbe3.trans (hb4.mono hbe3.size)
 have hb24 : Below w2.heap.size w2 w4 := hb23.trans (hb4.mono hb23.size)
 have hk4 := m_kept hk3 hb4
 rw [hRE]
 obtain ⟨W5, hW5⟩ : ∃ W, W = w4.alloc (.cells #[.string ty, .string cs, .string id, .string loc, .int .i64 how, .slice rb nb cb4, .slice rk nk ck4] 25) := ⟨_, rfl⟩
 have hb5 : Below w4.heap.size w4 W5 := by rw [hW5]; exact (Below.refl _ _).alloc (Nat.le_refl _) _
 have hq5 : W5.heap[w4.heap.size]? = some (.cells #[.string ty, .string cs, .string id, .string loc, .int .i64 how, .slice rb nb cb4, .slice rk nk ck4] 25) := by rw [hW5]; exact blkM_new _ _
 have hk5 := m_kept hk4 hb5
 have hlt5 : w.heap.size < w4.heap.size := (Array.getElem?_eq_some_iff.1 hk4).1
 have hbe5 : Below w.heap.size w W5 := hbe4.trans (hb5.mono hbe4.size)
 have hb25 : Below w2.heap.size w2 W5 := hb24.trans (hb5.mono hb24.size)
 have hb35 : Below w3.heap.size w3 W5 := hb4.trans (hb5.mono hb4.size)
 have HX : Hid (RT'.ty = ty ∧ RT'.cs = cs ∧ RT'.id = id ∧ RT'.loc = loc ∧ RT'.how = how ∧ RT'.body.length = nb ∧ RT'.kids.length = nk) := ⟨x1, x2, x3, x4, x5, x6, x7⟩
 have HR5 : Hid (PHeld W5 3 RT' rb cb4 rk ck4) := hh4.below hb5
 clear h4 hh4 x1 x2 x3 x4 x5 x6 x7 hb4 hb5 hk4 hk3 hb23 hb24 hbe4 hRT' CR
 obtain ⟨d0, d1, d2, d3, d4, d5, d6, df⟩ := m_cells hk5
 go_upto_region 4 with fail
 rw [← hW5]
 clear hW5
 go_wp2_with fail
 refine (CK.out _ hbe5).mono ?_
 rintro e w6 ⟨rfl, hb6⟩
 have hbe6 : Below w.heap.size w w6 := hbe5.trans (hb6.mono hbe5.size)
 have hk6 := m_kept hk5 hb6
 clear d0 d1 d2 d3 d4 d5 d6 df CK
 obtain ⟨d0, d1, d2, d3, d4, d5, d6, df⟩ := m_cells hk6
 go_upto_if 38 with fail
 go_cut [13, 14] (fun bv tv wx => bv = .int .i64 (eT : Int) ∧ tv = .string (ba T) ∧ Below w6.heap.size w6 wx)
 case first =>
  by_cases h0 : eC = 0
  ·obtain ⟨z1, z2, z3⟩ := HWf.out.2 h0
   have CT1 : Hid (Calls Tryz.prog 9 #[.agg #[.string p.ty, .string p.cs, .string p.id, .string p.loc, .int .i64 p.how, .slice pb p.body.length cb, .slice pk p.kids.length ck]] w6 fun e w' => e = .returned (.string (ba (textP 3 p))) ∧ Below w6.heap.size w6 w') := CT.out h0 w6 hbe6
   subst h0
   generalize ba (textP 3 p) = TX at *
   by_cases h4 : 40000 < TX.size
   ·obtain ⟨rfl, rfl⟩ := z2 h4
    have h4' : (40000 : Int) < (TX.size : Int) := by omega
    clear CT z2 z3 HWf
    go_wp2_with fail
    refine CT1.out.mono ?_
    rintro e w7 ⟨rfl, hb7⟩
    clear CT1
    go_wp2_with fail
    go_meet
    exact ⟨rfl, rfl, hb7⟩
   ·obtain ⟨rfl, hTT⟩ := z3 h4
    have h4' : ¬ (40000 : Int) < (TX.size : Int) := by omega
    clear CT z2 z3 HWf
    go_wp2_with fail
    refine CT1.out.mono ?_
    rintro e w7 ⟨rfl, hb7⟩
    clear CT1
    go_wp2_with fail
    go_meet
    exact ⟨rfl, by rw [hTT], hb7⟩
  ·obtain ⟨rfl, rfl⟩ := HWf.out.1 h0
   have hz : ((eT : Int) == 0) = false := by rw [beq_eq_false_iff_ne]; omega
   have hz1 : ¬ (eT : Int) = 0 := by omega
   clear CT HWf
   go_wp2_with fail
   go_meet
   exact ⟨rfl, rfl, Below.refl _ _⟩
 case rest =>
 obtain ⟨rfl, rfl, hb7⟩ := hcut
 obtain ⟨w7, hw7⟩ : ∃ x, x = wc := ⟨_, rfl⟩
 subst hw7
 have hbe7 : Below w.heap.size w w7 := hbe6.trans (hb7.mono hbe6.size)
 have hb57 : Below W5.heap.size W5 w7 := hb6.trans (hb7.mono hb6.size)
 clear CT HWf hb6 hb7 hbe6 hk6 hk5 d0 d1 d2 d3 d4 d5 d6 df
 obtain ⟨TT, hTT⟩ : ∃ TT, ba T = TT := ⟨_, rfl⟩
 rw [hTT] at HCV
 rw [hTT]
 clear hTT
 go_wp2_with fail
 refine (CU.out _ hbe7).mono ?_
 rintro e w8 ⟨rfl, hb8⟩
 have hbe8 : Below w.heap.size w w8 := hbe7.trans (hb8.mono hbe7.size)
 have hb58 : Below W5.heap.size W5 w8 := hb57.trans (hb8.mono hb57.size)
 have hb28 : Below w2.heap.size w2 w8 := hb25.trans (hb58.mono hb25.size)
 have hb38 : Below w3.heap.size w3 w8 := hb35.trans (hb58.mono hb35.size)
 have hcv := HCV.out w8 hb28
 have hq8 := m_kept hq5 hb58
 have HR8 : Hid (PHeld w8 3 RT' rb cb4 rk ck4) := HR5.out.below hb58
 have hlt8 : w4.heap.size < w8.heap.size := (Array.getElem?_eq_some_iff.1 hq8).1
 clear hb8 hb57 hbe7 hb25 hb35 HR5 hq5 CU HCV hb58
 obtain ⟨u0, u1, u2, u3, u4, u5, u6, uf⟩ := m_cells hq8
 by_cases hbig : 40000 < n
 ·have hbig' : (40000 : Int) < (n : Int) := by omega
  obtain ⟨hsp, -⟩ := HSp.out.1 hbig
  obtain ⟨rfl, rfl⟩ := Prod.mk.inj hsp
  obtain rfl : RE = 2 := HRE.out hbig
  have hRTz := HRT0.out hbig
  have hsl := HS1.out (by decide)
  injection hsl with e1 e2 e3
  subst e1 e2 e3
  have CZ : Hid (Calls Tryz.prog 11 #[.agg #[.string ty, .string cs, .string id, .string loc, .int .i64 how, .slice rb nb cb4, .slice rk nk ck4], .agg Z7] w8 fun e w' => e = .returned (.bool true) ∧ Below w8.heap.size w8 w') := by
   obtain ⟨x1, x2, x3, x4, x5, x6, x7⟩ := HX.out
   have hz : PHeld w8 0 RT' none 0 none 0 := by rw [hRTz]; exact held0 _ _
   have := rsame_self x1 x2 x3 x4 x5 x6 x7 HR8.out hz
   rw [hRTz] at x1 x2 x3 x4 x5 x6 x7
   subst x1 x2 x3 x4 x5 x6 x7
   exact this
  clear HSp HS1 HS2 HRE HRT0 hRTz hsp CB CP HX HR8 HSc
  go_wp2_with fail
  refine CZ.out.mono ?_
  rintro e w9 ⟨rfl, hb9⟩
  have hbe9 : Below w.heap.size w w9 := hbe8.trans (hb9.mono hbe8.size)
  clear CZ hb9
  go_wp2_with fail
  go_ret
  exact ⟨rfl, hbe9⟩
 ·have hbig' : ¬ (40000 : Int) < (n : Int) := by omega
  have CB1 : Hid (Calls Tryz.prog 12 #[.slice q0 n c] w8 fun e w' => ReadMPost w8 MR e w') := CB.out _ hbe8 (by omega)
  clear HRE HRT0 CB u0 u1 u2 u3 u4 u5 u6 uf
  go_wp2_with fail
  refine CB1.out.mono ?_
  intro e w9 h9
  obtain ⟨hb9, ty2, cs2, id2, loc2, how2, rb2, nb2, cb2, rk2, nk2, ck2, rfl, RT2, hRT2, y1, y2, y3, y4, y5, y6, y7, hh9⟩ := readM_held h9
  obtain rfl : RT2 = RT' := hRT2.trans hRT.symm
  obtain ⟨x1, x2, x3, x4, x5, x6, x7⟩ := HX.out
  obtain rfl : ty = ty2 := x1.symm.trans y1
  obtain rfl : cs = cs2 := x2.symm.trans y2
  obtain rfl : id = id2 := x3.symm.trans y3
  obtain rfl : loc = loc2 := x4.symm.trans y4
  obtain rfl : how = how2 := x5.symm.trans y5
  obtain rfl : nb = nb2 := x6.symm.trans y6
  obtain rfl : nk = nk2 := x7.symm.trans y7
  have hbe9 : Below w.heap.size w w9 := hbe8.trans (hb9.mono hbe8.size)
  rw [hRE]
  obtain ⟨W10, hW10⟩ : ∃ W, W = w9.alloc (.cells #[.string ty, .string cs, .string id, .string loc, .int .i64 how, .slice rb2 nb cb2, .slice rk2 nk ck2] 25) := ⟨_, rfl⟩
  have hb10 : Below w9.heap.size w9 W10 := by rw [hW10]; exact (Below.refl _ _).alloc (Nat.le_refl _) _
  have hq10 : W10.heap[w9.heap.size]? = some (.cells #[.string ty, .string cs, .string id, .string loc, .int .i64 how, .slice rb2 nb cb2, .slice rk2 nk ck2] 25) := by rw [hW10]; exact blkM_new _ _
  have hb810 : Below w8.heap.size w8 W10 := hb9.trans (hb10.mono hb9.size)
  have hp10 := m_kept hq8 hb810
  have hbe10 : Below w.heap.size w W10 := hbe9.trans (hb10.mono hbe9.size)
  have hb310 : Below w3.heap.size w3 W10 := hb38.trans (hb810.mono hb38.size)
  have CZ : Hid (Calls Tryz.prog 11 #[.agg #[.string ty, .string cs, .string id, .string loc, .int .i64 how, .slice rb nb cb4, .slice rk nk ck4], .agg #[.string ty, .string cs, .string id, .string loc, .int .i64 how, .slice rb2 nb cb2, .slice rk2 nk ck2]] W10 fun e w' => e = .returned (.bool true) ∧ Below W10.heap.size W10 w') := rsame_self x1 x2 x3 x4 x5 x6 x7 (HR8.out.below hb810) (hh9.below hb10)
  obtain ⟨u0, u1, u2, u3, u4, u5, u6, uf⟩ := m_cells hp10
  obtain ⟨v0, v1, v2, v3, v4, v5, v6, vf⟩ := m_cells hq10
  clear h9 hh9 CB1 x1 x2 x3 x4 x5 x6 x7 y1 y2 y3 y4 y5 y6 y7 HX hRT2 hb9 hb10 hq8 hbe8 hb38 hbe9 HR8
  go_upto_region 15 with fail
  rw [← hW10]
  clear hW10
  go_wp2_with fail
  refine CZ.out.mono ?_
  rintro e w11 ⟨rfl, hb11⟩
  have hbe11 : Below w.heap.size w w11 := hbe10.trans (hb11.mono hbe10.size)
  have hb311 : Below w3.heap.size w3 w11 := hb310.trans (hb11.mono hb310.size)
  clear CZ hb11 hbe10 hb310 u0 u1 u2 u3 u4 u5 u6 uf v0 v1 v2 v3 v4 v5 v6 vf hp10 hq10
  have hemp := isEmpty_size B
  by_cases hbad : B.size = 0 ∨ 60 < B.size
  ·have hsp := HSp.out.2 hbig hbad
   obtain ⟨rfl, rfl⟩ := Prod.mk.inj hsp
   have hsl := HS1.out (by decide)
   injection hsl with e1 e2 e3
   subst e1 e2 e3
   clear HSp HS1 HS2 hsp CP HSc
   by_cases hb0 : B.size = 0
   ·rw [decide_eq_true hb0] at hemp
    clear hbad hb0
    go_wp2_with fail
    go_ret
    exact ⟨rfl, hbe11⟩
   ·rw [decide_eq_false hb0] at hemp
    have h60 : (60 : Int) < (B.size : Int) := by omega
    clear hbad hb0
    go_wp2_with fail
    go_ret
    exact ⟨rfl, hbe11⟩
  ·rw [decide_eq_false (by omega)] at hemp
   have h60 : ¬ (60 : Int) < (B.size : Int) := by omega
   have CP1 : Hid (Calls Tryz.prog 13 #[.slice q0 n c, .string B] w11 fun e w' => SplitPostR w11 (SL, SE) e w') := CP.out _ hbe11 (by omega) (by omega) (by omega)
   clear HSp CP hbad
   go_wp2_with fail
   refine CP1.out.mono ?_
   rintro e w12 ⟨hb12, v12, rfl, r1, r2⟩
   simp only at r1 r2 ⊢
   have hbe12 : Below w.heap.size w w12 := hbe11.trans (hb12.mono hbe11.size)
   have hb312 : Below w3.heap.size w3 w12 := hb311.trans (hb12.mono hb311.size)
   clear CP1
   by_cases hS : SE = 0
   ·obtain ⟨Y1, k1, k2, k3⟩ := HS2.out hS
    obtain ⟨Y2, j1, j2, j3⟩ := r2 hS
    obtain ⟨pA, cA, pB, cB, eA, eB, hcall⟩ := seq_pieces HSc.out k1 j1 k2 k3 hb312 j2 j3 (Below.refl _ _)
    injection eA with e1 e2 e3
    subst eB e1 e2 e3
    have CQ : Hid (Calls Tryz.prog 14 #[.slice pS SL.length cS, .slice pB SL.length cB, .func (Fn.func 15) #[] #[]] w12 fun e w' => e = .returned (.bool true) ∧ Below w12.heap.size w12 w') := hcall
    clear HS1 HS2 r1 r2 k1 k2 k3 j1 j2 j3 hcall HSc
    subst hS
    obtain ⟨nq, hnq⟩ : ∃ nq, SL.length = nq := ⟨_, rfl⟩
    rw [hnq] at CQ
    simp only [hnq]
    go_wp2_with fail
    refine CQ.out.mono ?_
    rintro e w13 ⟨rfl, hb13⟩
    have hbe13 : Below w.heap.size w w13 := hbe12.trans (hb13.mono hbe12.size)
    clear CQ hb13
    go_wp2_with fail
    go_ret
    exact ⟨rfl, hbe13⟩
   ·have hsl := HS1.out hS
    injection hsl with e1 e2 e3
    subst e1 e2 e3
    have hv := r1 hS
    subst hv
    have CQ : Hid (Calls Tryz.prog 14 #[.slice none 0 0, .slice none 0 0, .func (Fn.func 15) #[] #[]] w12 fun e w' => e = .returned (.bool true) ∧ Below w12.heap.size w12 w') := seq_none _ _ _ _ _
    clear HS1 HS2 r1 r2 HSc hS
    go_wp2_with fail
    refine CQ.out.mono ?_
    rintro e w13 ⟨rfl, hb13⟩
    have hbe13 : Below w.heap.size w w13 := hbe12.trans (hb13.mono hbe12.size)
    clear CQ hb13
    go_wp2_with fail
    go_ret
    exact ⟨rfl, hbe13⟩
end Go.Proofs.YtlndhdimamnnlaaGreatDoor



namespace Go.Proofs.YtlndhdimamnnlaaGreatDoor
open Go.RowKit Go.Lib Go.Shelf
theorem utf8_laid {w : World} (h3 : VarReads Tryz.prog w "unicode/utf8.first" firstData) (h4 : VarReads Tryz.prog w "unicode/utf8.acceptRanges" acceptData) : Lib.Utf8Tabs 6 7 w :=
 utf8Tabs_of_readsT (ρ := Tryz.lays159_ren) { Tryz.lays159 with } ⟨by kernel_rfl, by kernel_rfl, by kernel_rfl, by kernel_rfl, by kernel_rfl, by kernel_rfl, by kernel_rfl⟩ h3 h4
theorem case_laid {w : World} (h : VarReads Tryz.prog w "unicode.CaseRanges" caseData) : CaseVar 4 caseA w :=
 caseVar_of_reads (ρ := Tryz.lays159_ren) { Tryz.lays159 with } Tryz.lays159.t206 ⟨by kernel_rfl, by kernel_rfl, by kernel_rfl, by kernel_rfl, by kernel_rfl, by kernel_rfl⟩ h
def ascData : DataW Unit := tabData .u16 (asc.map fun (n : Nat) => (n : Int))
def orbData : DataW Unit := .slice (orb.map fun x => .agg [.lit (.int .u16 (x.1 : Int)), .lit (.int .u16 (x.2 : Int))]) []
theorem asc_same : Rows.laid_unicode_asciiFold = ascData := by kernel_rfl
theorem orb_same : Rows.laid_unicode_caseOrbit = orbData := by kernel_rfl
theorem asc_laid {w : World} (h : VarReads Tryz.prog w "unicode.asciiFold" ascData) : AscTab w := by
 obtain ⟨g, t, cs, fuel, p, hg, hty, hvar, hd⟩ := h
 obtain rfl := Option.some.inj ((show Tryz.prog.globalNamed "unicode.asciiFold" = some 2 by kernel_rfl).symm.trans hg)
 obtain rfl := Option.some.inj ((show (Tryz.prog.globals[(2 : Nat)]?).map (·.type) = some 191 by kernel_rfl).symm.trans hty)
 intro i hi
 have hcs := cells_of_tab Tryz.underlying191 Tryz.underlying190 (by kernel_rfl) (by kernel_rfl) hd
 rw [World.var?_cell hg hvar i, ← Array.getElem?_toList, hcs, List.getElem?_map, List.getElem?_map]
 have hl := asc_length
 rw [List.getD_eq_getElem?_getD, List.getElem?_eq_getElem (by omega)]
 rfl
theorem orb_laid {w : World} (h : VarReads Tryz.prog w "unicode.caseOrbit" orbData) : OrbTab w := by
 obtain ⟨g, t, cs, fuel, p, hg, hty, hvar, hd⟩ := h
 obtain rfl := Option.some.inj ((show Tryz.prog.globalNamed "unicode.caseOrbit" = some 3 by kernel_rfl).symm.trans hg)
 obtain rfl := Option.some.inj ((show (Tryz.prog.globals[(3 : Nat)]?).map (·.type) = some 192 by kernel_rfl).symm.trans hty)
 have hl := orb_length
 obtain ⟨f0, f1, hu, o0, o1, t0, t1⟩ : ∃ f0 f1 : Field, Tryz.prog.underlying 194 = some (.struct #[f0, f1]) ∧ f0.offset = 0 ∧ f1.offset = 1 ∧ f0.type = 190 ∧ f1.type = 190 := ⟨_, _, Tryz.underlying194, rfl, rfl, rfl, rfl⟩
 rcases Go.Deep.open_slice_pairs Tryz.underlying192 hu (by kernel_rfl) o0 o1 (by rw [t0]; kernel_rfl) (by rw [t1]; kernel_rfl) hd with ⟨_, hx⟩ | ⟨a, len, cap, m, n, V0, V1, D0, D1, P0, P1, hcs, _, hlc, _, hmm, hx, each⟩
 ·cases hx
 ·have hE := congrArg Prod.fst hx
  simp only [orbData, DataW.slice.injEq] at hE
  have hlen : len = 94 := by
   have := congrArg List.length hE.1
   rw [List.length_map, List.length_map, List.length_range, hl] at this
   exact this.symm
  subst hlen
  have hm94 : 94 ≤ m := by rw [hmm]; split <;> omega
  have row : ∀ i, i < 94 → w.cell? (a.add (i * 2)) = some (.int .u16 (((orb.getD i (0, 0)).1 : Nat) : Int)) ∧ w.cell? (a.add (i * 2 + 1)) = some (.int .u16 (((orb.getD i (0, 0)).2 : Nat) : Int)) := fun i hi => by
   obtain ⟨h1, h2, h3, h4⟩ := each i (by omega)
   rw [t0] at h3
   rw [t1] at h4
   obtain ⟨z0, e0, x0, _⟩ := DataW.trod_int Tryz.underlying190 h3
   obtain ⟨z1, e1, x1, _⟩ := DataW.trod_int Tryz.underlying190 h4
   have hi2 : i < orb.length := by omega
   have hd := congrArg (·[i]?) hE.1
   simp only [List.getElem?_map, List.getElem?_range hi, List.getElem?_eq_getElem hi2, Option.map_some, Option.some.injEq, DataW.agg.injEq, List.cons.injEq] at hd
   have y0 := congrArg Prod.fst x0
   have y1 := congrArg Prod.fst x1
   simp only at y0 y1
   rw [y0, y1] at hd
   have q0 := hd.1
   have q1 := hd.2.1
   simp only [DataW.lit.injEq, Lit.int.injEq, true_and] at q0 q1
   have ed : orb.getD i (0, 0) = orb[i] := by rw [List.getD_eq_getElem?_getD, List.getElem?_eq_getElem hi2]; rfl
   rw [ed, h1, h2, (List.cons.inj e0).1, (List.cons.inj e1).1, ← q0, ← q1]
   exact ⟨rfl, rfl⟩
  obtain ⟨R, oR, sR⟩ := a
  obtain rfl : sR = none := by simpa [Addr.add] using World.cell?_spot (row 0 (by omega)).1
  refine ⟨R, oR, cap, ?_, fun i hi => ?_⟩
  ·rw [World.var?_cell hg hvar 0, ← Array.getElem?_toList, hcs]; rfl
  ·have h1 := row i hi
   rw [Addr.add_lit, Addr.add_lit] at h1
   exact ⟨h1.1, by rw [Nat.add_assoc]; exact h1.2⟩
end Go.Proofs.YtlndhdimamnnlaaGreatDoor



namespace Go.Proofs.YtlndhdimamnnlaaGreatDoor
open Go.RowKit Go.Lib Go.Shelf
theorem cells_of_strs {H : Type} {enc : TypeId × Value → H} {P : Program} {w : World} {base : Nat} {sp : Nat → Bool} {held : Bool} {fuel : Nat} {t e : TypeId} {n : Nat} {cs : List Value} {zs : List (List UInt8)} {p : List MemPlace}
  (ht : P.underlying t = some (.array n e)) (he : P.underlying e = some .string) (hce : P.cellsOf e = 1) (hct : P.cellsOf t = n)
  (h : DataW.trod enc P w base sp held fuel t cs = some (.agg (zs.map fun z => .lit (.string z)), p)) (i : Nat) (hi : i < n) : cs[i]? = (zs[i]?).map fun z => Value.string ⟨z.toArray⟩ := by
 cases fuel with
 | zero => simp [DataW.trod] at h
 | succ fuel =>
  simp only [DataW.trod, ht, hce, hct, Nat.mul_one] at h
  split at h
  ·rename_i hl
   obtain ⟨xs, hm, hx⟩ := Option.map_eq_some_iff.1 h
   have hxs : xs.map (·.1) = zs.map fun z => (DataW.lit (.string z) : DataW H) := by
    have := congrArg Prod.fst hx
    simpa using this
   obtain ⟨b, hb, hf⟩ := mapM_at hm i i (by simp [hi])
   obtain ⟨s, hc, rfl, _⟩ := DataW.trod_string he hf
   have h1 : cs[i]? = some (.string s) := by
    have := congrArg (·[0]?) hc
    simpa [List.getElem?_take, List.getElem?_drop] using this
   have h2 : (xs.map (·.1))[i]? = some (DataW.lit (.string s.data.toList) : DataW H) := by simp [hb]
   rw [hxs] at h2
   simp only [List.getElem?_map, Option.map_eq_some_iff, DataW.lit.injEq, Lit.string.injEq] at h2
   obtain ⟨z', hz', rfl⟩ := h2
   rw [h1, hz']
   rfl
  ·cases h
def howsData : DataW Unit := .agg ([how0, how1, how2].map fun z => .lit (.string z))
theorem hows_laid {w : World} (h : VarReads Tryz.prog w "scrapbook/mime.hows" howsData) : HowTab w := by
 obtain ⟨g, t, cs, fuel, p, hg, hty, hvar, hd⟩ := h
 obtain rfl := Option.some.inj ((show Tryz.prog.globalNamed "scrapbook/mime.hows" = some 0 by kernel_rfl).symm.trans hg)
 obtain rfl := Option.some.inj ((show (Tryz.prog.globals[(0 : Nat)]?).map (·.type) = some 132 by kernel_rfl).symm.trans hty)
 have key := cells_of_strs (zs := [how0, how1, how2]) Tryz.underlying132 Tryz.underlying9 (by kernel_rfl) (by kernel_rfl) hd
 refine ⟨?_, ?_, ?_⟩
 ·rw [World.var?_cell hg hvar 0, ← Array.getElem?_toList, key 0 (by decide)]; rfl
 ·rw [World.var?_cell hg hvar 1, ← Array.getElem?_toList, key 1 (by decide)]; rfl
 ·rw [World.var?_cell hg hvar 2, ← Array.getElem?_toList, key 2 (by decide)]; rfl
def powData : DataW Unit := tabData .u64 Lib.pow10Tab
theorem pow_laid {w : World} (h : VarReads Tryz.prog w "internal/strconv.uint64pow10" powData) : TabIs Tryz.prog w "internal/strconv.uint64pow10" .u64 Lib.pow10Tab := by
 obtain ⟨g, t, cs, fuel, p, hg, hty, hvar, hd⟩ := h
 obtain rfl := Option.some.inj ((show Tryz.prog.globalNamed "internal/strconv.uint64pow10" = some 5 by kernel_rfl).symm.trans hg)
 obtain rfl := Option.some.inj ((show (Tryz.prog.globals[(5 : Nat)]?).map (·.type) = some 226 by kernel_rfl).symm.trans hty)
 have hcs := cells_of_tab Tryz.underlying226 Tryz.underlying115 (by kernel_rfl) (by kernel_rfl) hd
 unfold TabIs
 rw [hvar, ← hcs]
end Go.Proofs.YtlndhdimamnnlaaGreatDoor

