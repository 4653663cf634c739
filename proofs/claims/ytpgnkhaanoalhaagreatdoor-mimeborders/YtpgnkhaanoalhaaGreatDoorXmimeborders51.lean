/- The walk of the law MimeBack: it answers true, and nothing that was there is changed. Conditions: the part and the bytes lie there; the tables lie there. -/
import Derived.Test.YtpgnkhaanoalhaaGreatDoorXmimeborders49
import Derived.Test.YtpgnkhaanoalhaaGreatDoorXmimeborders50
import Derived.Deep.DeepCutAuto
namespace Go.Proofs.YtpgnkhaanoalhaaGreatDoor
open Go.RowKit

theorem cnt_nodes : ∀ (f : Nat) (p : PT), goodP f p → cnt p = nodesP f p
  | 0, p, h => absurd h (by rw [goodP]; exact id)
  | f + 1, p, h => by
    rw [goodP] at h
    rw [cnt_eq, nodesP]
    congr 2
    exact List.map_congr_left fun k hk => cnt_nodes f k (h.2 k hk)
theorem cnt_good {p : PT} (h : (placesP p).1 = 0) : cnt p ≤ 8000000000000 := by
  obtain ⟨g1, g2⟩ := good_places h
  rw [cnt_nodes 3 p g1]
  omega
/-- A part as a value. -/
abbrev pvl (p : PT) (pb : Option Addr) (cb : Nat) (pk : Option Addr) (ck : Nat) : Array Value := #[.string p.ty, .string p.cs, .string p.id, .string p.loc, .int .i64 p.how, .slice pb p.body.length cb, .slice pk p.kids.length ck]
/-- Write, when it goes well. -/
theorem write_ok {p : PT} (h : (writeM p).1 = 0) {pb : Option Addr} {cb : Nat} {pk : Option Addr} {ck F : Nat} {w : World} (hE : MEnv w) (hH : PHeld w F p pb cb pk ck) :
    Calls Tryz.prog 8 #[.agg (pvl p pb cb pk ck)] w fun e w' => Below w.heap.size w w' ∧ ∃ q c, e = .returned (.tuple #[.slice q (writeM p).2.length c, .int .i64 0]) ∧ (writeM p).2.length ≤ c ∧ c ≤ maxLen ∧ (q = none → (writeM p).2.length = 0 ∧ c = 0) ∧ BRow w' q (writeM p).2 := by
  refine (write_mime p pb cb pk ck F w hE.2 hH).mono ?_
  rintro e w' ⟨hb, q, c, rfl, h1, h2, h3, hr⟩
  refine ⟨hb, q, c, by rw [h]; rfl, h1, h2, fun e => ?_, hr⟩
  have := h3 e
  omega
/-- Read, when it goes well. -/
theorem read_ok {L : List UInt8} {p : PT} (h : readM L = (0, p)) {q : Option Addr} {n c : Nat} (en : n = L.length) {w : World} (hE : MEnv w) (h1 : n ≤ c) (h2 : c ≤ maxLen) (h3 : q = none → n = 0 ∧ c = 0) (hr : BRow w q L) :
    Calls Tryz.prog 10 #[.slice q n c] w fun e w' => Below w.heap.size w w' ∧ ∃ pb cb pk ck, e = .returned (.tuple #[.agg (pvl p pb cb pk ck), .int .i64 0]) ∧ PHeld w' 3 p pb cb pk ck := by
  refine (mReadM_any q n c L en w hE.1 h1 h2 h3 hr).mono ?_
  rw [h]
  rintro e w' ⟨hb, hok, -⟩
  obtain ⟨pb, cb, pk, ck, rfl, hF⟩ := hok rfl
  exact ⟨hb, pb, cb, pk, ck, rfl, hF.held⟩
theorem read_no {L : List UInt8} {m : Nat} (h : (readM L).1 = m) (hm : m ≠ 0) {q : Option Addr} {n c : Nat} (en : n = L.length) {w : World} (hE : MEnv w) (h1 : n ≤ c) (h2 : c ≤ maxLen) (h3 : q = none → n = 0 ∧ c = 0) (hr : BRow w q L) :
    Calls Tryz.prog 10 #[.slice q n c] w fun e w' => Below w.heap.size w w' ∧ e = .returned (.tuple #[.agg Z7, .int .i64 (m : Int)]) := by
  refine (mReadM_any q n c L en w hE.1 h1 h2 h3 hr).mono ?_
  rintro e w' ⟨hb, -, hno⟩
  rw [h] at hno
  exact ⟨hb, hno hm⟩
/-- Same, of a part and itself. -/
theorem same_self {p : PT} (h : (placesP p).1 = 0) {pb qb : Option Addr} {cb : Nat} {pk qk : Option Addr} {ck cb2 ck2 F F2 : Nat} {w : World} (hH : PHeld w F p pb cb pk ck) (hH2 : PHeld w F2 p qb cb2 qk ck2) :
    Calls Tryz.prog 20 #[.agg (pvl p pb cb pk ck), .agg (pvl p qb cb2 qk ck2)] w fun e w' => e = .returned (.bool true) ∧ Below w.heap.size w w' := by
  refine (same_any p p pb qb cb pk qk ck cb2 ck2 F F2 w hH hH2 (cnt_good h)).mono ?_
  rintro e w' ⟨b, rfl, hb, hw⟩
  have : b = true := hb.2 rfl
  subst this
  exact ⟨rfl, hw⟩
set_option maxHeartbeats 8000000 in
set_option maxRecDepth 100000 in
/-- MimeBack. -/
theorem mback_any (p : PT) (pb : Option Addr) (cb : Nat) (pk : Option Addr) (ck F : Nat) (q0 : Option Addr) (n0 c0 : Nat) (L : List UInt8) (en : n0 = L.length) (w : World) (hE : MEnv w) (hH : PHeld w F p pb cb pk ck) (h1 : n0 ≤ c0) (h2 : c0 ≤ maxLen) (h3 : q0 = none → n0 = 0 ∧ c0 = 0) (hr : BRow w q0 L) :
    Calls Tryz.prog 4 #[.agg (pvl p pb cb pk ck), .slice q0 n0 c0] w fun e w' => e = .returned (.bool true) ∧ Below w.heap.size w w' := by
  have HE : Hid (MEnv w) := hE
  have HH : Hid (PHeld w F p pb cb pk ck) := hH
  have HCR : Hid (∀ W, Below w.heap.size w W → ∀ (e : Nat) (Q : PT), readM L = (e, Q) → (e ≠ 0 → Calls Tryz.prog 10 #[.slice q0 n0 c0] W fun e' w' => Below W.heap.size W w' ∧ e' = .returned (.tuple #[.agg Z7, .int .i64 (e : Int)])) ∧ (e = 0 → Calls Tryz.prog 10 #[.slice q0 n0 c0] W fun e' w' => Below W.heap.size W w' ∧ ∃ pb cb pk ck, e' = .returned (.tuple #[.agg (pvl Q pb cb pk ck), .int .i64 0]) ∧ PHeld w' 3 Q pb cb pk ck)) :=
    fun W hW e Q hQ => ⟨fun hne => read_no (by rw [hQ]) hne en (HE.out.below hW) h1 h2 h3 (hr.under hW), fun he => read_ok (by rw [hQ, he]) en (HE.out.below hW) h1 h2 h3 (hr.under hW)⟩
  clear hE hH hr h1 h2 h3 en
  obtain ⟨W1, hW1⟩ : ∃ W, W = w.alloc (.cells (pvl p pb cb pk ck) 25) := ⟨_, rfl⟩
  have hb1 : Below w.heap.size w W1 := by rw [hW1]; exact (Below.refl _ _).alloc (Nat.le_refl _) _
  have hk1 : W1.heap[w.heap.size]? = some (.cells (pvl p pb cb pk ck) 25) := by rw [hW1]; exact blkM_new _ _
  go_enter Tryz.func4, Tryz.ntmps4
  go_wp2_with fail
  rw [← hW1]
  clear hW1
  refine (write_mime p pb cb pk ck F W1 (HE.out.below hb1).2 (HH.out.below hb1)).mono ?_
  rintro e w2 ⟨hb2, q2, c2, rfl, a1, a2, a3, hr2⟩
  have hk2 := blkM_on hk1 hb2
  have hbe2 : Below w.heap.size w w2 := hb1.trans (hb2.mono hb1.size)
  have HW : Hid ((writeM p).1 = 0 → (placesP p).1 = 0 ∧ Calls Tryz.prog 10 #[.slice q2 (writeM p).2.length c2] w2 fun e w' => Below w2.heap.size w2 w' ∧ ∃ pb cb pk ck, e = .returned (.tuple #[.agg (pvl p pb cb pk ck), .int .i64 0]) ∧ PHeld w' 3 p pb cb pk ck) := fun h0 => ⟨(writeM_ok h0).1, read_ok (read_write h0) rfl (HE.out.below hbe2) a1 a2 (fun e => by have := a3 e; omega) hr2⟩
  clear hk1 hb1 hb2 a1 a2 a3 hr2
  generalize (writeM p).2.length = nT at *
  generalize (writeM p).1 = eT at *
  go_upto_if 21 with fail
  go_cut [4] (fun r wx => r = .bool false ∧ Below w.heap.size w wx)
  case first =>
    by_cases h0 : eT = 0
    · obtain ⟨hpl, CR0⟩ := HW.out h0
      have CR : Hid (Calls Tryz.prog 10 #[.slice q2 nT c2] w2 fun e w' => Below w2.heap.size w2 w' ∧ ∃ pb cb pk ck, e = .returned (.tuple #[.agg (pvl p pb cb pk ck), .int .i64 0]) ∧ PHeld w' 3 p pb cb pk ck) := CR0
      subst h0
      clear CR0 HW
      go_wp2_with fail
      refine CR.out.mono ?_
      rintro e w3 ⟨hb3, pb3, cb3, pk3, ck3, rfl, hH3⟩
      have hk3 := blkM_on hk2 hb3
      have hbe3 : Below w.heap.size w w3 := hbe2.trans (hb3.mono hbe2.size)
      clear CR hb3 hbe2 hk2
      have HS : Hid (∀ W, Below w3.heap.size w3 W → Calls Tryz.prog 20 #[.agg (pvl p pb3 cb3 pk3 ck3), .agg (pvl p pb cb pk ck)] W fun e w' => e = .returned (.bool true) ∧ Below W.heap.size W w') := fun W hW => same_self hpl (hH3.below hW) ((HH.out.below hbe3).below hW)
      clear hH3 hpl
      obtain ⟨d0, d1, d2, d3, d4, d5, d6, -⟩ := m_cells hk3
      have hlt3 : w.heap.size < w3.heap.size := (Array.getElem?_eq_some_iff.1 hk3).1
      have hne3 : ¬ w.heap.size = w3.heap.size := by omega
      go_wp2_with fail
      refine (HS.out _ ((Below.refl _ _).alloc (Nat.le_refl _) _)).mono ?_
      rintro e w4 ⟨rfl, hb4⟩
      have hbe4 : Below w.heap.size w w4 := (hbe3.alloc hbe3.size _).trans (hb4.mono (by have := hbe3.size; simp; omega))
      clear HS hb4 hbe3 hk3 d0 d1 d2 d3 d4 d5 d6
      go_wp2_with fail
      go_meet
      exact ⟨rfl, hbe4⟩
    · have hz : ((eT : Int) == 0) = false := by rw [beq_eq_false_iff_ne]; omega
      clear HW
      rw [hz]
      go_wp2_with fail
      go_meet
      exact ⟨rfl, hbe2⟩
  case rest =>
  obtain ⟨wd, hwd⟩ : ∃ x, x = wc := ⟨_, rfl⟩
  subst hwd
  obtain ⟨rfl, hbd⟩ := hcut
  clear HW hk2 hbe2 HH
  obtain ⟨eR, Q, hQ⟩ : ∃ e Q, readM L = (e, Q) := ⟨_, _, rfl⟩
  obtain ⟨CR1, CR2⟩ := HCR.out wd hbd eR Q hQ
  by_cases hr0 : eR = 0
  · have hpl : (placesP Q).1 = 0 := by have := readM_ok (L := L) (by rw [hQ]; exact hr0); rw [hQ] at this; exact this
    have CR : Hid (Calls Tryz.prog 10 #[.slice q0 n0 c0] wd fun e w' => Below wd.heap.size wd w' ∧ ∃ pb cb pk ck, e = .returned (.tuple #[.agg (pvl Q pb cb pk ck), .int .i64 0]) ∧ PHeld w' 3 Q pb cb pk ck) := CR2 hr0
    clear CR1 CR2 HCR hQ hr0
    go_wp2_with fail
    refine CR.out.mono ?_
    rintro e w3 ⟨hb3, pb3, cb3, pk3, ck3, rfl, hH3⟩
    have hbe3 : Below w.heap.size w w3 := hbd.trans (hb3.mono hbd.size)
    clear CR hb3 hbd
    obtain ⟨W4, hW4⟩ : ∃ W, W = w3.alloc (.cells (pvl Q pb3 cb3 pk3 ck3) 25) := ⟨_, rfl⟩
    have hb4 : Below w3.heap.size w3 W4 := by rw [hW4]; exact (Below.refl _ _).alloc (Nat.le_refl _) _
    have hk4 : W4.heap[w3.heap.size]? = some (.cells (pvl Q pb3 cb3 pk3 ck3) 25) := by rw [hW4]; exact blkM_new _ _
    have HQ3 : Hid (PHeld w3 3 Q pb3 cb3 pk3 ck3) := hH3
    have hbe4 : Below w.heap.size w W4 := hbe3.trans (hb4.mono hbe3.size)
    clear hH3
    go_wp2_with fail
    rw [← hW4]
    clear hW4
    refine (bundled_any _ (HE.out.below hbe4)).mono ?_
    rintro e w5 ⟨rfl, hb5⟩
    have hk5 := blkM_on hk4 hb5
    have hb35 : Below w3.heap.size w3 w5 := hb4.trans (hb5.mono hb4.size)
    have hbe5 : Below w.heap.size w w5 := hbe3.trans (hb35.mono hbe3.size)
    clear hb4 hk4 hbe4 hb5
    have CK : Hid (Calls Tryz.prog 21 #[.agg (pvl Q pb3 cb3 pk3 ck3)] w5 fun e w' => e = .returned (.int .i64 0) ∧ Below w5.heap.size w5 w') := by
      have := pcheck_any Q pb3 cb3 pk3 ck3 3 w5 (HQ3.out.below hb35)
      rw [hpl] at this
      exact this
    obtain ⟨d0, d1, d2, d3, d4, d5, d6, -⟩ := m_cells hk5
    go_wp2_with fail
    refine CK.out.mono ?_
    rintro e w6 ⟨rfl, hb6⟩
    have hk6 := blkM_on hk5 hb6
    have hb36 : Below w3.heap.size w3 w6 := hb35.trans (hb6.mono hb35.size)
    have hbe6 : Below w.heap.size w w6 := hbe3.trans (hb36.mono hbe3.size)
    clear CK hk5 hb35 hbe5 hb6 d0 d1 d2 d3 d4 d5 d6
    obtain ⟨d0, d1, d2, d3, d4, d5, d6, -⟩ := m_cells hk6
    rcases writeM_cases Q hpl with hw2 | hw0
    · have CW : Hid (Calls Tryz.prog 8 #[.agg (pvl Q pb3 cb3 pk3 ck3)] w6 fun e w' => WritePost w6 (2, []) e w') := by
        have := write_mime Q pb3 cb3 pk3 ck3 3 w6 (HE.out.below hbe6).2 (HQ3.out.below hb36)
        rw [hw2] at this
        exact this
      clear hw2
      go_wp2_with fail
      refine CW.out.mono ?_
      rintro e w7 ⟨hb7, q7, c7, rfl, -⟩
      have hbe7 : Below w.heap.size w w7 := hbe6.trans (hb7.mono hbe6.size)
      clear CW hb7 hbe6 hk6 d0 d1 d2 d3 d4 d5 d6
      go_wp2_with fail
      go_ret
      exact ⟨rfl, hbe7⟩
    · have hrw := read_write hw0
      have CW : Hid (Calls Tryz.prog 8 #[.agg (pvl Q pb3 cb3 pk3 ck3)] w6 fun e w' => Below w6.heap.size w6 w' ∧ ∃ q c, e = .returned (.tuple #[.slice q (writeM Q).2.length c, .int .i64 0]) ∧ (writeM Q).2.length ≤ c ∧ c ≤ maxLen ∧ (q = none → (writeM Q).2.length = 0 ∧ c = 0) ∧ BRow w' q (writeM Q).2) := write_ok hw0 (HE.out.below hbe6) (HQ3.out.below hb36)
      have CW2 : Hid (∀ (W : World) (pb : Option Addr) (cb : Nat) (pk : Option Addr) (ck : Nat), MEnv W → PHeld W 3 Q pb cb pk ck → Calls Tryz.prog 8 #[.agg (pvl Q pb cb pk ck)] W fun e w' => Below W.heap.size W w' ∧ ∃ q c, e = .returned (.tuple #[.slice q (writeM Q).2.length c, .int .i64 0]) ∧ (writeM Q).2.length ≤ c ∧ c ≤ maxLen ∧ (q = none → (writeM Q).2.length = 0 ∧ c = 0) ∧ BRow w' q (writeM Q).2) := fun W pb cb pk ck hE hH => write_ok hw0 hE hH
      clear hw0
      generalize (writeM Q).2 = T at *
      obtain ⟨nT, hnT⟩ : ∃ n, T.length = n := ⟨_, rfl⟩
      have HNT : Hid (T.length = nT) := hnT
      rw [hnT] at CW CW2
      clear hnT
      go_wp2_with fail
      refine CW.out.mono ?_
      rintro e w7 ⟨hb7, q7, c7, rfl, a1, a2, a3, hr7⟩
      have hk7 := blkM_on hk6 hb7
      have hb37 : Below w3.heap.size w3 w7 := hb36.trans (hb7.mono hb36.size)
      have hbe7 : Below w.heap.size w w7 := hbe3.trans (hb37.mono hbe3.size)
      have CR : Hid (Calls Tryz.prog 10 #[.slice q7 nT c7] w7 fun e w' => Below w7.heap.size w7 w' ∧ ∃ pb cb pk ck, e = .returned (.tuple #[.agg (pvl Q pb cb pk ck), .int .i64 0]) ∧ PHeld w' 3 Q pb cb pk ck) := read_ok hrw HNT.out.symm (HE.out.below hbe7) a1 a2 a3 hr7
      have HR7 : Hid (BRow w7 q7 T ∧ nT ≤ maxLen) := ⟨hr7, Nat.le_trans a1 a2⟩
      clear CW hk6 hb36 hbe6 hb7 d0 d1 d2 d3 d4 d5 d6 hr7 a1 a2 a3 hrw
      go_wp2_with fail
      refine CR.out.mono ?_
      rintro e w8 ⟨hb8, pb8, cb8, pk8, ck8, rfl, hH8⟩
      have hk8 := blkM_on hk7 hb8
      have hb38 : Below w3.heap.size w3 w8 := hb37.trans (hb8.mono hb37.size)
      have hbe8 : Below w.heap.size w w8 := hbe3.trans (hb38.mono hbe3.size)
      have HR8 : Hid (BRow w8 q7 T) := HR7.out.1.under hb8
      clear CR hk7 hb37 hbe7 hb8
      obtain ⟨W9, hW9⟩ : ∃ W, W = w8.alloc (.cells (pvl Q pb8 cb8 pk8 ck8) 25) := ⟨_, rfl⟩
      have hb9 : Below w8.heap.size w8 W9 := by rw [hW9]; exact (Below.refl _ _).alloc (Nat.le_refl _) _
      have hk9 : W9.heap[w8.heap.size]? = some (.cells (pvl Q pb8 cb8 pk8 ck8) 25) := by rw [hW9]; exact blkM_new _ _
      have hj9 := blkM_on hk8 hb9
      have hb39 : Below w3.heap.size w3 W9 := hb38.trans (hb9.mono hb38.size)
      have hbe9 : Below w.heap.size w W9 := hbe3.trans (hb39.mono hbe3.size)
      have CW9 : Hid (Calls Tryz.prog 8 #[.agg (pvl Q pb8 cb8 pk8 ck8)] W9 fun e w' => Below W9.heap.size W9 w' ∧ ∃ q c, e = .returned (.tuple #[.slice q nT c, .int .i64 0]) ∧ nT ≤ c ∧ c ≤ maxLen ∧ (q = none → nT = 0 ∧ c = 0) ∧ BRow w' q T) := CW2.out W9 pb8 cb8 pk8 ck8 (HE.out.below hbe9) (hH8.below hb9)
      have HQ9 : Hid (PHeld W9 3 Q pb8 cb8 pk8 ck8) := hH8.below hb9
      have HR9 : Hid (BRow W9 q7 T) := HR8.out.under hb9
      clear hH8 CW2 hk8 hb38 hbe8 HR8 hb9
      go_wp2_with fail
      rw [← hW9]
      clear hW9
      refine CW9.out.mono ?_
      rintro e w10 ⟨hb10, q10, c10, rfl, a1, a2, a3, hr10⟩
      have hk10 := blkM_on hk9 hb10
      have hj10 := blkM_on hj9 hb10
      have hb310 : Below w3.heap.size w3 w10 := hb39.trans (hb10.mono hb39.size)
      have hbe10 : Below w.heap.size w w10 := hbe3.trans (hb310.mono hbe3.size)
      have HS : Hid (Calls Tryz.prog 20 #[.agg (pvl Q pb8 cb8 pk8 ck8), .agg (pvl Q pb3 cb3 pk3 ck3)] w10 fun e w' => e = .returned (.bool true) ∧ Below w10.heap.size w10 w') := same_self hpl (HQ9.out.below hb10) (HQ3.out.below hb310)
      have HEQ : Hid (∀ W, Below w10.heap.size w10 W → Calls Tryz.prog 19 #[.slice q10 nT c10, .slice q7 nT c7] W fun e w' => e = .returned (.bool true) ∧ Below W.heap.size W w') := fun W hW => by
        have := seq_any q10 q7 T T nT nT c10 c7 HNT.out.symm HNT.out.symm W HR7.out.2 HR7.out.2 (hr10.under hW) ((HR9.out.under hb10).under hW)
        rw [decide_eq_true rfl] at this
        exact this
      clear CW9 hk9 hj9 hb39 hbe9 hb10 hr10 HQ9 HR9 a1 a2 a3
      obtain ⟨d0, d1, d2, d3, d4, d5, d6, -⟩ := m_cells hk10
      obtain ⟨f0, f1, f2, f3, f4, f5, f6, -⟩ := m_cells hj10
      go_wp2_with fail
      refine HS.out.mono ?_
      rintro e w11 ⟨rfl, hb11⟩
      clear HS d0 d1 d2 d3 d4 d5 d6 f0 f1 f2 f3 f4 f5 f6
      go_wp2_with fail
      refine (HEQ.out _ hb11).mono ?_
      rintro e w12 ⟨rfl, hb12⟩
      have hbe12 : Below w.heap.size w w12 := hbe10.trans ((hb11.trans (hb12.mono hb11.size)).mono hbe10.size)
      clear HEQ hb11 hb12 hbe10
      go_wp2_with fail
      go_ret
      exact ⟨rfl, hbe12⟩
  · have CR : Hid (Calls Tryz.prog 10 #[.slice q0 n0 c0] wd fun e w' => Below wd.heap.size wd w' ∧ e = .returned (.tuple #[.agg Z7, .int .i64 (eR : Int)])) := CR1 hr0
    have hz : ((eR : Int) == 0) = false := by rw [beq_eq_false_iff_ne]; omega
    clear CR1 CR2 HCR hQ
    go_wp2_with fail
    refine CR.out.mono ?_
    rintro e w3 ⟨hb3, rfl⟩
    have hbe3 : Below w.heap.size w w3 := hbd.trans (hb3.mono hbd.size)
    clear CR hb3 hbd
    go_wp2_with fail
    refine (bundled_any _ (HE.out.below (hbe3.alloc hbe3.size _))).mono ?_
    rintro e w4 ⟨rfl, hb4⟩
    have hbe4 : Below w.heap.size w w4 := (hbe3.alloc hbe3.size _).trans (hb4.mono (by have := hbe3.size; simp; omega))
    clear hb4 hbe3
    go_wp2_with fail
    refine (bundled_any _ (HE.out.below hbe4)).mono ?_
    rintro e w5 ⟨rfl, hb5⟩
    have hbe5 : Below w.heap.size w w5 := hbe4.trans (hb5.mono hbe4.size)
    clear hb5 hbe4
    go_wp2_with fail
    go_ret
    exact ⟨rfl, hbe5⟩
end Go.Proofs.YtpgnkhaanoalhaaGreatDoor
