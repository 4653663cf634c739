/- The walk of the law MimeHow: it answers true, and nothing that was there is changed. Conditions: the part lies there; the tables lie there. -/
import Derived.Test.YtpgnkhaanoalhaaGreatDoorXmimehow51
import Derived.Test.YtpgnkhaanoalhaaGreatDoorXmimehow24
import Derived.Lib.LaidCase
import Derived.Lib.LaidU8T
import Derived.Lib.LaidTab
import Derived.Deep.SlicePairs
import Derived.LaidByTextLater
import Derived.Test.YtpgnkhaanoalhaaGreatDoorXmimehow49
import Derived.Lib.SmallJoins
import Derived.Test.YtpgnkhaanoalhaaGreatDoorRows
import Derived.HandedShaped
import Derived.Shelf.Vars
import Derived.Lay
import Derived.SevenTiedAt
import Derived.Stop.Joined
import Derived.WalkKit
import Derived.ProofKit
import Derived.OpenShut
import Derived.ShutString
import Derived.ChangeOld
import Derived.Below
namespace Go.Proofs.YtpgnkhaanoalhaaGreatDoor
open Go.RowKit

theorem how_ok {p : PT} (h : (placesP p).1 = 0) (hm : manyS p.ty.data.toList = false) (r : Nat) (hr : r < 3) : (placesP { p with how := (r : Int) }).1 = 0 := by
  obtain ⟨g1, g2⟩ := good_places h
  rw [goodP] at g1
  rw [nodesP] at g2
  obtain ⟨a1, a2, a3, a4, a5⟩ := chkA_facts g1.1
  have hk := formed_one a5 hm
  refine places_good ?_ ?_
  · rw [goodP]
    refine ⟨?_, fun k hkk => by rw [show ({ p with how := (r : Int) } : PT).kids = p.kids from rfl, hk] at hkk; simp at hkk⟩
    unfold chkA
    have b1 : textsOk { p with how := (r : Int) } = true := a1
    have b5 : formedP { p with how := (r : Int) } = true := by
      unfold formedP
      rw [if_neg (by rw [show ({ p with how := (r : Int) } : PT).ty = p.ty from rfl, hm]; decide)]
      rw [show ({ p with how := (r : Int) } : PT).kids = p.kids from rfl, hk]
      rfl
    rw [b1, b5, if_neg (by decide), if_neg (by show ¬ ((r : Int) < 0 ∨ 2 < (r : Int)); omega), if_neg (by show ¬ 4000 < p.body.length; omega), if_neg (by decide)]
  · rw [nodesP]
    exact g2
theorem how_held {w : World} {F : Nat} {p : PT} {pb : Option Addr} {cb : Nat} {pk : Option Addr} {ck : Nat} (h : PHeld w F p pb cb pk ck) (r : Nat) (hr : r < 3) : PHeld w F { p with how := (r : Int) } pb cb pk ck := by
  obtain ⟨⟨l0, l1, l2, l3, l4, l5, l6, l7⟩, h1, h2, h3, h4⟩ := h
  exact ⟨⟨l0, l1, l2, l3, by show -9223372036854775808 ≤ (r : Int); omega, by show (r : Int) ≤ 9223372036854775807; omega, l6, l7⟩, h1, h2, h3, h4⟩
set_option maxHeartbeats 8000000 in
set_option maxRecDepth 100000 in
/-- MimeHow. -/
theorem mhow_any (p : PT) (pb : Option Addr) (cb : Nat) (pk : Option Addr) (ck F : Nat) (how : Int) (w : World) (hE : MEnv w) (hH : PHeld w F p pb cb pk ck) :
    Calls Tryz.prog 6 #[.agg (pvl p pb cb pk ck), .int .i64 how] w fun e w' => e = .returned (.bool true) ∧ Below w.heap.size w w' := by
  have HE : Hid (MEnv w) := hE
  have HH : Hid (PHeld w F p pb cb pk ck) := hH
  clear hE hH
  obtain ⟨W1, hW1⟩ : ∃ W, W = w.alloc (.cells (pvl p pb cb pk ck) 25) := ⟨_, rfl⟩
  have hb1 : Below w.heap.size w W1 := by rw [hW1]; exact (Below.refl _ _).alloc (Nat.le_refl _) _
  have hk1 : W1.heap[w.heap.size]? = some (.cells (pvl p pb cb pk ck) 25) := by rw [hW1]; exact blkM_new _ _
  go_enter Tryz.func6, Tryz.ntmps6
  go_wp2_with fail
  rw [← hW1]
  clear hW1
  refine (bundled_any _ (HE.out.below hb1)).mono ?_
  rintro e w2 ⟨rfl, hb2⟩
  have hk2 := blkM_on hk1 hb2
  have hbe2 : Below w.heap.size w w2 := hb1.trans (hb2.mono hb1.size)
  clear hk1 hb1 hb2
  have CK : Hid (Calls Tryz.prog 21 #[.agg (pvl p pb cb pk ck)] w2 fun e w' => e = .returned (.int .i64 ((placesP p).1 : Nat)) ∧ Below w2.heap.size w2 w') := pcheck_any p pb cb pk ck F w2 (HH.out.below hbe2)
  obtain ⟨d0, d1, d2, d3, d4, d5, d6, -⟩ := m_cells hk2
  by_cases h0 : (placesP p).1 = 0
  · rw [h0] at CK
    go_wp2_with fail
    refine CK.out.mono ?_
    rintro e w3 ⟨rfl, hb3⟩
    have hk3 := blkM_on hk2 hb3
    have hbe3 : Below w.heap.size w w3 := hbe2.trans (hb3.mono hbe2.size)
    clear CK hk2 hbe2 hb3 d0 d1 d2 d3 d4 d5 d6
    obtain ⟨d0, d1, d2, d3, d4, d5, d6, -⟩ := m_cells hk3
    have CM : Hid (Calls Tryz.prog 28 #[.string p.ty] w3 fun e w' => e = .returned (.bool (manyS p.ty.data.toList)) ∧ w' = w3) := pmany_any p.ty w3
    cases hm : manyS p.ty.data.toList with
    | true =>
      rw [hm] at CM
      go_wp2_with fail
      refine CM.out.mono ?_
      rintro e w4 ⟨rfl, hw4⟩
      have hw5 := hw4.symm
      subst hw5
      clear CM d0 d1 d2 d3 d4 d5 d6
      go_wp2_with fail
      refine (bundled_any _ (HE.out.below hbe3)).mono ?_
      rintro e w5 ⟨rfl, hb5⟩
      have hbe5 := hbe3.trans (hb5.mono hbe3.size)
      clear hb5 hbe3
      go_wp2_with fail
      go_ret
      exact ⟨rfl, hbe5⟩
    | false =>
      rw [hm] at CM
      go_wp2_with fail
      refine CM.out.mono ?_
      rintro e w4 ⟨rfl, hw4⟩
      have hw5 := hw4.symm
      subst hw5
      clear CM d0 d1 d2 d3 d4 d5 d6
      go_wp2_with fail
      refine (at_any how 3 3 rfl _ (by decide) (by decide)).mono ?_
      rintro e w4 ⟨r, hr, rfl, hw4⟩
      have hw5 := hw4.symm
      subst hw5
      obtain ⟨d0, d1, d2, d3, d4, d5, d6, dz⟩ := m_cells hk3
      obtain ⟨W5, hW5⟩ : ∃ W, W = w3.setCell ⟨w.heap.size, 4, none⟩ (.int .i64 (r : Int)) := ⟨_, rfl⟩
      have hbe5 : Below w.heap.size w W5 := by rw [hW5]; exact hbe3.setCell (p := ⟨w.heap.size, 4, none⟩) (Nat.le_refl _) _
      have hk5 : W5.heap[w.heap.size]? = some (.cells (pvl { p with how := (r : Int) } pb cb pk ck) 25) := by rw [hW5]; exact m_set hk3 4 _
      have hpl := how_ok h0 hm r hr
      have HQ : Hid (PHeld w F { p with how := (r : Int) } pb cb pk ck) := how_held HH.out r hr
      go_upto_region 4 with fail
      rw [← hW5]
      clear hW5 hk3 hbe3 d0 d1 d2 d3 d4 d5 d6 dz HH h0 hm
      obtain ⟨Q, hQ⟩ : ∃ Q : PT, Q = { p with how := (r : Int) } := ⟨_, rfl⟩
      rw [← hQ] at hk5 hpl HQ
      have hQh : Q.how = (r : Int) := by rw [hQ]
      clear hQ
      have HQH : Hid (Q.how = (r : Int)) := hQh
      clear hQh
      obtain ⟨d0, d1, d2, d3, d4, d5, d6, -⟩ := m_cells hk5
      rcases writeM_cases Q hpl with hw2 | hw0
      · have CW : Hid (Calls Tryz.prog 8 #[.agg (pvl Q pb cb pk ck)] W5 fun e w' => WritePost W5 (2, []) e w') := by
          have := write_mime Q pb cb pk ck F W5 (HE.out.below hbe5).2 (HQ.out.below hbe5)
          rw [hw2] at this
          exact this
        clear hw2
        go_wp2_with fail
        refine CW.out.mono ?_
        rintro e w7 ⟨hb7, q7, c7, rfl, -⟩
        have hbe7 : Below w.heap.size w w7 := hbe5.trans (hb7.mono hbe5.size)
        clear CW hb7 hbe5 hk5 d0 d1 d2 d3 d4 d5 d6
        go_wp2_with fail
        go_ret
        exact ⟨rfl, hbe7⟩
      · have hrw := read_write hw0
        have CW : Hid (Calls Tryz.prog 8 #[.agg (pvl Q pb cb pk ck)] W5 fun e w' => Below W5.heap.size W5 w' ∧ ∃ q c, e = .returned (.tuple #[.slice q (writeM Q).2.length c, .int .i64 0]) ∧ (writeM Q).2.length ≤ c ∧ c ≤ maxLen ∧ (q = none → (writeM Q).2.length = 0 ∧ c = 0) ∧ BRow w' q (writeM Q).2) := write_ok hw0 (HE.out.below hbe5) (HQ.out.below hbe5)
        clear hw0
        generalize (writeM Q).2 = T at *
        obtain ⟨nT, hnT⟩ : ∃ n, T.length = n := ⟨_, rfl⟩
        have HNT : Hid (T.length = nT) := hnT
        rw [hnT] at CW
        clear hnT
        go_wp2_with fail
        refine CW.out.mono ?_
        rintro e w7 ⟨hb7, q7, c7, rfl, a1, a2, a3, hr7⟩
        have hk7 := blkM_on hk5 hb7
        have hbe7 : Below w.heap.size w w7 := hbe5.trans (hb7.mono hbe5.size)
        have CR : Hid (Calls Tryz.prog 10 #[.slice q7 nT c7] w7 fun e w' => Below w7.heap.size w7 w' ∧ ∃ pb cb pk ck, e = .returned (.tuple #[.agg (pvl Q pb cb pk ck), .int .i64 0]) ∧ PHeld w' 3 Q pb cb pk ck) := read_ok hrw HNT.out.symm (HE.out.below hbe7) a1 a2 a3 hr7
        clear CW hk5 hbe5 hb7 d0 d1 d2 d3 d4 d5 d6 hr7 a1 a2 a3 hrw
        go_wp2_with fail
        refine CR.out.mono ?_
        rintro e w8 ⟨hb8, pb8, cb8, pk8, ck8, rfl, hH8⟩
        have hk8 := blkM_on hk7 hb8
        have hbe8 : Below w.heap.size w w8 := hbe7.trans (hb8.mono hbe7.size)
        clear CR hk7 hbe7 hb8
        obtain ⟨W9, hW9⟩ : ∃ W, W = w8.alloc (.cells (pvl Q pb8 cb8 pk8 ck8) 25) := ⟨_, rfl⟩
        have hb9 : Below w8.heap.size w8 W9 := by rw [hW9]; exact (Below.refl _ _).alloc (Nat.le_refl _) _
        have hk9 : W9.heap[w8.heap.size]? = some (.cells (pvl Q pb8 cb8 pk8 ck8) 25) := by rw [hW9]; exact blkM_new _ _
        have hj9 := blkM_on hk8 hb9
        have hbe9 : Below w.heap.size w W9 := hbe8.trans (hb9.mono hbe8.size)
        have HEQ : Hid (Calls Tryz.prog 19 #[.slice pb8 Q.body.length cb8, .slice pb Q.body.length cb] W9 fun e w' => e = .returned (.bool true) ∧ Below W9.heap.size W9 w') := by
          have hl := (HQ.out.1).2.2.2.2.2.2.1
          have := seq_any pb8 pb Q.body Q.body Q.body.length Q.body.length cb8 cb rfl rfl W9 hl hl ((hH8.below hb9).2.2.1) ((HQ.out.below hbe9).2.2.1)
          rw [decide_eq_true rfl] at this
          exact this
        clear hH8 hk8 hb9 hbe8
        go_upto_region 8 with fail
        rw [← hW9]
        clear hW9
        obtain ⟨d0, d1, d2, d3, d4, d5, d6, -⟩ := m_cells hk9
        obtain ⟨f0, f1, f2, f3, f4, f5, f6, -⟩ := m_cells hj9
        go_wp2_with fail
        refine HEQ.out.mono ?_
        rintro e w10 ⟨rfl, hb10⟩
        have hbe10 : Below w.heap.size w w10 := hbe9.trans (hb10.mono hbe9.size)
        clear HEQ hb10 hbe9 d0 d1 d2 d3 d4 d5 d6 f0 f1 f2 f3 f4 f5 f6
        go_wp2_with fail
        go_ret
        exact ⟨rfl, hbe10⟩
  · have hz : (((placesP p).1 : Nat) : Int) ≠ 0 := by omega
    generalize (placesP p).1 = eP at *
    have hzb : ((eP : Int) == 0) = false := by rw [beq_eq_false_iff_ne]; exact hz
    go_wp2_with fail
    refine CK.out.mono ?_
    rintro e w3 ⟨rfl, hb3⟩
    have hbe3 : Below w.heap.size w w3 := hbe2.trans (hb3.mono hbe2.size)
    clear CK hk2 hbe2 hb3 d0 d1 d2 d3 d4 d5 d6
    go_wp2_with fail
    refine (bundled_any _ (HE.out.below hbe3)).mono ?_
    rintro e w5 ⟨rfl, hb5⟩
    have hbe5 := hbe3.trans (hb5.mono hbe3.size)
    clear hb5 hbe3
    go_wp2_with fail
    go_ret
    exact ⟨rfl, hbe5⟩
end Go.Proofs.YtpgnkhaanoalhaaGreatDoor

/- The listed tables of unicode and unicode/utf8, read off the row's list: they lie in memory as the plain functions have them. No function of the program. -/
namespace Go.Proofs.YtpgnkhaanoalhaaGreatDoor
open Go.RowKit Go.Lib Go.Shelf

theorem utf8_laid {w : World} (h3 : VarReads Tryz.prog w "unicode/utf8.first" firstData) (h4 : VarReads Tryz.prog w "unicode/utf8.acceptRanges" acceptData) : Lib.Utf8Tabs 6 7 w :=
  utf8Tabs_of_readsT (ρ := Tryz.lays159_ren) { Tryz.lays159 with } ⟨by kernel_rfl, by kernel_rfl, by kernel_rfl, by kernel_rfl, by kernel_rfl, by kernel_rfl, by kernel_rfl⟩ h3 h4
theorem case_laid {w : World} (h : VarReads Tryz.prog w "unicode.CaseRanges" caseData) : CaseVar 4 caseA w :=
  caseVar_of_reads (ρ := Tryz.lays159_ren) { Tryz.lays159 with } Tryz.lays159.t206 ⟨by kernel_rfl, by kernel_rfl, by kernel_rfl, by kernel_rfl, by kernel_rfl, by kernel_rfl⟩ h

def ascData : DataW Unit := tabData .u16 (asc.map fun (n : Nat) => (n : Int))
def orbData : DataW Unit := .slice (orb.map fun x => .agg [.lit (.int .u16 (x.1 : Int)), .lit (.int .u16 (x.2 : Int))]) []
theorem asc_same : Rows.laid_unicode_asciiFold = ascData := by kernel_rfl
theorem orb_same : Rows.laid_unicode_caseOrbit = orbData := by kernel_rfl

theorem asc_laid {w : World} (h : VarReads Tryz.prog w "unicode.asciiFold" ascData) : AscTab w := by
  obtain ⟨g, t, cs, fuel, p, hg, hty, hvar, hd⟩ := h
  obtain rfl := Option.some.inj ((show Tryz.prog.globalNamed "unicode.asciiFold" = some 2 by kernel_rfl).symm.trans hg)
  obtain rfl := Option.some.inj ((show (Tryz.prog.globals[(2 : Nat)]?).map (·.type) = some 198 by kernel_rfl).symm.trans hty)
  intro i hi
  have hcs := cells_of_tab Tryz.underlying198 Tryz.underlying197 (by kernel_rfl) (by kernel_rfl) hd
  rw [World.var?_cell hg hvar i, ← Array.getElem?_toList, hcs, List.getElem?_map, List.getElem?_map]
  have hl := asc_length
  rw [List.getD_eq_getElem?_getD, List.getElem?_eq_getElem (by omega)]
  rfl

theorem orb_laid {w : World} (h : VarReads Tryz.prog w "unicode.caseOrbit" orbData) : OrbTab w := by
  obtain ⟨g, t, cs, fuel, p, hg, hty, hvar, hd⟩ := h
  obtain rfl := Option.some.inj ((show Tryz.prog.globalNamed "unicode.caseOrbit" = some 3 by kernel_rfl).symm.trans hg)
  obtain rfl := Option.some.inj ((show (Tryz.prog.globals[(3 : Nat)]?).map (·.type) = some 199 by kernel_rfl).symm.trans hty)
  have hl := orb_length
  obtain ⟨f0, f1, hu, o0, o1, t0, t1⟩ : ∃ f0 f1 : Field, Tryz.prog.underlying 201 = some (.struct #[f0, f1]) ∧ f0.offset = 0 ∧ f1.offset = 1 ∧ f0.type = 197 ∧ f1.type = 197 := ⟨_, _, Tryz.underlying201, rfl, rfl, rfl, rfl⟩
  rcases Go.Deep.open_slice_pairs Tryz.underlying199 hu (by kernel_rfl) o0 o1 (by rw [t0]; kernel_rfl) (by rw [t1]; kernel_rfl) hd with ⟨_, hx⟩ | ⟨a, len, cap, m, n, V0, V1, D0, D1, P0, P1, hcs, _, hlc, _, hmm, hx, each⟩
  · cases hx
  · have hE := congrArg Prod.fst hx
    simp only [orbData, DataW.slice.injEq] at hE
    have hlen : len = 94 := by
      have := congrArg List.length hE.1
      rw [List.length_map, List.length_map, List.length_range, hl] at this
      exact this.symm
    subst hlen
    have hm94 : 94 ≤ m := by rw [hmm]; split <;> omega
    have row : ∀ i, i < 94 → w.cell? (a.add (i * 2)) = some (.int .u16 (((orb.getD i (0, 0)).1 : Nat) : Int)) ∧ w.cell? (a.add (i * 2 + 1)) = some (.int .u16 (((orb.getD i (0, 0)).2 : Nat) : Int)) := fun i hi => by
      obtain ⟨h1, h2, h3, h4⟩ := each i (by omega)
      rw [t0] at h3
      rw [t1] at h4
      obtain ⟨z0, e0, x0, _⟩ := DataW.trod_int Tryz.underlying197 h3
      obtain ⟨z1, e1, x1, _⟩ := DataW.trod_int Tryz.underlying197 h4
      have hi2 : i < orb.length := by omega
      have hd := congrArg (·[i]?) hE.1
      simp only [List.getElem?_map, List.getElem?_range hi, List.getElem?_eq_getElem hi2, Option.map_some, Option.some.injEq, DataW.agg.injEq, List.cons.injEq] at hd
      have y0 := congrArg Prod.fst x0
      have y1 := congrArg Prod.fst x1
      simp only at y0 y1
      rw [y0, y1] at hd
      have q0 := hd.1
      have q1 := hd.2.1
      simp only [DataW.lit.injEq, Lit.int.injEq, true_and] at q0 q1
      have ed : orb.getD i (0, 0) = orb[i] := by rw [List.getD_eq_getElem?_getD, List.getElem?_eq_getElem hi2]; rfl
      rw [ed, h1, h2, (List.cons.inj e0).1, (List.cons.inj e1).1, ← q0, ← q1]
      exact ⟨rfl, rfl⟩
    obtain ⟨R, oR, sR⟩ := a
    obtain rfl : sR = none := by simpa [Addr.add] using World.cell?_spot (row 0 (by omega)).1
    refine ⟨R, oR, cap, ?_, fun i hi => ?_⟩
    · rw [World.var?_cell hg hvar 0, ← Array.getElem?_toList, hcs]; rfl
    · have h1 := row i hi
      rw [Addr.add_lit, Addr.add_lit] at h1
      exact ⟨h1.1, by rw [Nat.add_assoc]; exact h1.2⟩

end Go.Proofs.YtpgnkhaanoalhaaGreatDoor

/- The listed tables of this layer's rows, read off the row's list: they lie in memory as the plain functions have them, and stay. No function of the program. -/
namespace Go.Proofs.YtpgnkhaanoalhaaGreatDoor
open Go.RowKit Go.Lib Go.Shelf

/-- An array of texts that reads as listed. -/
theorem cells_of_strs {H : Type} {enc : TypeId × Value → H} {P : Program} {w : World} {base : Nat} {sp : Nat → Bool} {held : Bool} {fuel : Nat} {t e : TypeId} {n : Nat} {cs : List Value} {zs : List (List UInt8)} {p : List MemPlace}
    (ht : P.underlying t = some (.array n e)) (he : P.underlying e = some .string) (hce : P.cellsOf e = 1) (hct : P.cellsOf t = n)
    (h : DataW.trod enc P w base sp held fuel t cs = some (.agg (zs.map fun z => .lit (.string z)), p)) (i : Nat) (hi : i < n) : cs[i]? = (zs[i]?).map fun z => Value.string ⟨z.toArray⟩ := by
  cases fuel with
  | zero => simp [DataW.trod] at h
  | succ fuel =>
    simp only [DataW.trod, ht, hce, hct, Nat.mul_one] at h
    split at h
    · rename_i hl
      obtain ⟨xs, hm, hx⟩ := Option.map_eq_some_iff.1 h
      have hxs : xs.map (·.1) = zs.map fun z => (DataW.lit (.string z) : DataW H) := by
        have := congrArg Prod.fst hx
        simpa using this
      obtain ⟨b, hb, hf⟩ := mapM_at hm i i (by simp [hi])
      obtain ⟨s, hc, rfl, _⟩ := DataW.trod_string he hf
      have h1 : cs[i]? = some (.string s) := by
        have := congrArg (·[0]?) hc
        simpa [List.getElem?_take, List.getElem?_drop] using this
      have h2 : (xs.map (·.1))[i]? = some (DataW.lit (.string s.data.toList) : DataW H) := by simp [hb]
      rw [hxs] at h2
      simp only [List.getElem?_map, Option.map_eq_some_iff, DataW.lit.injEq, Lit.string.injEq] at h2
      obtain ⟨z', hz', rfl⟩ := h2
      rw [h1, hz']
      rfl
    · cases h
def howsData : DataW Unit := .agg ([how0, how1, how2].map fun z => .lit (.string z))
theorem hows_laid {w : World} (h : VarReads Tryz.prog w "scrapbook/mime.hows" howsData) : HowTab w := by
  obtain ⟨g, t, cs, fuel, p, hg, hty, hvar, hd⟩ := h
  obtain rfl := Option.some.inj ((show Tryz.prog.globalNamed "scrapbook/mime.hows" = some 0 by kernel_rfl).symm.trans hg)
  obtain rfl := Option.some.inj ((show (Tryz.prog.globals[(0 : Nat)]?).map (·.type) = some 139 by kernel_rfl).symm.trans hty)
  have key := cells_of_strs (zs := [how0, how1, how2]) Tryz.underlying139 Tryz.underlying9 (by kernel_rfl) (by kernel_rfl) hd
  refine ⟨?_, ?_, ?_⟩
  · rw [World.var?_cell hg hvar 0, ← Array.getElem?_toList, key 0 (by decide)]; rfl
  · rw [World.var?_cell hg hvar 1, ← Array.getElem?_toList, key 1 (by decide)]; rfl
  · rw [World.var?_cell hg hvar 2, ← Array.getElem?_toList, key 2 (by decide)]; rfl
def powData : DataW Unit := tabData .u64 Lib.pow10Tab
theorem pow_laid {w : World} (h : VarReads Tryz.prog w "internal/strconv.uint64pow10" powData) : TabIs Tryz.prog w "internal/strconv.uint64pow10" .u64 Lib.pow10Tab := by
  obtain ⟨g, t, cs, fuel, p, hg, hty, hvar, hd⟩ := h
  obtain rfl := Option.some.inj ((show Tryz.prog.globalNamed "internal/strconv.uint64pow10" = some 5 by kernel_rfl).symm.trans hg)
  obtain rfl := Option.some.inj ((show (Tryz.prog.globals[(5 : Nat)]?).map (·.type) = some 233 by kernel_rfl).symm.trans hty)
  have hcs := cells_of_tab Tryz.underlying233 Tryz.underlying122 (by kernel_rfl) (by kernel_rfl) hd
  unfold TabIs
  rw [hvar, ← hcs]
/-- All the listed tables. -/
theorem menv_laid {W : World} (h : laidMetH Tryz.prog Rows.mimeBackRow.laid W) (M : Int) (hM : W.cell? ⟨1, 0, none⟩ = some (.int .i64 M)) : MEnv W := by
  rw [MakeChecks.laidMetH_plain _ _ _ (by kernel_rfl)] at h
  have f1 : FoldTabs W := ⟨asc_laid (laidMet.reads h (List.mem_of_getElem? (i := 4) (by rw [← asc_same]; kernel_rfl))), orb_laid (laidMet.reads h (List.mem_of_getElem? (i := 5) (by rw [← orb_same]; kernel_rfl))), case_laid (laidMet.reads h (List.mem_of_getElem? (i := 7) (by kernel_rfl)))⟩
  have f2 : Lib.Utf8Tabs 6 7 W := utf8_laid (laidMet.reads h (List.mem_of_getElem? (i := 8) (by kernel_rfl))) (laidMet.reads h (List.mem_of_getElem? (i := 3) (by kernel_rfl)))
  have f3 : HowTab W := hows_laid (laidMet.reads h (List.mem_of_getElem? (i := 6) (by kernel_rfl)))
  have f4 := pow_laid (laidMet.reads h (List.mem_of_getElem? (i := 2) (by kernel_rfl)))
  refine ⟨fun w' hb => ⟨f3.below hb, f1.below hb, ?_⟩, fun w' hb => ⟨f3.below hb, ⟨M, (hb.cell (p := ⟨1, 0, none⟩) (World.block_lt_of_cell? W _ hM)).trans hM⟩, Go.Joins.tab_stays (show Tryz.prog.globalNamed "internal/strconv.uint64pow10" = some 5 by kernel_rfl) f4 hb (Nat.le_refl _)⟩⟩
  exact ⟨fun c hc => (hb.cell (p := ⟨6, c, none⟩) (World.block_lt_of_cell? W _ (f2.1 c hc))).trans (f2.1 c hc), fun i hi => ⟨(hb.cell (p := ⟨7, 2 * i, none⟩) (World.block_lt_of_cell? W _ (f2.2 i hi).1)).trans (f2.2 i hi).1, (hb.cell (p := ⟨7, 2 * i + 1, none⟩) (World.block_lt_of_cell? W _ (f2.2 i hi).2)).trans (f2.2 i hi).2⟩⟩
end Go.Proofs.YtpgnkhaanoalhaaGreatDoor

/- What the closings of this seat's rows share: the builder with the world's shape kept; the cell of internal/bytealg.MaxLen. -/
namespace Go.Proofs.YtpgnkhaanoalhaaGreatDoor
open Go.ChangeShapes Go.WideShapes Go.ChangeAt Go.RowKit
set_option linter.unusedVariables false

theorem own : ownKnob Tryz.prog.godebug = none := by kernel_rfl
theorem laidOut : laidOutB Tryz.prog = true := by kernel_rfl

/-- The builder 'and' with the world's shape kept. -/
theorem handed_and_shaped {H : Type} {enc : TypeId × Value → H} {a : Assume} {C : Checked} {os : Os} {f : FuncId} {fn : Func} {s : ChangeSpec} {conds : List PathCond} {apart fresh handsOn again : Bool} {X : World → Array Value → Prop}
    (hX : ∀ (w w' : World) (args : Array Value), w.heap = w'.heap → X w args → X w' args)
    (own : ownKnob C.prog.godebug = none) (started : os.Started) (noInit : C.prog.inits.idxOf? f = none) (hfn : C.prog.funcs[f]? = some fn)
    (witness : ∃ (w : World) (tape : Tape) (i : Input), w.os = os ∧ (w.forCall tape i).Shaped C.prog ∧ i.vars = [] ∧ Input.okWide C.prog (w.forCall tape i) .any w.heap.size f i ∧
      ((s.pre enc C.prog fn conds apart (w.forCall tape i).memory i.args ∧ X (w.forCall tape i).memory i.args) ∧ sizedMet enc C.prog fn (OpenSpec.ofChange s) apart (w.forCall tape i).memory i.args) ∧ a.holds C.prog (lone (Frame.enter C.prog f i.args .normal) [] (w.forCall tape i)))
    (contract : ∀ (W : World) (base : Nat) (args : Array Value) (ds gs : List (DataW H)) (before : List MemPlace),
      (∀ (j : Nat) t v, fn.params[j]? = some t → args[j]? = some v → Value.okWide C.prog W .any base t v) →
      DataW.Whole enc C.prog fn.params.toList s.vars apart W args.toList ds gs before → X W args → W.ShapedOpen C.prog →
      Calls C.prog f args W fun e W' => ∃ v, e = .returned v ∧ s.post enc C.prog fn apart fresh handsOn again W args v W') :
    ReturnsInHanded a C os f .any (fun w args => (s.pre enc C.prog fn conds apart w args ∧ X w args) ∧ sizedMet enc C.prog fn (OpenSpec.ofChange s) apart w args) (s.post enc C.prog fn apart fresh handsOn again) := by
  refine returnsInHanded_of_calls own started noInit witness ?_
  intro w tape i _ hsh _ hok hpre hholds
  obtain ⟨_, _, _, fn', hfn', _, _, _, _, hval⟩ := hok
  have e : fn' = fn := Option.some.inj (hfn'.symm.trans hfn)
  subst e
  obtain ⟨⟨⟨ds, gs, before, hw, hc⟩, hx⟩, hz⟩ := hpre
  have hw' := DataW.Whole.of_heap (w' := w.forCall tape i) (by rfl) hw
  refine (contract (w.forCall tape i) w.heap.size i.args ds gs before hval hw' (hX _ _ _ (by rfl) hx) hsh).mono fun e W' ⟨v, he, hp⟩ => ?_
  subst he
  exact ChangeSpec.post_blind hp

theorem sized_of_heap {H : Type} {enc : TypeId × Value → H} {P : Program} {fn : Func} {s : OpenSpec} {apart : Bool} {w w' : World} {args : Array Value} (hh : w.heap = w'.heap) (h : sizedMet enc P fn s apart w args) : sizedMet enc P fn s apart w' args := by
  obtain ⟨h1, ds, gs, before, hw, h2⟩ := h
  exact ⟨h1, ds, gs, before, DataW.Whole.of_heap hh hw, h2⟩

/-- The same, with what the arguments weigh kept besides. -/
theorem handed_sized {H : Type} {enc : TypeId × Value → H} {a : Assume} {C : Checked} {os : Os} {f : FuncId} {fn : Func} {s : ChangeSpec} {conds : List PathCond} {apart fresh handsOn again : Bool} {X : World → Array Value → Prop}
    (hX : ∀ (w w' : World) (args : Array Value), w.heap = w'.heap → X w args → X w' args)
    (own : ownKnob C.prog.godebug = none) (started : os.Started) (noInit : C.prog.inits.idxOf? f = none) (hfn : C.prog.funcs[f]? = some fn)
    (witness : ∃ (w : World) (tape : Tape) (i : Input), w.os = os ∧ (w.forCall tape i).Shaped C.prog ∧ i.vars = [] ∧ Input.okWide C.prog (w.forCall tape i) .any w.heap.size f i ∧
      ((s.pre enc C.prog fn conds apart (w.forCall tape i).memory i.args ∧ X (w.forCall tape i).memory i.args) ∧ sizedMet enc C.prog fn (OpenSpec.ofChange s) apart (w.forCall tape i).memory i.args) ∧ a.holds C.prog (lone (Frame.enter C.prog f i.args .normal) [] (w.forCall tape i)))
    (contract : ∀ (W : World) (base : Nat) (args : Array Value) (ds gs : List (DataW H)) (before : List MemPlace),
      (∀ (j : Nat) t v, fn.params[j]? = some t → args[j]? = some v → Value.okWide C.prog W .any base t v) →
      DataW.Whole enc C.prog fn.params.toList s.vars apart W args.toList ds gs before → X W args → sizedMet enc C.prog fn (OpenSpec.ofChange s) apart W args → W.ShapedOpen C.prog →
      Calls C.prog f args W fun e W' => ∃ v, e = .returned v ∧ s.post enc C.prog fn apart fresh handsOn again W args v W') :
    ReturnsInHanded a C os f .any (fun w args => (s.pre enc C.prog fn conds apart w args ∧ X w args) ∧ sizedMet enc C.prog fn (OpenSpec.ofChange s) apart w args) (s.post enc C.prog fn apart fresh handsOn again) := by
  refine returnsInHanded_of_calls own started noInit witness ?_
  intro w tape i _ hsh _ hok hpre hholds
  obtain ⟨_, _, _, fn', hfn', _, _, _, _, hval⟩ := hok
  have e : fn' = fn := Option.some.inj (hfn'.symm.trans hfn)
  subst e
  obtain ⟨⟨⟨ds, gs, before, hw, hc⟩, hx⟩, hz⟩ := hpre
  have hw' := DataW.Whole.of_heap (w' := w.forCall tape i) (by rfl) hw
  refine (contract (w.forCall tape i) w.heap.size i.args ds gs before hval hw' (hX _ _ _ (by rfl) hx) (sized_of_heap (by rfl) hz) hsh).mono fun e W' ⟨v, he, hp⟩ => ?_
  subst he
  exact ChangeSpec.post_blind hp

theorem maxLen_cell {W : World} (h : W.ShapedOpen Tryz.prog) : ∃ m, W.cell? ⟨1, 0, none⟩ = some (.int .i64 m) :=
  cell_of_shapedOpen_int (P := Tryz.prog) (g := 1) (t := 3) (zero := #[.int .i64 0]) h (of_decide_eq_true (by kernel_rfl)) (by kernel_rfl) rfl (by kernel_rfl) (by kernel_rfl) Tryz.underlying3
end Go.Proofs.YtpgnkhaanoalhaaGreatDoor
