/- unicode.SimpleFold at every rune: what the plain function says; nothing that was there is changed. Conditions: the three listed tables lie there. -/
import Derived.Test.YtpgnkhaanoalhaaGreatDoorXmimeborders3
import Derived.Test.YtpgnkhaanoalhaaGreatDoorXmimeborders4
import Derived.Test.YtpgnkhaanoalhaaGreatDoorXmimeborders5
import Derived.Deep.DeepMust
namespace Go.Proofs.YtpgnkhaanoalhaaGreatDoor
open Go.RowKit Go.Lib

def AscTab (w : World) : Prop := ∀ i, i < 128 → w.cell? ⟨2, i, none⟩ = some (.int .u16 ((asc.getD i 0 : Nat) : Int))
def OrbTab (w : World) : Prop := ∃ R oR cap, w.cell? ⟨3, 0, none⟩ = some (.slice (some ⟨R, oR, none⟩) 94 cap) ∧
  ∀ i, i < 94 → w.cell? ⟨R, oR + i * 2, none⟩ = some (.int .u16 (((orb.getD i (0, 0)).1 : Nat) : Int)) ∧ w.cell? ⟨R, oR + i * 2 + 1, none⟩ = some (.int .u16 (((orb.getD i (0, 0)).2 : Nat) : Int))
def FoldTabs (w : World) : Prop := AscTab w ∧ OrbTab w ∧ CaseVar 4 caseA w

theorem FoldTabs.below {w w' : World} (h : FoldTabs w) (hb : Below w.heap.size w w') : FoldTabs w' := by
  obtain ⟨h1, ⟨R, oR, cap, h2, h3⟩, ⟨S, oS, cs, h4, h5⟩⟩ := h
  have cl : ∀ {q : Addr} {v : Value}, w.cell? q = some v → w'.cell? q = some v := fun {q v} h => by
    rw [hb.cell (World.block_lt_of_cell? w _ h)]; exact h
  refine ⟨fun i hi => cl (h1 i hi), ⟨R, oR, cap, cl h2, fun i hi => ⟨cl (h3 i hi).1, cl (h3 i hi).2⟩⟩, ⟨S, oS, cs, cl h4, fun i hi => ?_⟩⟩
  obtain ⟨a, b, c, d, e⟩ := h5 i hi
  exact ⟨cl a, cl b, cl c, cl d, cl e⟩

def ptrOf (S oS : Nat) : Option Nat → Value
  | some i => .pointer (some ⟨S, oS + i * 5, none⟩)
  | none => .pointer none

set_option maxHeartbeats 1000000 in
set_option maxRecDepth 1000000 in
theorem sfold_small (r : Nat) (h : r < 128) (w : World) (hT : AscTab w) :
    Calls Tryz.prog 138 #[.int .i32 (r : Int)] w fun e w' => e = .returned (.int .i32 (sfold r : Nat)) ∧ Below w.heap.size w w' := by
  have hc := hT r h
  have hi := asc_in r h
  have HS : Hid (sfold r = asc.getD r 0) := sfold_low r h
  obtain ⟨v, hv⟩ : ∃ v, asc.getD r 0 = v := ⟨_, rfl⟩
  rw [hv] at hc hi HS
  clear hv
  clear hT
  go_enter Tryz.func138, Tryz.ntmps138
  go_wp2
  go_ret
  exact ⟨by rw [HS.out]; rfl, Below.refl _ _⟩

set_option maxHeartbeats 2000000 in
set_option maxRecDepth 1000000 in
theorem sfold_large (r : Nat) (h : ¬ r < 128) (hr : r ≤ 1114111) (w : World) (hO : OrbTab w) (hV : CaseVar 4 caseA w) :
    Calls Tryz.prog 138 #[.int .i32 (r : Int)] w fun e w' => e = .returned (.int .i32 (sfold r : Nat)) ∧ Below w.heap.size w w' := by
  obtain ⟨R, oR, cap, hg, hc⟩ := hO
  obtain ⟨S, oS, cs, hk, hT⟩ := hV
  have hh : ¬ ((r : Int) < 128) := by omega
  have CL := Tryz.unicode_lookupCaseRange caseA S oS cs r w hT caseA_ok2.ok (by rw [caseA_size]; omega)
  have HN : Hid (orb.find? (fun x => x.1 == r) = none → lookupIdx caseA r (caseA.size + 1) 0 caseA.size = none → sfold r = r) := fun a b => sfold_none r h a b
  have HR : Hid (∀ i, orb.find? (fun x => x.1 == r) = none → lookupIdx caseA r (caseA.size + 1) 0 caseA.size = some i → ∃ l u : Int, ∃ w1 : World, 0 ≤ l ∧ 0 ≤ u ∧ l ≤ 1114111 ∧ u ≤ 1114111 ∧ sfold r = (if l ≠ r then l.toNat else u.toNat) ∧
      (∀ w2, w2 = w → Calls Tryz.prog 185 #[.int .i64 1, .int .i32 (r : Int), .pointer (some ⟨S, oS + i * 5, none⟩)] w2 fun e w' => e = .returned (.int .i32 l) ∧ ∃ q, w' = w2.drewN q) ∧
      (∀ q, Calls Tryz.prog 185 #[.int .i64 0, .int .i32 (r : Int), .pointer (some ⟨S, oS + i * 5, none⟩)] (w.drewN q) fun e w' => e = .returned (.int .i32 u) ∧ ∃ q', w' = (w.drewN q).drewN q')) := fun i ho hl => by
    obtain ⟨hi, h1, h2⟩ := lookup_in caseA r _ _ _ i hl
    have r0 := conv_in i hi 0 (by omega) r h1 h2
    have r1 := conv_in i hi 1 (by omega) r h1 h2
    have f0 := convert_fits _ (caseA_row i hi) 0 (by omega) r h1 h2
    have f1 := convert_fits _ (caseA_row i hi) 1 (by omega) r h1 h2
    have hH := (caseA_ok2 i hi).2
    refine ⟨_, _, w, r1.1, r0.1, r1.2, r0.2, sfold_row r i h ho hl, fun w2 e => ?_, fun q => ?_⟩
    · subst e
      have := Tryz.unicode_convertCase 1 (by omega) r S (oS + i * 5) _ _ h1 h2 hH (hT i hi).1 (hT.delta i hi 1 (by omega))
      rwa [f1] at this
    · have := Tryz.unicode_convertCase 0 (by omega) r S (oS + i * 5) _ (w.drewN q) h1 h2 hH ((hT.drewN q) i hi).1 ((hT.drewN q).delta i hi 0 (by omega))
      rwa [f0] at this
  generalize lookupIdx caseA r (caseA.size + 1) 0 caseA.size = ANS at CL HN HR
  clear hT
  generalize caseA.size = ks at hk CL
  have CL' : Hid (∀ w', w' = w → Calls Tryz.prog 184 #[.int .i32 (r : Int), .slice (some ⟨S, oS, none⟩) ks cs] w' fun e w'' =>
      e = .returned (ptrOf S oS ANS) ∧ w'' = w') := fun w' e => by
    subst e
    refine CL.mono ?_
    rintro e w'' ⟨rfl, rfl⟩
    cases ANS <;> exact ⟨rfl, rfl⟩
  clear CL
  go_enter Tryz.func138, Tryz.ntmps138
  go_wp2
  go_loopg [3, 4, 5] 95 (fun g s3 s4 s5 wx => w = wx ∧ ∃ lo hi : Nat, s3 = .int .i64 lo ∧ s4 = .int .i64 hi ∧ lo ≤ hi ∧ hi ≤ 94 ∧ hi - lo < g ∧ Hid (∀ i, i < lo → i < 94 → (orb.getD i (0, 0)).1 < r) ∧ Hid (∀ i, hi ≤ i → i < 94 → r ≤ (orb.getD i (0, 0)).1))
  case atStart => exact ⟨rfl, 0, 94, rfl, rfl, Nat.zero_le _, Nat.le_refl _, by omega, fun i hi => by omega, fun i hi h2 => by omega⟩
  case round =>
    obtain ⟨rfl, lo, hi, rfl, rfl, hlh, hhn, hgg, hl1, hl2⟩ := hrel
    by_cases hlt : lo < hi
    · obtain ⟨g', rfl⟩ : ∃ g', gk = g' + 1 := ⟨gk - 1, by omega⟩
      have hz : (lo : Int) < (hi : Int) := by omega
      obtain ⟨m, hm⟩ : ∃ m, (lo + hi) / 2 = m := ⟨_, rfl⟩
      have hmr : lo ≤ m ∧ m < hi := by omega
      have hmz : ((lo : Int) + (hi : Int)) / 2 = (m : Int) := by omega
      have hmz2 : (m : Int) < 94 := by omega
      obtain ⟨c0, -⟩ := hc m (by omega)
      obtain ⟨o0, -⟩ := orb_in m (by omega)
      have HS : Hid (∀ i, i < m → (orb.getD i (0, 0)).1 < (orb.getD m (0, 0)).1) := fun i hi => orb_lt i m hi (by omega)
      have HS2 : Hid (∀ i, m ≤ i → i < 94 → (orb.getD m (0, 0)).1 ≤ (orb.getD i (0, 0)).1) := fun i hi h9 => by
        rcases Nat.lt_or_ge m i with h | h
        · exact Nat.le_of_lt (orb_lt m i h h9)
        · rw [show i = m from by omega]; exact Nat.le_refl _
      obtain ⟨V, hV⟩ : ∃ V, (orb.getD m (0, 0)).1 = V := ⟨_, rfl⟩
      rw [hV] at c0 o0 HS HS2
      have HV : Hid ((orb.getD m (0, 0)).1 = V) := hV
      clear hV hc hm
      by_cases hb : V < r
      · have hbz : (V : Int) < (r : Int) := by omega
        go_wp2
        go_roundg g'
        case measure => omega
        case rel => exact ⟨rfl, m + 1, hi, by first | rfl | simp, rfl, by omega, by omega, by omega, fun i hi h9 => by
          rcases Nat.lt_or_ge i m with h | h
          · have := HS.out i h; omega
          · rw [show i = m from by omega, HV.out]; exact hb, hl2⟩
      · have hbz : ¬ ((V : Int) < (r : Int)) := by omega
        go_wp2
        go_roundg g'
        case measure => omega
        case rel => exact ⟨rfl, lo, m, rfl, by first | rfl | simp, by omega, by omega, by omega, hl1, fun i hi h9 => by have := HS2.out i hi h9; omega⟩
    · have hz : ¬ ((lo : Int) < (hi : Int)) := by omega
      obtain rfl : lo = hi := by omega
      by_cases hf : lo < 94 ∧ (orb.getD lo (0, 0)).1 = r
      · have HS : Hid (sfold r = (orb.getD lo (0, 0)).2) := sfold_orb r lo h hf.1 hf.2
        obtain ⟨c0, c1⟩ := hc lo hf.1
        obtain ⟨o0, o1⟩ := orb_in lo hf.1
        have hl9 : (lo : Int) < 94 := by omega
        rw [hf.2] at c0 o0
        obtain ⟨V, hV⟩ : ∃ V, (orb.getD lo (0, 0)).2 = V := ⟨_, rfl⟩
        rw [hV] at c1 o1 HS
        clear hV
        clear hc hf hl1 hl2 hz hlt
        go_wp2
        go_ret
        exact ⟨by rw [HS.out]; rfl, Below.refl _ _⟩
      · have ho : orb.find? (fun x => x.1 == r) = none := find_none r lo hl1.out hl2.out hf
        have HC : Hid (lo < 94 → ∃ V : Nat, V < 65536 ∧ V ≠ r ∧ w.cell? ⟨R, oR + lo * 2, none⟩ = some (.int .u16 (V : Int))) := fun hl => ⟨_, (orb_in lo hl).1, fun e => hf ⟨hl, e⟩, (hc lo hl).1⟩
        clear hc hf hl1 hl2 hlt
        by_cases hl94 : lo < 94
        · obtain ⟨V, v1, v2, c0⟩ := HC.out hl94
          have hl9 : (lo : Int) < 94 := by omega
          have hne : ¬ ((V : Int) = (r : Int)) := by omega
          clear HC
          go_wp2_with fail
          refine (CL'.out _ rfl).mono ?_
          rintro e w' ⟨rfl, hw'⟩
          have hw'' := hw'.symm
          subst hw''
          cases ANS with
          | none =>
            simp only [ptrOf]
            have HS : Hid (sfold r = r) := HN.out ho rfl
            clear HN HR CL'
            go_wp2
            go_ret
            exact ⟨by rw [HS.out]; rfl, Below.refl _ _⟩
          | some i =>
            simp only [ptrOf]
            obtain ⟨l, u, w1, l0, u0, l1, u1, HS', C1', C0'⟩ := HR.out i ho rfl
            have C1 : Hid (∀ w2, w2 = w → Calls Tryz.prog 185 #[.int .i64 1, .int .i32 (r : Int), .pointer (some ⟨S, oS + i * 5, none⟩)] w2 fun e w' => e = .returned (.int .i32 l) ∧ ∃ q, w' = w2.drewN q) := C1'
            have C0 : Hid (∀ q, Calls Tryz.prog 185 #[.int .i64 0, .int .i32 (r : Int), .pointer (some ⟨S, oS + i * 5, none⟩)] (w.drewN q) fun e w' => e = .returned (.int .i32 u) ∧ ∃ q', w' = (w.drewN q).drewN q') := C0'
            have HS : Hid (sfold r = (if l ≠ r then l.toNat else u.toNat)) := HS'
            clear HN HR CL' C1' C0' HS' ho
            by_cases hlr : l = (r : Int)
            · have HS2 : Hid (((sfold r : Nat) : Int) = u) := by unfold Hid; rw [HS.out, if_neg (by simpa using hlr)]; omega
              clear HS
              go_wp2_with fail
              refine (C1.out _ rfl).mono ?_
              rintro e w' ⟨rfl, q, rfl⟩
              go_wp2_with fail
              refine (C0.out q).mono ?_
              rintro e w' ⟨rfl, q', rfl⟩
              go_wp2
              go_ret
              exact ⟨by rw [HS2.out]; rfl, below_drewN' (Below.refl _ _) _⟩
            · have HS2 : Hid (((sfold r : Nat) : Int) = l) := by unfold Hid; rw [HS.out, if_pos hlr]; omega
              clear HS
              go_wp2_with fail
              refine (C1.out _ rfl).mono ?_
              rintro e w' ⟨rfl, q, rfl⟩
              go_wp2
              go_ret
              exact ⟨by rw [HS2.out]; rfl, below_drewN' (Below.refl _ _) q⟩
        · have hl9 : ¬ ((lo : Int) < 94) := by omega
          clear HC
          go_wp2_with fail
          refine (CL'.out _ rfl).mono ?_
          rintro e w' ⟨rfl, hw'⟩
          have hw'' := hw'.symm
          subst hw''
          cases ANS with
          | none =>
            simp only [ptrOf]
            have HS : Hid (sfold r = r) := HN.out ho rfl
            clear HN HR CL'
            go_wp2
            go_ret
            exact ⟨by rw [HS.out]; rfl, Below.refl _ _⟩
          | some i =>
            simp only [ptrOf]
            obtain ⟨l, u, w1, l0, u0, l1, u1, HS', C1', C0'⟩ := HR.out i ho rfl
            have C1 : Hid (∀ w2, w2 = w → Calls Tryz.prog 185 #[.int .i64 1, .int .i32 (r : Int), .pointer (some ⟨S, oS + i * 5, none⟩)] w2 fun e w' => e = .returned (.int .i32 l) ∧ ∃ q, w' = w2.drewN q) := C1'
            have C0 : Hid (∀ q, Calls Tryz.prog 185 #[.int .i64 0, .int .i32 (r : Int), .pointer (some ⟨S, oS + i * 5, none⟩)] (w.drewN q) fun e w' => e = .returned (.int .i32 u) ∧ ∃ q', w' = (w.drewN q).drewN q') := C0'
            have HS : Hid (sfold r = (if l ≠ r then l.toNat else u.toNat)) := HS'
            clear HN HR CL' C1' C0' HS' ho
            by_cases hlr : l = (r : Int)
            · have HS2 : Hid (((sfold r : Nat) : Int) = u) := by unfold Hid; rw [HS.out, if_neg (by simpa using hlr)]; omega
              clear HS
              go_wp2_with fail
              refine (C1.out _ rfl).mono ?_
              rintro e w' ⟨rfl, q, rfl⟩
              go_wp2_with fail
              refine (C0.out q).mono ?_
              rintro e w' ⟨rfl, q', rfl⟩
              go_wp2
              go_ret
              exact ⟨by rw [HS2.out]; rfl, below_drewN' (Below.refl _ _) _⟩
            · have HS2 : Hid (((sfold r : Nat) : Int) = l) := by unfold Hid; rw [HS.out, if_pos hlr]; omega
              clear HS
              go_wp2_with fail
              refine (C1.out _ rfl).mono ?_
              rintro e w' ⟨rfl, q, rfl⟩
              go_wp2
              go_ret
              exact ⟨by rw [HS2.out]; rfl, below_drewN' (Below.refl _ _) q⟩

/-- unicode.SimpleFold. -/
theorem sfold_any (r : Nat) (hr : r ≤ 1114111) (w : World) (hT : FoldTabs w) :
    Calls Tryz.prog 138 #[.int .i32 (r : Int)] w fun e w' => e = .returned (.int .i32 (sfold r : Nat)) ∧ Below w.heap.size w w' := by
  by_cases h : r < 128
  · exact sfold_small r h w hT.1
  · exact sfold_large r h hr w hT.2.1 hT.2.2
end Go.Proofs.YtpgnkhaanoalhaaGreatDoor
