/- The walk of the law HeaderSays, over whatever strings.EqualFold answers: it answers true, and nothing that was there is changed. Conditions: the fields and the bytes lie there; strings.EqualFold answers some bool at each name; the tables of unicode/utf8 lie there as the program's text lays them. -/
import Derived.Test.YtnmmlbgadibimaaDoorRGot
import Derived.Test.YtnmmlbgadibimaaDoorFRead
import Derived.Test.YtnmmlbgadibimaaDoorHeaded
namespace Go.Proofs.YtnmmlbgadibimaaDoor
open Go.RowKit

theorem fl_inj {a b : List FV} (h : a.map fl = b.map fl) : a = b := by rw [of_fl h]; exact (of_fl rfl).symm

theorem fl_of (l : List Fld) : (l.map fvOf).map fl = l := by
  rw [List.map_map]
  have : (fl ∘ fvOf) = id := by funext f; rfl
  rw [this, List.map_id]

set_option maxHeartbeats 8000000 in
set_option maxRecDepth 100000 in
theorem hsays_any (E : ByteArray → Bool) (p0 p1 : Option Addr) (n0 c0 n1 c1 : Nat) (l : List FV) (Lb : List UInt8) (nm s : ByteArray) (e0 : n0 = l.length) (e1 : n1 = Lb.length) (w : World)
    (hm0 : n0 ≤ maxLen) (hl : FLen l) (hr0 : FRow w p0 l) (hr1 : BRow w p1 Lb) (hp1 : p1 = none → n1 = 0 ∧ c1 = 0) (hc1 : n1 ≤ c1) (hc1m : c1 ≤ maxLen) (hs : s.size ≤ maxLen)
    (hE : ∀ f ∈ l, ∀ w', Below w.heap.size w w' → Calls Tryd.prog 49 #[.string f.1, .string nm] w' fun e w'' => e = .returned (.bool (E f.1)) ∧ Below w'.heap.size w' w'')
    (hT : ∀ w', Below w.heap.size w w' → Lib.Utf8Tabs 4 5 w') :
    Calls Tryd.prog 7 #[.slice p0 n0 c0, .slice p1 n1 c1, .string nm, .string s] w fun e w' => e = .returned (.bool true) ∧ Below w.heap.size w w' := by
  obtain ⟨F2, K2, E2, hF2⟩ : ∃ F K E, parseF Lb = (F, K, E) := ⟨_, _, _, rfl⟩
  obtain ⟨M3, F3, E3, hF3⟩ : ∃ M F E, paramsF s.data.toList = (M, F, E) := ⟨_, _, _, rfl⟩
  obtain ⟨fs2, hfs2⟩ : ∃ fs2 : List FV, fs2.map fl = F2 := ⟨F2.map fvOf, fl_of F2⟩
  obtain ⟨fs3, hfs3⟩ : ∃ fs3 : List FV, fs3.map fl = F3 := ⟨F3.map fvOf, fl_of F3⟩
  have key2 : ∀ (W : World) (e : Ending) (w' : World), Below w.heap.size w W → FReadPost W (parseF Lb) e w' → ∃ p c, e = .returned (.tuple #[.slice p fs2.length c, .int .i64 (K2 : Int), .int .i64 (E2 : Int)]) ∧ Below w.heap.size w w' ∧ Hid (FRow w' p fs2) ∧ Below W.heap.size W w' ∧ fs2.length ≤ maxLen := by
    intro W e w' hW hpost
    obtain ⟨hb, p, c, fs, he, hm, h1, h2, hr, _⟩ := hpost
    rw [hF2] at he hm
    obtain rfl : fs = fs2 := fl_inj (hm.trans hfs2.symm)
    exact ⟨p, c, he, hW.trans (hb.mono hW.size), hr, hb, Nat.le_trans h1 h2⟩
  have key3 : ∀ (W : World) (e : Ending) (w' : World), Below w.heap.size w W → ParamsPost W (paramsF s.data.toList) e w' → ∃ p c, e = .returned (.tuple #[.string (ba M3), .slice p fs3.length c, .int .i64 (E3 : Int)]) ∧ Below w.heap.size w w' ∧ Hid (FRow w' p fs3) ∧ Below W.heap.size W w' ∧ fs3.length ≤ maxLen := by
    intro W e w' hW hpost
    obtain ⟨hb, p, c, fs, he, hm, h1, h2, hr, _⟩ := hpost
    rw [hF3] at he hm
    obtain rfl : fs = fs3 := fl_inj (hm.trans hfs3.symm)
    exact ⟨p, c, he, hW.trans (hb.mono hW.size), hr, hb, Nat.le_trans h1 h2⟩
  obtain ⟨M3b, hM3b⟩ : ∃ M3b, ba M3 = M3b := ⟨_, rfl⟩
  rw [hM3b] at key3
  have CPa : Hid (∀ W, Below w.heap.size w W → Calls Tryd.prog 29 #[.slice p1 n1 c1] W fun e w' => ∃ p c, e = .returned (.tuple #[.slice p fs2.length c, .int .i64 (K2 : Int), .int .i64 (E2 : Int)]) ∧ Below w.heap.size w w' ∧ Hid (FRow w' p fs2) ∧ Below W.heap.size W w' ∧ fs2.length ≤ maxLen) := fun W hW => (hparse_any p1 n1 c1 Lb e1 W hp1 (hr1.below hW)).mono (fun e w' h => key2 W e w' hW h)
  have CFr : Hid (n1 ≤ 40000 → ∀ W, Below w.heap.size w W → Calls Tryd.prog 43 #[.slice p1 n1 c1] W fun e w' => ∃ p c, e = .returned (.tuple #[.slice p fs2.length c, .int .i64 (K2 : Int), .int .i64 (E2 : Int)]) ∧ Below w.heap.size w w' ∧ Hid (FRow w' p fs2) ∧ Below W.heap.size W w' ∧ fs2.length ≤ maxLen) := fun h W hW => (fread_any p1 n1 c1 Lb e1 W h hc1 hc1m hp1 (hr1.below hW)).mono (fun e w' h => key2 W e w' hW h)
  have CPs : Hid (∀ W, Below w.heap.size w W → Calls Tryd.prog 30 #[.string s] W fun e w' => ∃ p c, e = .returned (.tuple #[.string M3b, .slice p fs3.length c, .int .i64 (E3 : Int)]) ∧ Below w.heap.size w w' ∧ Hid (FRow w' p fs3) ∧ Below W.heap.size W w' ∧ fs3.length ≤ maxLen) := fun W hW => (hparams_any s.data.toList W (by rw [← Lib.size_eq]; exact hs)).mono (fun e w' h => key3 W e w' hW h)
  have CPo : Hid (∀ W, Below w.heap.size w W → Calls Tryd.prog 31 #[.string s] W fun e w' => ∃ p c, e = .returned (.tuple #[.string M3b, .slice p fs3.length c, .int .i64 (E3 : Int)]) ∧ Below w.heap.size w w' ∧ Hid (FRow w' p fs3) ∧ Below W.heap.size W w' ∧ fs3.length ≤ maxLen) := fun W hW => (pof_any s W hs (fun w' hb => hT w' (hW.trans (hb.mono hW.size)))).mono (fun e w' h => key3 W e w' hW h)
  have HBig : Hid (40000 < n1 → fs2 = [] ∧ K2 = 0 ∧ E2 = 2) := fun h => by
    unfold parseF at hF2
    rw [if_pos (by omega)] at hF2
    have h1 := (Prod.mk.inj hF2).1
    have h2 := (Prod.mk.inj hF2).2
    rw [← h1] at hfs2
    exact ⟨by simpa using hfs2, (Prod.mk.inj h2).1.symm, (Prod.mk.inj h2).2.symm⟩
  have CCf : Hid (∀ W, Below w.heap.size w W → Calls Tryd.prog 32 #[.slice p0 n0 c0] W fun e w' => e = .returned (.int .i64 (checkV l : Nat)) ∧ Below W.heap.size W w') := fun W hW => check_any p0 n0 c0 l e0 W hm0 hl (hr0.below hW)
  have CCh : Hid (∀ W, Below w.heap.size w W → Calls Tryd.prog 38 #[.slice p0 n0 c0] W fun e w' => e = .returned (.int .i64 (checkV l : Nat)) ∧ Below W.heap.size W w') := fun W hW => hcheck_any p0 n0 c0 l e0 W hm0 hl (hr0.below hW)
  have CTk : Hid (∀ W, Calls Tryd.prog 34 #[.string s] W fun e w' => e = .returned (.bool (tokenS s.data.toList)) ∧ w' = W) := fun W => htok_any s W hs
  have CTr : Hid (∀ W, Calls Tryd.prog 35 #[.string s] W fun e w' => e = .returned (.bool (tokenS s.data.toList)) ∧ w' = W) := fun W => token_any s W hs
  have CVa : Hid (∀ W, Calls Tryd.prog 36 #[.string s] W fun e w' => e = .returned (.bool (valueS s.data.toList)) ∧ Below W.heap.size W w') := fun W => hval_any s W hs
  have CVr : Hid (∀ W, Calls Tryd.prog 37 #[.string s] W fun e w' => e = .returned (.bool (valueS s.data.toList)) ∧ w' = W) := fun W => value_any s W hs
  have CGe : Hid (∀ W, Below w.heap.size w W → Calls Tryd.prog 40 #[.slice p0 n0 c0, .string nm] W fun e w' => e = .returned (.string (getE E l)) ∧ Below W.heap.size W w') := fun W hW => hget_any E nm p0 n0 c0 l e0 W hm0 (fun f hf w' hb => hE f hf w' (hW.trans (hb.mono hW.size))) (hr0.below hW)
  have CGo : Hid (∀ W, Below w.heap.size w W → Calls Tryd.prog 41 #[.slice p0 n0 c0, .string nm] W fun e w' => e = .returned (.string (getE E l)) ∧ Below W.heap.size W w') := fun W hW => got_any E nm p0 n0 c0 l e0 W hm0 (fun f hf w' hb => hE f hf w' (hW.trans (hb.mono hW.size))) (hr0.below hW)
  have CP0 := hprint_any p0 n0 c0 l e0 w hm0 hl hr0
  generalize getE E l = GV at *
  generalize tokenS s.data.toList = TB at *
  generalize valueS s.data.toList = VB at *
  by_cases hk : checkV l = 0
  · have CF0 := fun (W : World) (hW : Below w.heap.size w W) => ftext_any p0 n0 c0 l e0 W hk (hr0.below hW)
    rw [printV, if_pos hk, hk] at CP0
    rw [hk] at CCf CCh
    obtain ⟨T, hT9⟩ : ∃ T, (⟨(textV l).toArray⟩ : ByteArray) = T := ⟨_, rfl⟩
    rw [hT9] at CP0
    have CPr : Hid (Calls Tryd.prog 28 #[.slice p0 n0 c0] w fun e w' => e = .returned (.tuple #[.string T, .int .i64 0]) ∧ Below w.heap.size w w') := CP0
    have CFt : Hid (∀ W, Below w.heap.size w W → Calls Tryd.prog 39 #[.slice p0 n0 c0] W fun e w' => e = .returned (.string T) ∧ Below W.heap.size W w') := fun W hW => by rw [← hT9]; exact CF0 W hW
    clear CF0 CP0 hT9 hk key2 key3 hE hT hF2 hF3 hfs2 hfs3 hr0 hr1 e0 e1 hM3b hl hp1
    have CCf : Hid (∀ W, Below w.heap.size w W → Calls Tryd.prog 32 #[.slice p0 n0 c0] W fun e w' => e = .returned (.int .i64 0) ∧ Below W.heap.size W w') := CCf.out
    have CCh : Hid (∀ W, Below w.heap.size w W → Calls Tryd.prog 38 #[.slice p0 n0 c0] W fun e w' => e = .returned (.int .i64 0) ∧ Below W.heap.size W w') := CCh.out
    go_enter Tryd.func7, Tryd.ntmps7
    go_wp2_with fail
    refine (CPr.out).mono ?_
    rintro e w1 ⟨rfl, B1⟩
    clear CPr
    go_wp2_with fail
    refine (CPa.out _ B1).mono ?_
    rintro e w2 ⟨p2, c2, rfl, B2, R2, _, h2m⟩
    clear B1
    go_wp2_with fail
    refine (CPs.out _ B2).mono ?_
    rintro e w3 ⟨p3, c3, rfl, B3, R3, D3, h3m⟩
    have R2b : Hid (FRow w3 p2 fs2) := R2.out.below D3
    clear B2 R2 D3
    go_wp2_with fail
    refine (CPo.out _ B3).mono ?_
    rintro e w4 ⟨p4, c4, rfl, B4, R4, D4, _⟩
    have R2c : Hid (FRow w4 p2 fs2) := R2b.out.below D4
    have R3b : Hid (FRow w4 p3 fs3) := R3.out.below D4
    clear B3 R2b R3 D4
    go_wp2_with fail
    refine (CCf.out _ B4).mono ?_
    rintro e w5 ⟨rfl, D5⟩
    have B5 := B4.trans (D5.mono B4.size)
    go_wp2_with fail
    refine (headed_any _).mono ?_
    rintro e w6 ⟨rfl, D6⟩
    have B6 := B5.trans (D6.mono B5.size)
    go_wp2_with fail
    refine (CTk.out _).mono ?_
    rintro e w' ⟨rfl, hw'⟩
    have hw'' := hw'.symm
    subst hw''
    go_wp2_with fail
    refine (CTr.out _).mono ?_
    rintro e w' ⟨rfl, hw'⟩
    have hw'' := hw'.symm
    subst hw''
    go_wp2_with fail
    refine (CVa.out _).mono ?_
    rintro e w7 ⟨rfl, D7⟩
    have B7 := B6.trans (D7.mono B6.size)
    go_wp2_with fail
    refine (CVr.out _).mono ?_
    rintro e w' ⟨rfl, hw'⟩
    have hw'' := hw'.symm
    subst hw''
    go_wp2_with fail
    refine (CCh.out _ B7).mono ?_
    rintro e w8 ⟨rfl, D8⟩
    have B8 := B7.trans (D8.mono B7.size)
    go_wp2_with fail
    refine (CFt.out _ B8).mono ?_
    rintro e w9 ⟨rfl, D9⟩
    have B9 := B8.trans (D9.mono B8.size)
    go_wp2_with fail
    refine (CGe.out _ B9).mono ?_
    rintro e w10 ⟨rfl, D10⟩
    have B10 := B9.trans (D10.mono B9.size)
    go_wp2_with fail
    refine (CGo.out _ B10).mono ?_
    rintro e w11 ⟨rfl, D11⟩
    have B11 := B10.trans (D11.mono B10.size)
    have D411 : Below w4.heap.size w4 w11 := (((((D5.trans (D6.mono D5.size)).trans (D7.mono (D5.trans (D6.mono D5.size)).size)).trans (D8.mono (by have := D5.size; have := D6.size; have := D7.size; omega))).trans (D9.mono (by have := D5.size; have := D6.size; have := D7.size; have := D8.size; omega))).trans (D10.mono (by have := D5.size; have := D6.size; have := D7.size; have := D8.size; have := D9.size; omega))).trans (D11.mono (by have := D5.size; have := D6.size; have := D7.size; have := D8.size; have := D9.size; have := D10.size; omega))
    clear D5 D6 D7 D8 D9 D10 D11 B4 B5 B6 B7 B8 B9 B10
    go_wp2_with fail
    refine (feq_any p3 p4 _ _ _ _ fs3 fs3 rfl rfl _ h3m (R3b.out.below D411) (R4.out.below D411)).mono ?_
    rintro e w12 ⟨rfl, D12⟩
    rw [show eqV fs3 fs3 = true from by unfold eqV; exact decide_eq_true rfl]
    have B12 := B11.trans (D12.mono B11.size)
    have D412 := D411.trans (D12.mono D411.size)
    clear D12 B11 D411 R3b R4
    by_cases hbig : 40000 < n1
    · obtain ⟨z1, z2, z3⟩ := HBig.out hbig
      have hbi : (40000 : Int) < (n1 : Int) := by omega
      subst z1 z2 z3
      go_wp2
      go_ret
      exact ⟨rfl, B12⟩
    · have hbi : ¬ (40000 : Int) < (n1 : Int) := by omega
      go_wp2_with fail
      refine (CFr.out (by omega) _ B12).mono ?_
      rintro e w13 ⟨p13, c13, rfl, B13, R13, D13, _⟩
      go_wp2_with fail
      refine (feq_any p2 p13 _ _ _ _ fs2 fs2 rfl rfl _ h2m ((R2c.out.below D412).below D13) R13.out).mono ?_
      rintro e w14 ⟨rfl, D14⟩
      rw [show eqV fs2 fs2 = true from by unfold eqV; exact decide_eq_true rfl]
      have B14 := B13.trans (D14.mono B13.size)
      clear D14 B13
      go_wp2
      go_ret
      exact ⟨rfl, B14⟩
  · rw [printV, if_neg hk] at CP0
    have CPr : Hid (Calls Tryd.prog 28 #[.slice p0 n0 c0] w fun e w' => e = .returned (.tuple #[.string ⟨#[]⟩, .int .i64 (checkV l : Nat)]) ∧ Below w.heap.size w w') := CP0
    have hk1 : ((checkV l : Nat) : Int) ≠ 0 := by omega
    have hk2 : (((checkV l : Nat) : Int) == 0) = false := by rw [beq_eq_false_iff_ne]; exact hk1
    generalize checkV l = E0 at *
    clear CP0 hk key2 key3 hE hT hF2 hF3 hfs2 hfs3 hr0 hr1 e0 e1 hM3b hl hp1
    go_enter Tryd.func7, Tryd.ntmps7
    go_wp2_with fail
    refine (CPr.out).mono ?_
    rintro e w1 ⟨rfl, B1⟩
    clear CPr
    go_wp2_with fail
    refine (CPa.out _ B1).mono ?_
    rintro e w2 ⟨p2, c2, rfl, B2, R2, _, h2m⟩
    clear B1
    go_wp2_with fail
    refine (CPs.out _ B2).mono ?_
    rintro e w3 ⟨p3, c3, rfl, B3, R3, D3, h3m⟩
    have R2b : Hid (FRow w3 p2 fs2) := R2.out.below D3
    clear B2 R2 D3
    go_wp2_with fail
    refine (CPo.out _ B3).mono ?_
    rintro e w4 ⟨p4, c4, rfl, B4, R4, D4, _⟩
    have R2c : Hid (FRow w4 p2 fs2) := R2b.out.below D4
    have R3b : Hid (FRow w4 p3 fs3) := R3.out.below D4
    clear B3 R2b R3 D4
    go_wp2_with fail
    refine (CCf.out _ B4).mono ?_
    rintro e w5 ⟨rfl, D5⟩
    have B5 := B4.trans (D5.mono B4.size)
    go_wp2_with fail
    refine (headed_any _).mono ?_
    rintro e w6 ⟨rfl, D6⟩
    have B6 := B5.trans (D6.mono B5.size)
    go_wp2_with fail
    refine (CTk.out _).mono ?_
    rintro e w' ⟨rfl, hw'⟩
    have hw'' := hw'.symm
    subst hw''
    go_wp2_with fail
    refine (CTr.out _).mono ?_
    rintro e w' ⟨rfl, hw'⟩
    have hw'' := hw'.symm
    subst hw''
    go_wp2_with fail
    refine (CVa.out _).mono ?_
    rintro e w7 ⟨rfl, D7⟩
    have B7 := B6.trans (D7.mono B6.size)
    go_wp2_with fail
    refine (CVr.out _).mono ?_
    rintro e w' ⟨rfl, hw'⟩
    have hw'' := hw'.symm
    subst hw''
    go_wp2_with fail
    refine (CCh.out _ B7).mono ?_
    rintro e w8 ⟨rfl, D8⟩
    have B8 := B7.trans (D8.mono B7.size)
    have D9 : Below w8.heap.size w8 w8 := Below.refl _ _
    have B9 := B8
    go_wp2_with fail
    refine (CGe.out _ B9).mono ?_
    rintro e w10 ⟨rfl, D10⟩
    have B10 := B9.trans (D10.mono B9.size)
    go_wp2_with fail
    refine (CGo.out _ B10).mono ?_
    rintro e w11 ⟨rfl, D11⟩
    have B11 := B10.trans (D11.mono B10.size)
    have D411 : Below w4.heap.size w4 w11 := (((((D5.trans (D6.mono D5.size)).trans (D7.mono (D5.trans (D6.mono D5.size)).size)).trans (D8.mono (by have := D5.size; have := D6.size; have := D7.size; omega))).trans (D9.mono (by have := D5.size; have := D6.size; have := D7.size; have := D8.size; omega))).trans (D10.mono (by have := D5.size; have := D6.size; have := D7.size; have := D8.size; have := D9.size; omega))).trans (D11.mono (by have := D5.size; have := D6.size; have := D7.size; have := D8.size; have := D9.size; have := D10.size; omega))
    clear D5 D6 D7 D8 D9 D10 D11 B4 B5 B6 B7 B8 B9 B10
    go_wp2_with fail
    refine (feq_any p3 p4 _ _ _ _ fs3 fs3 rfl rfl _ h3m (R3b.out.below D411) (R4.out.below D411)).mono ?_
    rintro e w12 ⟨rfl, D12⟩
    rw [show eqV fs3 fs3 = true from by unfold eqV; exact decide_eq_true rfl]
    have B12 := B11.trans (D12.mono B11.size)
    have D412 := D411.trans (D12.mono D411.size)
    clear D12 B11 D411 R3b R4
    by_cases hbig : 40000 < n1
    · obtain ⟨z1, z2, z3⟩ := HBig.out hbig
      have hbi : (40000 : Int) < (n1 : Int) := by omega
      subst z1 z2 z3
      go_wp2
      go_ret
      exact ⟨rfl, B12⟩
    · have hbi : ¬ (40000 : Int) < (n1 : Int) := by omega
      go_wp2_with fail
      refine (CFr.out (by omega) _ B12).mono ?_
      rintro e w13 ⟨p13, c13, rfl, B13, R13, D13, _⟩
      go_wp2_with fail
      refine (feq_any p2 p13 _ _ _ _ fs2 fs2 rfl rfl _ h2m ((R2c.out.below D412).below D13) R13.out).mono ?_
      rintro e w14 ⟨rfl, D14⟩
      rw [show eqV fs2 fs2 = true from by unfold eqV; exact decide_eq_true rfl]
      have B14 := B13.trans (D14.mono B13.size)
      clear D14 B13
      go_wp2
      go_ret
      exact ⟨rfl, B14⟩
end Go.Proofs.YtnmmlbgadibimaaDoor
