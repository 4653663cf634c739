/- The reference's sized: how many parts, how deep: few and not too deep, or too many or too deep, as the plain functions say; nothing that was there is changed. Condition: the part lies there. -/
import Derived.Test.YtehiaenicfmpbaaDoorPAll
import Derived.Test.YtehiaenicfmpbaaDoorPlainW
namespace Go.Proofs.YtehiaenicfmpbaaDoor
open Go.RowKit

/-- What sized answers: many, deep. -/
def sizedP : Nat → PT → Nat × Nat
  | 0, _ => (0, 99)
  | f + 1, p =>
    let r := p.kids.foldl (fun (acc : Option (Nat × Nat)) k => acc.bind fun a => if 100 < a.1 + (sizedP f k).1 ∨ 50 < max a.2 (sizedP f k).2 then none else some (a.1 + (sizedP f k).1, max a.2 (sizedP f k).2)) (some (1, 0))
    match r with
    | none => (100, 99)
    | some a => (a.1, a.2 + 1)
def sizedG (f : Nat) (acc : Nat × Nat) (ks : List PT) : Option (Nat × Nat) := ks.foldl (fun (acc : Option (Nat × Nat)) k => acc.bind fun a => if 100 < a.1 + (sizedP f k).1 ∨ 50 < max a.2 (sizedP f k).2 then none else some (a.1 + (sizedP f k).1, max a.2 (sizedP f k).2)) (some acc)
theorem sizedG_none (f : Nat) : ∀ ks : List PT, ks.foldl (fun (acc : Option (Nat × Nat)) k => acc.bind fun a => if 100 < a.1 + (sizedP f k).1 ∨ 50 < max a.2 (sizedP f k).2 then none else some (a.1 + (sizedP f k).1, max a.2 (sizedP f k).2)) none = none
  | [] => rfl
  | _ :: ks => by rw [List.foldl_cons]; exact sizedG_none f ks
theorem sizedG_nil (f : Nat) (a : Nat × Nat) : sizedG f a [] = some a := rfl
theorem sizedG_stop (f : Nat) (a : Nat × Nat) (k : PT) (ks : List PT) (h : 100 < a.1 + (sizedP f k).1 ∨ 50 < max a.2 (sizedP f k).2) : sizedG f a (k :: ks) = none := by
  unfold sizedG; rw [List.foldl_cons, Option.bind_some, if_pos h, sizedG_none]
theorem sizedG_on (f : Nat) (a : Nat × Nat) (k : PT) (ks : List PT) (h : ¬ (100 < a.1 + (sizedP f k).1 ∨ 50 < max a.2 (sizedP f k).2)) : sizedG f a (k :: ks) = sizedG f (a.1 + (sizedP f k).1, max a.2 (sizedP f k).2) ks := by
  unfold sizedG; rw [List.foldl_cons, Option.bind_some, if_neg h]
def endOf : Option (Nat × Nat) → Nat × Nat
  | none => (100, 99)
  | some a => (a.1, a.2 + 1)
theorem sizedP_succ (f : Nat) (p : PT) : sizedP (f + 1) p = endOf (sizedG f (1, 0) p.kids) := by
  rw [sizedP]
  unfold sizedG endOf
  rfl
theorem sizedG_le (f : Nat) : ∀ (ks : List PT) (a b : Nat × Nat), a.1 ≤ 100 → a.2 ≤ 50 → sizedG f a ks = some b → b.1 ≤ 100 ∧ b.2 ≤ 50
  | [], a, b, h1, h2, h => by rw [sizedG_nil] at h; cases h; exact ⟨h1, h2⟩
  | k :: ks, a, b, h1, h2, h => by
    by_cases hc : 100 < a.1 + (sizedP f k).1 ∨ 50 < max a.2 (sizedP f k).2
    · rw [sizedG_stop f a k ks hc] at h; cases h
    · rw [sizedG_on f a k ks hc] at h
      exact sizedG_le f ks _ b (by omega) (by omega) h
theorem sizedP_le (f : Nat) (p : PT) : (sizedP f p).1 ≤ 100 ∧ (sizedP f p).2 ≤ 99 := by
  cases f with
  | zero => exact ⟨Nat.zero_le _, Nat.le_refl _⟩
  | succ f =>
    rw [sizedP_succ]
    cases h : sizedG f (1, 0) p.kids with
    | none => exact ⟨by decide, by decide⟩
    | some a =>
      have := sizedG_le f p.kids (1, 0) a (by decide) (by decide) h
      exact ⟨this.1, by show a.2 + 1 ≤ 99; omega⟩

set_option maxHeartbeats 2000000 in
set_option maxRecDepth 100000 in
/-- The reference's sized. -/
theorem sized_any : ∀ (f F : Nat) (p : PT) (pb : Option Addr) (cb : Nat) (pk : Option Addr) (ck : Nat) (left : Int) (w : World), left = (f : Int) → f ≤ 10 → PHeld w F p pb cb pk ck →
    Calls Tryd.prog 123 #[.agg #[.string p.ty, .string p.cs, .string p.id, .string p.loc, .int .i64 p.how, .slice pb p.body.length cb, .slice pk p.kids.length ck], .int .i64 left] w
      fun e w' => e = .returned (.tuple #[.int .i64 ((sizedP f p).1 : Nat), .int .i64 ((sizedP f p).2 : Nat)]) ∧ Below w.heap.size w w' := by
  intro f
  induction f with
  | zero =>
    intro F p pb cb pk ck left w hl _ hH
    subst hl
    clear hH
    have HR : Hid (sizedP 0 p = (0, 99)) := rfl
    go_enter Tryd.func123, Tryd.ntmps123
    go_wp2_with fail
    go_ret2
    exact ⟨rfl, (Below.refl _ _).alloc (Nat.le_refl _) _⟩
  | succ f ih =>
    intro F p pb cb pk ck left w hl hf hH
    have hl0 : ¬ left = 0 := by omega
    have hlb : (left == 0) = false := by rw [beq_eq_false_iff_ne]; omega
    have hl1 : left ≤ 10 := by omega
    have hl2 : 0 ≤ left := by omega
    have HR : Hid (sizedP (f + 1) p = endOf (sizedG f (1, 0) p.kids)) := sizedP_succ f p
    obtain ⟨w1, hw1⟩ : ∃ w1, w.alloc (.cells #[.string p.ty, .string p.cs, .string p.id, .string p.loc, .int .i64 p.how, .slice pb p.body.length cb, .slice pk p.kids.length ck] 65) = w1 := ⟨_, rfl⟩
    have hb1 : Below w.heap.size w w1 := by rw [← hw1]; exact (Below.refl _ _).alloc (Nat.le_refl _) _
    have x6 : w1.cell? ⟨w.heap.size, 6, none⟩ = some (.slice pk p.kids.length ck) := by rw [← hw1]; simp
    have hkl : p.kids.length ≤ 9223372036854775807 := by have := hH.1.2.2.2.2.2.2.2; unfold maxLen at this; exact this
    have HKP : Hid (p.kids ≠ [] → ∃ F' b o, pk = some ⟨b, o, none⟩ ∧ ∀ i, i < p.kids.length → PAt w1 F' b (o + i * 7) (p.kids.getD i pt0)) := fun hne => by
      have hk : KAt w F pk p.kids := hH.2.2.2.2
      cases F with
      | zero => exact absurd hk hne
      | succ F' =>
        obtain ⟨b, o, e1, e2⟩ := hk.each hne
        exact ⟨F', b, o, e1, fun i hi => (e2 i hi).below hb1⟩
    have IH : Hid (∀ (F : Nat) (p : PT) (pb : Option Addr) (cb : Nat) (pk : Option Addr) (ck : Nat) (w : World), PHeld w F p pb cb pk ck →
      Calls Tryd.prog 123 #[.agg #[.string p.ty, .string p.cs, .string p.id, .string p.loc, .int .i64 p.how, .slice pb p.body.length cb, .slice pk p.kids.length ck], .int .i64 (left - 1)] w fun e w' => e = .returned (.tuple #[.int .i64 ((sizedP f p).1 : Nat), .int .i64 ((sizedP f p).2 : Nat)]) ∧ Below w.heap.size w w') := fun F p pb cb pk ck w h => ih F p pb cb pk ck (left - 1) w (by omega) (by omega) h
    obtain ⟨kids, hkids⟩ : ∃ kids, p.kids = kids := ⟨_, rfl⟩
    rw [hkids] at HR x6 hkl HKP hw1
    simp only [hkids]
    obtain ⟨n, hn⟩ : ∃ n, kids.length = n := ⟨_, rfl⟩
    have HN : Hid (kids.length = n) := hn
    rw [hn] at x6 hkl HKP hw1
    simp only [hn]
    clear hn hkids ih hH hl
    generalize sizedP (f + 1) p = RES at *
    go_enter Tryd.func123, Tryd.ntmps123
    go_wp2_with fail
    go_loopw [4, 5, 15] (fun mv dv iv wr => ∃ (k a d : Nat), k ≤ n ∧ iv = .int .i64 k ∧ mv = .int .i64 (a : Int) ∧ dv = .int .i64 (d : Int) ∧ a ≤ 100 ∧ d ≤ 50 ∧ Below w1.heap.size w1 wr ∧ Hid (RES = endOf (sizedG f (a, d) (kids.drop k)))) (fun _ _ iv _ => n - (intOf iv).toNat)
    case atStart => exact ⟨0, 1, 0, Nat.zero_le _, rfl, rfl, rfl, by omega, by omega, Below.refl _ _, HR⟩
    case round =>
      obtain ⟨k, a, d, hk, rfl, rfl, rfl, ha, hd, hbr, HK⟩ := hrel
      have hsr := hbr.size
      by_cases hlt : k < n
      · have hlz : (k : Int) < (n : Int) := by omega
        have hne : kids ≠ [] := fun e => by have := HN.out; rw [e] at this; simp at this; omega
        obtain ⟨F', bp, op, rfl, hPp⟩ := HKP.out hne
        have hkP : k < kids.length := by rw [HN.out]; exact hlt
        have HP1 := (hPp k hlt).below hbr
        have hdr : kids.drop k = kids.getD k pt0 :: kids.drop (k + 1) := by
          rw [List.drop_eq_getElem_cons hkP]
          simp [List.getD_eq_getElem?_getD, List.getElem?_eq_getElem hkP]
        rw [hdr] at HK
        obtain ⟨P1, hP1⟩ : ∃ P1, kids.getD k pt0 = P1 := ⟨_, rfl⟩
        rw [hP1] at HK HP1
        obtain ⟨a1, a2, a3, a4, hC1, hH1⟩ := HP1
        obtain ⟨d0, d1, d2, d3, d4, d5, d6⟩ := hC1
        have hbB : bp < wr.heap.size := World.block_lt_of_cell? wr _ d0
        have IH1 : Hid (∀ w', Below wr.heap.size wr w' → Calls Tryd.prog 123 #[.agg #[.string P1.ty, .string P1.cs, .string P1.id, .string P1.loc, .int .i64 P1.how, .slice a1 P1.body.length a2, .slice a3 P1.kids.length a4], .int .i64 (left - 1)] w' fun e w'' => e = .returned (.tuple #[.int .i64 ((sizedP f P1).1 : Nat), .int .i64 ((sizedP f P1).2 : Nat)]) ∧ Below w'.heap.size w' w'') := fun w' hb => IH.out F' P1 a1 a2 a3 a4 w' (hH1.below hb)
        have hle := sizedP_le f P1
        have HST : Hid (100 < a + (sizedP f P1).1 ∨ 50 < max d (sizedP f P1).2 → RES = (100, 99)) := fun h => by rw [HK.out, sizedG_stop f (a, d) P1 _ h]; rfl
        have HON : Hid (¬ (100 < a + (sizedP f P1).1 ∨ 50 < max d (sizedP f P1).2) → RES = endOf (sizedG f (a + (sizedP f P1).1, max d (sizedP f P1).2) (kids.drop (k + 1)))) := fun h => by rw [HK.out, sizedG_on f (a, d) P1 _ h]
        clear hPp hP1 hH1 HKP HK hdr
        generalize (sizedP f P1).1 = s1 at *
        generalize (sizedP f P1).2 = s2 at *
        obtain ⟨pt1, pc1, pi1, pl1, ph1, pb1, pk1⟩ := P1
        simp only at d0 d1 d2 d3 d4 d5 d6 IH1
        generalize pb1.length = m1 at *
        generalize pk1.length = m2 at *
        have hba := (Below.refl wr.heap.size wr).alloc (Nat.le_refl _) (.cells #[.string pt1, .string pc1, .string pi1, .string pl1, .int .i64 ph1, .slice a1 m1 a2, .slice a3 m2 a4] 65)
        obtain ⟨M, hM⟩ : ∃ M : Nat, max (d : Int) (s2 : Int) = (M : Int) ∧ M = max d s2 := ⟨max d s2, by omega, rfl⟩
        have hMz := hM.1
        go_wp2_with fail
        refine (IH1.out _ hba).mono ?_
        rintro e w2 ⟨rfl, hb2⟩
        have hbel2 : Below w1.heap.size w1 w2 := hbr.trans ((hba.trans (hb2.mono (by simp))).mono hsr)
        clear IH1
        by_cases hst : 100 < a + s1
        · have HN2 : Hid (RES = (100, 99)) := HST.out (.inl hst)
          have hstz : (100 : Int) < (a : Int) + (s1 : Int) := by omega
          clear HST HON
          go_wp2_with fail
          go_ret2
          exact ⟨by rw [HN2.out]; rfl, hb1.trans (hbel2.mono hb1.size)⟩
        · have hstz : decide ((100 : Int) < (a : Int) + (s1 : Int)) = false := by simp; omega
          by_cases hst2 : 50 < M
          · have HN2 : Hid (RES = (100, 99)) := HST.out (.inr (by rw [← hM.2]; exact hst2))
            have hst2z : (50 : Int) < (M : Int) := by omega
            clear HST HON
            go_wp2_with fail
            go_ret2
            exact ⟨by rw [HN2.out]; rfl, hb1.trans (hbel2.mono hb1.size)⟩
          · have HN2 : Hid (RES = endOf (sizedG f (a + s1, M) (kids.drop (k + 1)))) := by unfold Hid; rw [hM.2]; exact HON.out (by rw [← hM.2]; omega)
            have hst2z : decide ((50 : Int) < (M : Int)) = false := by simp; omega
            clear HST HON
            go_wp2_with fail
            go_roundw
            case rel => exact ⟨k + 1, a + s1, M, by omega, by go_num, by go_num, by first | rfl | (rw [hM.2]), by omega, by omega, hbel2, HN2⟩
            case measure => simp [intOf]; omega
      · have hlz : ¬ ((k : Int) < (n : Int)) := by omega
        have HN2 : Hid (RES = (a, d + 1)) := by unfold Hid; rw [HK.out, List.drop_of_length_le (by rw [HN.out]; omega), sizedG_nil]; rfl
        clear HK HKP IH
        go_wp2_with fail
        go_ret2
        exact ⟨by rw [HN2.out]; first | rfl | simp, hb1.trans (hbr.mono hb1.size)⟩
end Go.Proofs.YtehiaenicfmpbaaDoor
