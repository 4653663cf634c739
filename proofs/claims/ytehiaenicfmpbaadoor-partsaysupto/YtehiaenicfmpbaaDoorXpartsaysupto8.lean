/- part.Check, part.Within: what the plain functions say; nothing that was there is changed. Condition: the part lies there. -/
import Derived.Test.YtehiaenicfmpbaaDoorXpartsaysupto7
namespace Go.Proofs.YtehiaenicfmpbaaDoor
open Go.RowKit

def izv (l : List Int) : List Value := l.map fun z => Value.int .i64 z
/-- The numbers l lie behind the address. -/
def IRow (w : World) (q : Option Addr) (l : List Int) : Prop := l ≠ [] → ∃ b o, q = some ⟨b, o, none⟩ ∧ ∀ i, i < l.length → w.cell? ⟨b, o + i, none⟩ = some (.int .i64 (l.getD i 0))
theorem IRow.below {w w' : World} {q : Option Addr} {l : List Int} (h : IRow w q l) (hb : Below w.heap.size w w') : IRow w' q l := by
  intro hne
  obtain ⟨b, o, rfl, hc⟩ := h hne
  refine ⟨b, o, rfl, fun i hi => ?_⟩
  have := hc i hi
  rw [hb.cell (p := ⟨b, o + i, none⟩) (World.block_lt_of_cell? w _ this)]
  exact this
theorem owned_ints {w : World} {B : Nat} {v : Value} {l : List Int} (h : w.ownsRow B 3 1 v l.length (izv l)) : ∃ p c, v = .slice p l.length c ∧ l.length ≤ c ∧ c ≤ maxLen ∧ (p = none → l.length = 0 ∧ c = 0) ∧ IRow w p l := by
  have h' := h
  rcases h.2 with ⟨rfl, h0⟩ | ⟨g, cap, cur, rfl, hg, hh, hnc, hcp, hcs, htake⟩
  · refine ⟨none, 0, by rw [h0], by omega, by decide, fun _ => ⟨h0, rfl⟩, fun hne => absurd (List.length_eq_zero_iff.1 h0) hne⟩
  · refine ⟨some ⟨g, 0, none⟩, cap, rfl, hnc, hcp, fun e => (by cases e), fun _ => ⟨g, 0, rfl, fun i hi => ?_⟩⟩
    rw [Nat.zero_add, h'.cellAt i (by omega), izv, List.getElem?_map, List.getElem?_eq_getElem hi, List.getD_eq_getElem?_getD, List.getElem?_eq_getElem hi]
    rfl

theorem cell_lone (w : World) (v : Value) (t : TypeId) (b : Nat) (hb : b = w.heap.size) : ∀ j x, [v][j]? = some x → (w.alloc (.cells #[v] t)).cell? ((⟨b, 0, none⟩ : Addr).add j) = some x := by
  subst hb
  exact cell_one w v t rfl

def WithinPost (w : World) (r : Nat × List (PT × Int)) (e : Ending) (w' : World) : Prop :=
  Below w.heap.size w w' ∧ (r.1 ≠ 0 → e = .returned (.tuple #[.slice none 0 0, .int .i64 (r.1 : Int)])) ∧
  (r.1 = 0 → ∃ q c, e = .returned (.tuple #[.slice q r.2.length c, .int .i64 0]) ∧ r.2.length ≤ c ∧ c ≤ maxLen ∧ (q = none → c = 0) ∧ IRow w' q (r.2.map (·.2)))

theorem placesP_few (p : PT) : (placesP p).2.length ≤ 12 := by
  unfold placesP
  cases h : put 4 [] p 1 (-1) with
  | none => simp
  | some L =>
    simp only
    split
    · exact (put_length 4 [] L p 1 (-1) (by simp) h).2
    · simp

/-- What each place holds. -/
theorem place_each {w : World} {B n : Nat} {q : Option Addr} {c : Nat} {X : List PX} {L : List (PT × Int)} (hown : w.ownsRow B 143 2 (.slice q n c) n (plv X)) (hX : PLs w X L) (hn : n = L.length) (k : Nat) (hk : k < n) :
    ∃ (g : Nat) (b o : Nat) (y : PT × Int), q = some ⟨g, 0, none⟩ ∧ L[k]? = some y ∧ w.cell? ⟨g, k * 2, none⟩ = some (.pointer (some ⟨b, o, none⟩)) ∧ w.cell? ⟨g, k * 2 + 1, none⟩ = some (.int .i64 y.2) ∧ ∃ f, PAt w f b o y.1 := by
  rcases hown.2 with ⟨h1, h2⟩ | ⟨g, cap, cur, h1, _⟩
  · omega
  · injection h1 with h1
    subst h1
    have hkX : k < X.length := by rw [hX.1]; omega
    have hkL : k < L.length := by omega
    have e1 := pl_at X k X[k] (List.getElem?_eq_getElem hkX)
    obtain ⟨e2, f, hp⟩ := hX.2 k X[k] L[k] (List.getElem?_eq_getElem hkX) (List.getElem?_eq_getElem hkL)
    refine ⟨g, X[k].1.1, X[k].1.2, L[k], rfl, List.getElem?_eq_getElem hkL, ?_, ?_, f, hp⟩
    · rw [hown.cellAt (k * 2) (by omega), e1.1]
    · rw [hown.cellAt (k * 2 + 1) (by omega), e1.2, e2]

/-- part.Check. -/
theorem pcheck_any (p : PT) (pb : Option Addr) (cb : Nat) (pk : Option Addr) (ck F : Nat) (w : World) (hH : PHeld w F p pb cb pk ck) :
    Calls Tryd.prog 57 #[.agg #[.string p.ty, .string p.cs, .string p.id, .string p.loc, .int .i64 p.how, .slice pb p.body.length cb, .slice pk p.kids.length ck]] w fun e w' => e = .returned (.int .i64 ((placesP p).1 : Nat)) ∧ Below w.heap.size w w' := by
  have CC : Hid (∀ w', Below w.heap.size w w' → Calls Tryd.prog 121 #[.agg #[.string p.ty, .string p.cs, .string p.id, .string p.loc, .int .i64 p.how, .slice pb p.body.length cb, .slice pk p.kids.length ck]] w' fun e w'' => CheckedPost w' (placesP p) e w'') := fun w' hb => checked_any p pb cb pk ck F w' (hH.below hb)
  generalize placesP p = R at *
  clear hH
  go_enter Tryd.func57, Tryd.ntmps57
  go_wp2_with fail
  refine (CC.out _ ((Below.refl _ _).alloc (Nat.le_refl _) _)).mono ?_
  rintro e w1 ⟨hb1, h1, h2⟩
  have hbel := ((Below.refl _ w).alloc (Nat.le_refl _) _).trans (hb1.mono (by simp))
  by_cases hr : R.1 = 0
  · obtain ⟨q, c, X, rfl, _, _⟩ := h2 hr
    have HR : Hid (R.1 = 0) := hr
    clear h1 h2 hr CC
    go_wp2_with fail
    go_ret
    exact ⟨by rw [HR.out]; rfl, hbel⟩
  · obtain rfl := h1 hr
    clear h1 h2 CC
    obtain ⟨r, hrr⟩ : ∃ r, R.1 = r := ⟨_, rfl⟩
    have HR : Hid (R.1 = r) := hrr
    simp only [hrr]
    clear hrr hr
    go_wp2_with fail
    go_ret
    exact ⟨by rw [HR.out]; rfl, hbel⟩

set_option maxHeartbeats 1000000 in
set_option maxRecDepth 100000 in
/-- part.Within. -/
theorem within_any (p : PT) (pb : Option Addr) (cb : Nat) (pk : Option Addr) (ck F : Nat) (w : World) (hH : PHeld w F p pb cb pk ck) :
    Calls Tryd.prog 54 #[.agg #[.string p.ty, .string p.cs, .string p.id, .string p.loc, .int .i64 p.how, .slice pb p.body.length cb, .slice pk p.kids.length ck]] w fun e w' => WithinPost w (placesP p) e w' := by
  have CC : Hid (∀ w', Below w.heap.size w w' → Calls Tryd.prog 121 #[.agg #[.string p.ty, .string p.cs, .string p.id, .string p.loc, .int .i64 p.how, .slice pb p.body.length cb, .slice pk p.kids.length ck]] w' fun e w'' => CheckedPost w' (placesP p) e w'') := fun w' hb => checked_any p pb cb pk ck F w' (hH.below hb)
  have hfew := placesP_few p
  generalize placesP p = R at *
  clear hH
  obtain ⟨i0, hi, hz0, hz1, hz2⟩ := info_parts info_int
  go_enter Tryd.func54, Tryd.ntmps54
  go_wp2_with fail
  refine (CC.out _ ((Below.refl _ _).alloc (Nat.le_refl _) _)).mono ?_
  rintro e w1 ⟨hb1, h1, h2⟩
  have hbel1 := ((Below.refl _ w).alloc (Nat.le_refl _) _).trans (hb1.mono (by simp))
  by_cases hr : R.1 = 0
  · obtain ⟨q, c, X, rfl, hown, hX⟩ := h2 hr
    have HR0 : Hid (R.1 = 0) := hr
    clear h1 h2 hr CC hb1
    obtain ⟨n, hn⟩ : ∃ n, R.2.length = n := ⟨_, rfl⟩
    have HN : Hid (R.2.length = n) := hn
    rw [hn] at hown hfew
    simp only [hn]
    have HE : Hid (∀ k, k < n → ∃ (g : Nat) (b o : Nat) (y : PT × Int), q = some ⟨g, 0, none⟩ ∧ R.2[k]? = some y ∧ w1.cell? ⟨g, k * 2, none⟩ = some (.pointer (some ⟨b, o, none⟩)) ∧ w1.cell? ⟨g, k * 2 + 1, none⟩ = some (.int .i64 y.2) ∧ ∃ f, PAt w1 f b o y.1) := fun k hk => place_each hown hX hn.symm k hk
    clear hown hX hn
    go_wp2_with fail
    go_loopw [6, 19] (fun ov iv wr => ∃ (k : Nat) (q6 : Option Addr) (n6 c6 : Nat), k ≤ n ∧ iv = .int .i64 k ∧ ov = .slice q6 n6 c6 ∧ Below w1.heap.size w1 wr ∧ Hid (wr.ownsRow w1.heap.size 3 1 (.slice q6 n6 c6) k (izv ((R.2.take k).map (·.2))))) (fun _ iv _ => n - (intOf iv).toNat)
    case atStart => exact ⟨0, none, 0, 0, Nat.zero_le _, rfl, rfl, Below.refl _ _, World.ownsRow_nil _ _ _ _⟩
    case round =>
      obtain ⟨k, q6, n6, c6, hk, rfl, rfl, hbr, HO⟩ := hrel
      have hsr := hbr.size
      by_cases hlt : k < n
      · have hlz : (k : Int) < (n : Int) := by omega
        obtain ⟨g, b, o, y, rfl, hy, hc1, hc2, _⟩ := HE.out k hlt
        have hcr1 := (hbr.cell (World.block_lt_of_cell? w1 _ hc1)).trans hc1
        have hcr2 := (hbr.cell (World.block_lt_of_cell? w1 _ hc2)).trans hc2
        have HT : Hid (izv ((R.2.take (k + 1)).map (·.2)) = izv ((R.2.take k).map (·.2)) ++ [.int .i64 y.2]) := by
          unfold Hid
          rw [List.take_add_one, hy]
          simp [izv]
        clear hc1 hc2 HE hy
        obtain ⟨z, hz⟩ : ∃ z, y.2 = z := ⟨_, rfl⟩
        rw [hz] at hcr2 HT
        clear hz
        go_wp2_with (at_builtin; refine wpList_append_own _ rfl (.tmp 23) (.tmp 26) 68 rfl w1.heap.size 3 i0 (.int .i64 0) 1 8 Tryd.underlying68 hi hz0 hz1 hz2 rfl (by decide) _ _ _ rfl ((HO.out.alloc _).alloc _) ⟨wr.heap.size + 1, 0, none⟩ 1 1 [.int .i64 z] rfl rfl (cell_lone _ _ _ _ (by simp)) (one_int _) ?c3 ?c4 ?c5 ?_)
        case c3 => unfold maxLen; omega
        case c4 => omega
        case c5 => first | omega | (simp; omega)
        intro v9 w9 hown9 hg9 _
        have hb9 : Below w1.heap.size w1 w9 := ((hbr.alloc hsr _).alloc (by simp; omega) _).grown hg9 (by simp; omega) (fun j hj => (HO.out.lt j hj).1)
        have R9 : Hid (w9.ownsRow w1.heap.size 3 1 v9 (k + 1) (izv ((R.2.take (k + 1)).map (·.2)))) := by unfold Hid; rw [HT.out, List.map_take]; exact hown9
        clear hown9 hg9 HO HT
        obtain ⟨q9, c9, rfl⟩ := owned_slice R9.out
        go_wp2_with fail
        go_roundw
        case rel => exact ⟨k + 1, q9, k + 1, c9, by omega, by go_num, rfl, hb9, R9⟩
        case measure => simp [intOf]; omega
      · have hlz : ¬ ((k : Int) < (n : Int)) := by omega
        obtain rfl : k = n := by omega
        have R9 : wr.ownsRow w1.heap.size 3 1 (.slice q6 n6 c6) (R.2.map (·.2)).length (izv (R.2.map (·.2))) := by
          have := HO.out
          rw [List.take_of_length_le (by rw [HN.out]; omega)] at this
          rw [List.length_map, HN.out]
          exact this
        obtain ⟨q9, c9, e9, hle, hcm, hnil, hrow⟩ := owned_ints R9
        injection e9 with e1 e2 e3
        subst e1 e2 e3
        rw [List.length_map, HN.out] at hle hnil
        have HRow : Hid (IRow wr q6 (R.2.map (·.2))) := hrow
        simp only [List.length_map, HN.out]
        clear hrow R9 HE HO
        go_wp2_with fail
        go_ret2
        refine ⟨hbel1.trans (hbr.mono hbel1.size), fun h => absurd HR0.out h, fun _ => ⟨q6, c6, ?_, ?_, hcm, fun h => (hnil h).2, HRow.out⟩⟩
        · simp only [HN.out]; rfl
        · rw [HN.out]; exact hle
  · obtain rfl := h1 hr
    clear h1 h2 CC
    have hrz : (((R.1 : Nat) : Int) == 0) = false := by rw [beq_eq_false_iff_ne]; omega
    obtain ⟨r, hrr⟩ : ∃ r, R.1 = r := ⟨_, rfl⟩
    have HR : Hid (R.1 = r) := hrr
    rw [hrr] at hrz hr
    simp only [hrr]
    clear hrr
    go_wp2_with fail
    go_ret2
    exact ⟨hbel1, fun _ => by rw [HR.out]; rfl, fun h => absurd (HR.out.symm.trans h) hr⟩
end Go.Proofs.YtehiaenicfmpbaaDoor
