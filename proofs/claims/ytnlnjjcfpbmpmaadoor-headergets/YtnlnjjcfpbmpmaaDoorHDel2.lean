/- slices.DeleteFunc, slices.Clone of fields: what is left, in the caller's own memory. What the caller does not own is as it was. Conditions: names of ASCII letters; at most a hundred fields. -/
import Derived.Test.YtnlnjjcfpbmpmaaDoorHDel
import Derived.Test.YtnlnjjcfpbmpmaaDoorHParam2
namespace Go.Proofs.YtnlnjjcfpbmpmaaDoor
open Go.RowKit

theorem fv_set2 : ∀ (R : List FV) (i : Nat) (a b : ByteArray), i < R.length → ((fv R).set (i * 2) (.string a)).set (i * 2 + 1) (.string b) = fv (R.set i (a, b))
  | [], i, _, _, h => by simp at h
  | f :: R, 0, a, b, _ => by simp [fv]
  | f :: R, i + 1, a, b, h => by
    rw [show fv (f :: R) = Value.string f.1 :: Value.string f.2 :: fv R from rfl, show (i + 1) * 2 = i * 2 + 2 from by omega]
    simp only [List.set_cons_succ, show i * 2 + 2 + 1 = i * 2 + 1 + 2 from by omega]
    rw [fv_set2 R i a b (by simpa using h)]
    rfl
theorem fv_take (R : List FV) : ∀ i, (fv R).take (i * 2) = fv (R.take i) := by
  induction R with
  | nil => intro i; simp [fv]
  | cons f R ih =>
    intro i
    match i with
    | 0 => simp [fv]
    | i + 1 =>
      rw [show fv (f :: R) = Value.string f.1 :: Value.string f.2 :: fv R from rfl, show (i + 1) * 2 = i * 2 + 1 + 1 from by omega, List.take_succ_cons, List.take_succ_cons, ih, List.take_succ_cons]
      rfl

theorem kept_snoc (NM : ByteArray) (l : List FV) (f : FV) : kept NM (l ++ [f]) = kept NM l ++ (if sameN NM f.1 = true then [] else [f]) := by
  unfold kept
  rw [List.filter_append]
  by_cases h : sameN NM f.1 = true <;> simp [h]
theorem take_getD (l : List FV) (k : Nat) (h : k < l.length) : l.take (k + 1) = l.take k ++ [l.getD k default] := by
  rw [List.take_add_one, List.getElem?_eq_getElem h]
  simp [List.getD_eq_getElem?_getD, List.getElem?_eq_getElem h]
theorem kept_all (NM : ByteArray) (l : List FV) (h : ∀ f ∈ l, sameN NM f.1 = false) : kept NM l = l := by
  unfold kept
  rw [List.filter_eq_self]
  intro f hf
  simp [h f hf]

/-- What the loop has come to. -/
structure Kept (NM : ByteArray) (l : List FV) (i j : Nat) (R : List FV) : Prop where
  lt : i < j
  le : j ≤ l.length
  len : R.length = l.length
  ahead : R.take i = kept NM (l.take j)
  many : i = (kept NM (l.take j)).length
  behind : R.drop j = l.drop j
theorem Kept.at_ {NM : ByteArray} {l : List FV} {i j : Nat} {R : List FV} (h : Kept NM l i j R) (hj : j < l.length) : R.getD j default = l.getD j default := by
  have := h.behind
  rw [fv_at R j (by rw [h.len]; exact hj), fv_at l j hj] at this
  exact (List.cons.inj this).1
theorem Kept.drops {NM : ByteArray} {l : List FV} {i j : Nat} {R : List FV} (h : Kept NM l i j R) (hj : j < l.length) (hs : sameN NM (l.getD j default).1 = true) : Kept NM l i (j + 1) R := by
  have hk : kept NM (l.take (j + 1)) = kept NM (l.take j) := by rw [take_getD l j hj, kept_snoc, if_pos hs, List.append_nil]
  refine ⟨by have := h.lt; omega, by omega, h.len, by rw [hk]; exact h.ahead, by rw [hk]; exact h.many, ?_⟩
  have := h.behind
  rw [fv_at R j (by rw [h.len]; exact hj), fv_at l j hj] at this
  exact (List.cons.inj this).2
theorem Kept.keeps {NM : ByteArray} {l : List FV} {i j : Nat} {R : List FV} (h : Kept NM l i j R) (hj : j < l.length) (hs : sameN NM (l.getD j default).1 = false) : Kept NM l (i + 1) (j + 1) (R.set i (l.getD j default)) := by
  have hlt := h.lt
  have hk : kept NM (l.take (j + 1)) = kept NM (l.take j) ++ [l.getD j default] := by rw [take_getD l j hj, kept_snoc, if_neg (by rw [hs]; decide)]
  refine ⟨by omega, by omega, by rw [List.length_set]; exact h.len, ?_, ?_, ?_⟩
  · rw [hk, ← h.ahead, List.take_add_one, List.getElem?_set_self (by rw [h.len]; omega), List.take_set_of_le (Nat.le_refl _)]
    rfl
  · rw [hk, List.length_append, ← h.many]; rfl
  · rw [List.drop_set_of_lt (by omega)]
    have := h.behind
    rw [fv_at R j (by rw [h.len]; exact hj), fv_at l j hj] at this
    exact (List.cons.inj this).2

set_option maxHeartbeats 4000000 in
theorem delete_some (B g : Nat) (NM : ByteArray) (hN : AsciiB NM) (i0 gs n c1 : Nat) (l : List FV) (en : n = l.length) (w : World) (hn : n ≤ 100) (ha : ∀ f ∈ l, AsciiB f.1) (hg : w.cell? ⟨g, 0, none⟩ = some (.string NM)) (hgB : g < B) (hB : B ≤ w.heap.size)
    (hi0 : i0 < n) (hi1 : ∀ j, j < i0 → sameN NM (l.getD j default).1 = false) (hi2 : sameN NM (l.getD i0 default).1 = true) (hown : w.ownsRow B 51 2 (.slice (some ⟨gs, 0, none⟩) n c1) n (fv l)) :
    Calls Tryd.prog 45 #[.slice (some ⟨gs, 0, none⟩) n c1, .func (Fn.func 47) #[] #[.pointer (some ⟨g, 0, none⟩)]] w fun e w' => Below B w w' ∧ ∃ v', e = .returned v' ∧ w'.ownsRow B 51 2 v' (kept NM l).length (fv (kept NM l)) := by
  have hownL := hown
  rw [en] at hownL
  obtain ⟨p0, c0, hv0, hcn, hcm, _, hob, _, hfr⟩ := owned_fields hownL
  obtain ⟨hp0, hc0⟩ : p0 = some ⟨gs, 0, none⟩ ∧ c0 = c1 := by injection hv0 with h1 h2 h3; exact ⟨h1.symm, h3.symm⟩
  subst hp0 hc0
  rw [← en] at hcn
  obtain ⟨b', o', he', hcell⟩ := hfr (fun e => by rw [e] at en; simp at en; omega)
  obtain ⟨rfl, rfl⟩ : b' = gs ∧ o' = 0 := by injection he' with he'; injection he' with h1 h2; exact ⟨h1.symm, h2.symm⟩
  rw [← en] at hcell
  have hgsB : B ≤ b' ∧ b' < w.heap.size := by rcases hown.2 with ⟨h', _⟩ | ⟨g', cap', cur, h', hb, hh, _⟩
                                              · simp at h'
                                              · have e1 : b' = g' := by injection h' with h1; injection h1 with h1; injection h1
                                                subst e1
                                                exact ⟨hb, (Array.getElem?_eq_some_iff.1 hh).1⟩
  have CI : Hid (Calls Tryd.prog 86 #[.slice (some ⟨b', 0, none⟩) n c0, .func (Fn.func 47) #[] #[.pointer (some ⟨g, 0, none⟩)]] w fun e w' => e = .returned (.int .i64 (i0 : Int)) ∧ Below w.heap.size w w') :=
    find_some g NM hN (i0 : Int) b' 0 n c0 l en w (by omega) hn ha hg (fun j hj h => hi1 j (by omega)) (fun j hj h => (show j = i0 by omega) ▸ hi2) (by omega) (by omega) hcell
  have HK0 : Hid (Kept NM l i0 (i0 + 1) l) := by
    have hk0 : kept NM (l.take (i0 + 1)) = l.take i0 := by
      rw [take_getD l i0 (by omega), kept_snoc, if_pos hi2, List.append_nil]
      refine kept_all NM _ (fun f hf => ?_)
      obtain ⟨j, hj, rfl⟩ := List.getElem_of_mem hf
      rw [List.length_take] at hj
      have := hi1 j (by omega)
      rw [List.getElem_take]
      simpa [List.getD_eq_getElem?_getD, List.getElem?_eq_getElem (show j < l.length by omega)] using this
    exact ⟨by omega, by omega, rfl, hk0.symm, by rw [hk0, List.length_take]; omega, rfl⟩
  have HA : Hid (∀ f ∈ l, AsciiB f.1) := ha
  have HG : Hid (∀ w', Below B w w' → w'.cell? ⟨g, 0, none⟩ = some (.string NM)) := fun w' hb => (hb.cell (p := ⟨g, 0, none⟩) hgB).trans hg
  have EN : Hid (n = l.length) := en
  have HN : Hid (AsciiB NM) := hN
  clear hownL hfr hcell he' hv0 ha hg hi1 hi2 hob hN en
  have hne : ((i0 : Int) == -1) = false := by rw [beq_eq_false_iff_ne]; omega
  have HOW : Hid (w.ownsRow B 51 2 (.slice (some ⟨b', 0, none⟩) n c0) n (fv l)) := hown
  clear hown
  go_enter Tryd.func45, Tryd.ntmps45
  go_wp2_with fail
  refine CI.out.mono ?_
  rintro e w1 ⟨rfl, hb1⟩
  clear CI
  have hown1 := ownsRow_below HOW.out hb1
  clear HOW
  go_wp2
  go_loopw [5, 6] (fun iv jv wr => ∃ (i j : Nat) (R : List FV), iv = .int .i64 i ∧ jv = .int .i64 j ∧ j ≤ n ∧ wr.ownsRow B 51 2 (.slice (some ⟨b', 0, none⟩) n c0) n (fv R) ∧ Below B w wr ∧ Hid (Kept NM l i j R)) (fun _ jv _ => n - (intOf jv).toNat)
  case atStart => exact ⟨i0, i0 + 1, l, rfl, by go_num, by omega, hown1, hb1.mono hB, HK0⟩
  case round =>
    obtain ⟨i, j, R, rfl, rfl, hjn, hown, hbel, HK⟩ := hrel
    clear hown1 hb1 hne
    have hsz := hbel.size
    have hij := HK.out.lt
    have hszB : B ≤ wr.heap.size := by omega
    have hRl : R.length = n := by rw [HK.out.len, EN.out]
    by_cases hlt : j < n
    · have hjl : j < l.length := by rw [← EN.out]; exact hlt
      have hat := HK.out.at_ hjl
      have hget := fv_get R j (by omega)
      have hgi := fv_get R i (by omega)
      rw [hat] at hget
      have hfl : (fv R).length = n * 2 := by rw [fv_length, hRl]
      have hc1 : wr.cell? ⟨b', j * 2, none⟩ = some (.string (l.getD j default).1) := (hown.cellAt (j * 2) (by omega)).trans hget.1
      have hc2 : wr.cell? ⟨b', j * 2 + 1, none⟩ = some (.string (l.getD j default).2) := (hown.cellAt (j * 2 + 1) (by omega)).trans hget.2
      have hd1 : wr.cell? ⟨b', i * 2, none⟩ = some (.string (R.getD i default).1) := (hown.cellAt (i * 2) (by omega)).trans hgi.1
      have hd2 : wr.cell? ⟨b', i * 2 + 1, none⟩ = some (.string (R.getD i default).2) := (hown.cellAt (i * 2 + 1) (by omega)).trans hgi.2
      have hf1 := hown.frozenAt (i * 2)
      have hf2 := hown.frozenAt (i * 2 + 1)
      have hAj := HA.out _ (fv_mem l j hjl)
      have HKd : Hid (sameN NM (l.getD j default).1 = true → Kept NM l i (j + 1) R) := HK.out.drops hjl
      have HKk : Hid (sameN NM (l.getD j default).1 = false → Kept NM l (i + 1) (j + 1) (R.set i (l.getD j default))) := HK.out.keeps hjl
      have CD : ∀ w', Below B w w' → Calls Tryd.prog 47 #[.agg #[.string (l.getD j default).1, .string (l.getD j default).2], .pointer (some ⟨g, 0, none⟩)] w' fun e w'' => e = .returned (.bool (sameN NM (l.getD j default).1)) ∧ Below w'.heap.size w' w'' := fun w' hb => del_test g NM _ _ hAj HN.out w' (HG.out w' hb)
      clear hget hgi hat hAj
      generalize l.getD j default = f at *
      obtain ⟨FA, FB⟩ := f
      generalize R.getD i default = f2 at *
      obtain ⟨GA, GB⟩ := f2
      simp only at hc1 hc2 hd1 hd2 HKd HKk CD
      have hbs : b' < wr.heap.size := World.block_lt_of_cell? wr _ hc1
      have hbn : ¬ b' = wr.heap.size := by omega
      cases hs : sameN NM FA
      · rw [hs] at CD HKk
        have HKk' : Hid (Kept NM l (i + 1) (j + 1) (R.set i (FA, FB))) := HKk.out rfl
        have CD' : Hid (∀ w', Below B w w' → Calls Tryd.prog 47 #[.agg #[.string FA, .string FB], .pointer (some ⟨g, 0, none⟩)] w' fun e w'' => e = .returned (.bool false) ∧ Below w'.heap.size w' w'') := CD
        clear CD hs HKd HKk
        go_wp2_with fail
        refine (CD'.out _ (hbel.alloc hszB _)).mono ?_
        rintro e w2 ⟨rfl, hb2⟩
        clear CD'
        obtain ⟨m1, m2, m3, m4, m5, m6⟩ := made_two hb2
        have hd1' : w2.cell? ⟨b', i * 2, none⟩ = some (.string GA) := (m6.cell (p := ⟨b', i * 2, none⟩) hbs).trans hd1
        have hd2' : w2.cell? ⟨b', i * 2 + 1, none⟩ = some (.string GB) := (m6.cell (p := ⟨b', i * 2 + 1, none⟩) hbs).trans hd2
        have hf1' : w2.frozen? ⟨b', i * 2, none⟩ = false := (m6.frozen (p := ⟨b', i * 2, none⟩) hbs).trans hf1
        have hf2' : w2.frozen? ⟨b', i * 2 + 1, none⟩ = false := (m6.frozen (p := ⟨b', i * 2 + 1, none⟩) hbs).trans hf2
        have hin : (i : Int) < (n : Int) := by omega
        have own2 := ownsRow_below hown m6
        have st1 := (own2.stored (i * 2) (.string FA)).1
        have st2 := (st1.stored (i * 2 + 1) (.string FB)).1
        rw [fv_set2 R i FA FB (by omega)] at st2
        have HST : Hid (((w2.setCell ⟨b', i * 2, none⟩ (.string FA)).setCell ⟨b', i * 2 + 1, none⟩ (.string FB)).ownsRow B 51 2 (.slice (some ⟨b', 0, none⟩) n c0) n (fv (R.set i (FA, FB)))) := st2
        have hbe2 : Below B w ((w2.setCell ⟨b', i * 2, none⟩ (.string FA)).setCell ⟨b', i * 2 + 1, none⟩ (.string FB)) := ((hbel.trans (m6.mono (by omega))).setCell hgsB.1 _).setCell hgsB.1 _
        clear st1 st2 own2 hb2 hc1 hc2 hd1 hd2 hf1 hf2 hown
        go_wp2
        go_roundw
        case rel => exact ⟨i + 1, j + 1, R.set i (FA, FB), by go_num, by go_num, by omega, HST.out, hbe2, HKk'⟩
        case measure => simp [intOf]; omega
      · rw [hs] at CD HKd
        have HKd' : Hid (Kept NM l i (j + 1) R) := HKd.out rfl
        have CD' : Hid (∀ w', Below B w w' → Calls Tryd.prog 47 #[.agg #[.string FA, .string FB], .pointer (some ⟨g, 0, none⟩)] w' fun e w'' => e = .returned (.bool true) ∧ Below w'.heap.size w' w'') := CD
        clear CD hs HKd HKk hd1 hd2 hf1 hf2
        go_wp2_with fail
        refine (CD'.out _ (hbel.alloc hszB _)).mono ?_
        rintro e w2 ⟨rfl, hb2⟩
        clear CD'
        obtain ⟨m1, m2, m3, m4, m5, m6⟩ := made_two hb2
        have own2 := ownsRow_below hown m6
        have hbe2 : Below B w w2 := hbel.trans (m6.mono (by omega))
        clear hb2 hown
        go_wp2
        go_roundw
        case rel => exact ⟨i, j + 1, R, rfl, by go_num, by omega, own2, hbe2, HKd'⟩
        case measure => simp [intOf]; omega
    · obtain rfl : j = n := by omega
      obtain ⟨w9, hcl, hown9, hbe9⟩ := clear_tail hown (show i < j by omega)
      have hci : ¬ c0 = i := by omega
      have hic : (i : Int) ≤ (c0 : Int) := by omega
      have hin : (i : Int) ≤ (j : Int) := by omega
      have HR : Hid (w9.ownsRow B 51 2 (.slice (some ⟨b', 0, none⟩) i c0) (kept NM l).length (fv (kept NM l))) := by
        have h1 := HK.out.ahead
        have h2 := HK.out.many
        rw [EN.out, List.take_length] at h1 h2
        unfold Hid
        rw [← h2, ← h1, ← fv_take]
        exact hown9
      have HB9 : Below B w w9 := hbel.trans hbe9
      clear hown hown9 HK hbe9
      go_wp2
      go_ret
      exact ⟨HB9, _, rfl, HR.out⟩
end Go.Proofs.YtnlnjjcfpbmpmaaDoor
