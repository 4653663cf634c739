/- header.appendLine behind fields that the caller owns: a new field, or more of the last one's value, or no. What the caller does not own is as it was. Conditions: the line is not empty, and no longer than a million bytes. -/
import Derived.Test.YtnmmlbgadibimaaDoorHCut
import Derived.Test.YtnmmlbgadibimaaDoorFReadA
namespace Go.Proofs.YtnmmlbgadibimaaDoor
open Go.RowKit

theorem info_fieldH : (Tryd.prog.info? 51).map (fun i => (i.zero, i.size, i.bytes)) = some (some (.agg #[.string ⟨#[]⟩, .string ⟨#[]⟩]), 2, 32) := by kernel_rfl

theorem head_facts {S : ByteArray} {c0 : UInt8} (h : S.data.toList.head? = some c0) : ∃ n, S.size = n + 1 := by
  cases hl : S.data.toList with
  | nil => rw [hl] at h; cases h
  | cons a l => exact ⟨l.length, by rw [Lib.size_eq, hl]; rfl⟩
theorem isBT_no {c : UInt8} (h : isBT c = false) : ((c.toNat : Int) == 32) = false ∧ ((c.toNat : Int) == 9) = false := by
  rw [← Bool.not_eq_true, isBT_eq] at h
  constructor
  · rw [beq_eq_false_iff_ne]; intro e; exact h (.inl (UInt8.toNat_inj.1 (by show c.toNat = 32; omega)))
  · rw [beq_eq_false_iff_ne]; intro e; exact h (.inr (UInt8.toNat_inj.1 (by show c.toNat = 9; omega)))

theorem line_none (S : ByteArray) (c0 : UInt8) (hh : S.data.toList.head? = some c0) (hb : isBT c0 = true) (p : Option Addr) (c : Nat) (w : World) (hs : S.size ≤ 1000000) :
    Calls Tryd.prog 92 #[.slice p 0 c, .string S] w fun e w' => e = .returned (.tuple #[.slice none 0 0, .bool false]) ∧ w' = w := by
  obtain ⟨n, hn⟩ := head_facts hh
  obtain ⟨d, t8, h1, _, _, h4⟩ := ba_head S n hn
  obtain rfl : d = c0 := by rw [h4] at hh; exact Option.some.inj hh
  have hpos : (0 : Int) < (S.size : Int) := by omega
  clear h4 hh
  rw [isBT_eq] at hb
  rcases hb with rfl | rfl
  all_goals
    go_enter Tryd.func92, Tryd.ntmps92
    go_wp2
    go_ret2
    exact ⟨rfl, rfl⟩

theorem line_bad (S : ByteArray) (c0 : UInt8) (hh : S.data.toList.head? = some c0) (hb : isBT c0 = false) (hc : cutB 58 S.data.toList = none) (lv : Value) (w : World) (hs : S.size ≤ 1000000) :
    Calls Tryd.prog 92 #[lv, .string S] w fun e w' => e = .returned (.tuple #[.slice none 0 0, .bool false]) ∧ Below w.heap.size w w' := by
  obtain ⟨n, hn⟩ := head_facts hh
  obtain ⟨d, t8, h1, _, _, h4⟩ := ba_head S n hn
  obtain rfl : d = c0 := by rw [h4] at hh; exact Option.some.inj hh
  have hpos : (0 : Int) < (S.size : Int) := by omega
  clear h4 hh
  obtain ⟨e1, e2⟩ := isBT_no hb
  have HC : Hid (∀ w, Calls Tryd.prog 80 #[.string S, .string ⟨#[58]⟩] w fun e w' => e = .returned (.tuple #[.string S, .string ⟨#[]⟩, .bool false]) ∧ Below w.heap.size w w') := fun w => cut_none 58 S w hc
  clear hc
  go_enter Tryd.func92, Tryd.ntmps92
  go_wp2_with fail
  refine (HC.out _).mono ?_
  rintro e w1 ⟨rfl, hb1⟩
  clear HC
  go_wp2
  go_ret2
  exact ⟨rfl, hb1⟩

set_option maxHeartbeats 2000000 in
theorem line_new (B : Nat) (S : ByteArray) (c0 : UInt8) (hh : S.data.toList.head? = some c0) (hb : isBT c0 = false) (NM VL T : ByteArray) (hc : cutB 58 S.data.toList = some (NM.data.toList, VL.data.toList)) (hT : T.data.toList = trimBy isBT VL.data.toList)
    (lv : Value) (fs : List FV) (w : World) (hs : S.size ≤ 1000000) (hv : VL.size ≤ 1000000) (hB : B ≤ w.heap.size) (h20 : fs.length ≤ 1000000) (hown : w.ownsRow B 51 2 lv fs.length (fv fs)) :
    Calls Tryd.prog 92 #[lv, .string S] w fun e w' => Below B w w' ∧ ∃ v, e = .returned (.tuple #[v, .bool true]) ∧ w'.ownsRow B 51 2 v (fs ++ [(NM, T)]).length (fv (fs ++ [(NM, T)])) := by
  obtain ⟨i0, hi, hz0, hz1, hz2⟩ := info_parts info_fieldH
  obtain ⟨n, hn⟩ := head_facts hh
  obtain ⟨d, t8, h1, _, _, h4⟩ := ba_head S n hn
  obtain rfl : d = c0 := by rw [h4] at hh; exact Option.some.inj hh
  have hpos : (0 : Int) < (S.size : Int) := by omega
  clear h4 hh
  obtain ⟨e1, e2⟩ := isBT_no hb
  have HC : Hid (∀ w, Calls Tryd.prog 80 #[.string S, .string ⟨#[58]⟩] w fun e w' => e = .returned (.tuple #[.string NM, .string VL, .bool true]) ∧ Below w.heap.size w w') := fun w => cut_some 58 S NM VL w (by omega) hc
  have HT : Hid (∀ w', Calls Tryd.prog 85 #[.string VL, .string ⟨#[32, 9]⟩] w' fun e w'' => e = .returned (.string T) ∧ Below w'.heap.size w' w'') := fun w' => trimBT_any VL T hT w' (by omega)
  clear hc hT
  obtain ⟨p0, c1, rfl, hl1, hl2, _, _, _, _⟩ := owned_fields hown
  go_enter Tryd.func92, Tryd.ntmps92
  go_wp2_with fail
  refine (HC.out _).mono ?_
  rintro e w1 ⟨rfl, hb1⟩
  clear HC
  go_wp2_with fail
  refine (HT.out _).mono ?_
  rintro e w2 ⟨rfl, hb2⟩
  clear HT
  have hbw : Below w.heap.size w w2 := hb1.trans (hb2.mono hb1.size)
  have hs2 := hbw.size
  have hown2 := ownsRow_below hown hbw
  clear hb1 hb2
  go_wp2_with (at_builtin; refine wpList_append_own _ rfl (.tmp 47) (.tmp 52) 40 rfl B 51 i0 (.agg #[.string ⟨#[]⟩, .string ⟨#[]⟩]) 2 32 Tryd.underlying40 hi hz0 hz1 hz2 rfl (by decide) _ _ _ rfl (hown2.alloc _) ⟨w2.heap.size, 0, none⟩ 1 1 [.string NM, .string T] rfl rfl ?c1 ?c2 ?c3 ?c4 ?c5 ?_)
  case c1 => exact cell_pair _ _ _ _
  case c2 => intro u hu; simp at hu; rcases hu with rfl | rfl <;> rfl
  case c3 => unfold maxLen; omega
  case c4 => omega
  case c5 => simp; omega
  intro v3 w3 hown3 hg3 _
  have RB : Below B w w3 := ((hbw.mono hB).alloc (by omega) _).grown hg3 (by simp; omega) (fun j hj => (hown2.lt j hj).1)
  have R : w3.ownsRow B 51 2 v3 (fs ++ [(NM, T)]).length (fv (fs ++ [(NM, T)])) := by rw [fv_snoc, List.length_append]; exact hown3
  clear hg3 hown3 hown2 hown
  go_wp2
  go_ret2
  exact ⟨RB, v3, rfl, R⟩

set_option maxHeartbeats 4000000 in
theorem line_more (B : Nat) (S : ByteArray) (c0 : UInt8) (hh : S.data.toList.head? = some c0) (hb : isBT c0 = true) (fs0 : List FV) (Na Va T2 : ByteArray) (hT2 : T2.data.toList = trimBy isSp (Va.data.toList ++ [32] ++ trimBy isBT S.data.toList))
    (lv : Value) (w : World) (hs : S.size ≤ 1000000) (hv : Va.size ≤ 1000000) (hB : B ≤ w.heap.size) (h20 : fs0.length ≤ 1000000) (hown : w.ownsRow B 51 2 lv (fs0 ++ [(Na, Va)]).length (fv (fs0 ++ [(Na, Va)]))) :
    Calls Tryd.prog 92 #[lv, .string S] w fun e w' => Below B w w' ∧ ∃ v, e = .returned (.tuple #[v, .bool true]) ∧ w'.ownsRow B 51 2 v (fs0 ++ [(Na, T2)]).length (fv (fs0 ++ [(Na, T2)])) := by
  obtain ⟨n, hn⟩ := head_facts hh
  obtain ⟨d, t8, h1, _, _, h4⟩ := ba_head S n hn
  obtain rfl : d = c0 := by rw [h4] at hh; exact Option.some.inj hh
  have hpos : (0 : Int) < (S.size : Int) := by omega
  clear h4 hh
  obtain ⟨T1, hT1, hT1s⟩ := mk_trim isBT S.data.toList
  obtain ⟨X, hX⟩ : ∃ X : ByteArray, X = Va ++ ⟨#[32]⟩ ++ T1 := ⟨_, rfl⟩
  have hXd : X.data.toList = Va.data.toList ++ [32] ++ T1.data.toList := by rw [hX]; simp
  rw [← Lib.size_eq] at hT1s
  have hXs : X.size = Va.size + 1 + T1.size := by rw [Lib.size_eq, hXd]; simp only [List.length_append, List.length_cons, List.length_nil]; rw [← Lib.size_eq, ← Lib.size_eq]
  have CT1 : Hid (∀ w', Calls Tryd.prog 85 #[.string S, .string ⟨#[32, 9]⟩] w' fun e w'' => e = .returned (.string T1) ∧ Below w'.heap.size w' w'') := fun w' => trimBT_any S T1 hT1 w' (by omega)
  have CT2 : Hid (∀ w', Calls Tryd.prog 85 #[.string X, .string ⟨#[32]⟩] w' fun e w'' => e = .returned (.string T2) ∧ Below w'.heap.size w' w'') := fun w' => trimSp_any X T2 (by rw [hT2, hXd, hT1]) w' (by omega)
  obtain ⟨p1, c1, rfl, hl1, hl2, hl3, hob, hgg, hfr⟩ := owned_fields hown
  obtain ⟨g, rfl, hgo⟩ := hgg (by simp)
  obtain ⟨_, hgB, hgl⟩ := hob g hgo
  obtain ⟨b', o', he', hcell⟩ := hfr (by simp)
  obtain ⟨rfl, rfl⟩ : b' = g ∧ o' = 0 := by injection he' with he'; injection he' with h1 h2; exact ⟨h1.symm, h2.symm⟩
  have hld := (hcell fs0.length (by simp)).2
  rw [show ((fs0 ++ [(Na, Va)]).getD fs0.length default) = (Na, Va) from by simp [List.getD_eq_getElem?_getD], Nat.zero_add] at hld
  have e1 : (fs0 ++ [(Na, Va)]).length = fs0.length + 1 := by simp
  have hfz := hown.frozenAt (fs0.length * 2 + 1)
  have HO : Hid (w.ownsRow B 51 2 (.slice (some ⟨b', 0, none⟩) (fs0.length + 1) c1) (fs0.length + 1) (fv (fs0 ++ [(Na, Va)]))) := by unfold Hid; rw [← e1]; exact hown
  have h44 : Below w.heap.size w w := Below.refl _ _
  rw [e1] at hl1 ⊢
  have hl2i : (fs0.length : Int) + 1 ≤ (c1 : Int) := by omega
  have hXe : Va ++ ⟨#[32]⟩ ++ T1 = X := hX.symm
  have hVs : Va.size + T1.size + 1 ≤ 3000000 := by omega
  have hcat1 : ¬ 9223372036854775807 < Va.size + 1 := by omega
  have hcat2 : ¬ 9223372036854775807 < Va.size + 1 + T1.size := by omega
  have hm1 : ¬ ((fs0.length : Int) + 1 == 0) = true := by rw [beq_iff_eq]; omega
  clear hXs hcell hfr he' hob hgo hown e1 hX hXd hT1 hT2 hT1s hl3
  rw [isBT_eq] at hb
  rcases hb with rfl | rfl
  all_goals
    go_enter Tryd.func92, Tryd.ntmps92
    go_wp2
    go_region_with (first
      | (go_at_call_of 85 S; refine (CT1.out _).mono ?_; rintro e w2 ⟨rfl, hb2⟩; have hbw2 : Below w.heap.size w w2 := (h44.drew).trans hb2; have hld2 := (hbw2.cell (p := ⟨b', fs0.length * 2 + 1, none⟩) hgl).trans hld; clear hb2)
      | (go_at_call_of 85 X; refine (CT2.out _).mono ?_; rintro e w3 ⟨rfl, hb3⟩; have hbw3 : Below w.heap.size w w3 := hbw2.trans (hb3.mono hbw2.size); have hld3 := (hbw3.cell (p := ⟨b', fs0.length * 2 + 1, none⟩) hgl).trans hld; have hfz3 := (hbw3.frozen (p := ⟨b', fs0.length * 2 + 1, none⟩) hgl).trans hfz; clear hb3))
    all_goals (
      have st := (ownsRow_below HO.out hbw3).stored (fs0.length * 2 + 1) (.string T2)
      rw [fv_set] at st
      have hbe4 : Below B w (w3.setCell ⟨b', fs0.length * 2 + 1, none⟩ (.string T2)) := (hbw3.mono hB).setCell hgB _
      have HST : Hid ((w3.setCell ⟨b', fs0.length * 2 + 1, none⟩ (.string T2)).ownsRow B 51 2 (.slice (some ⟨b', 0, none⟩) (fs0.length + 1) c1) (fs0.length + 1) (fv (fs0 ++ [(Na, T2)]))) := st.1
      clear st
      go_wp2
      go_ret2
      exact ⟨hbe4, _, rfl, by rw [show (fs0 ++ [(Na, T2)]).length = fs0.length + 1 from by simp]; exact HST.out⟩)
end Go.Proofs.YtnmmlbgadibimaaDoor
