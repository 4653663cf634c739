/- header.appendLine behind fields that the caller owns: a new field, or more of the last one's value, or no. What the caller does not own is as it was. Conditions: the line is not empty, and no longer than a million bytes. -/
import Derived.Test.YtpgnkhaanoalhaaGreatDoorXmimeborders26
import Derived.Test.YtpgnkhaanoalhaaGreatDoorXmimeborders25
import Derived.Test.YtpgnkhaanoalhaaGreatDoorXmimeborders8
import Derived.Deep.DeepCutAuto
import Derived.Lib.Strings
namespace Go.Proofs.YtpgnkhaanoalhaaGreatDoor
open Go.RowKit

theorem info_fieldH : (Tryz.prog.info? 112).map (fun i => (i.zero, i.size, i.bytes)) = some (some (.agg #[.string ⟨#[]⟩, .string ⟨#[]⟩]), 2, 32) := by kernel_rfl

theorem head_facts {S : ByteArray} {c0 : UInt8} (h : S.data.toList.head? = some c0) : ∃ n, S.size = n + 1 := by
  cases hl : S.data.toList with
  | nil => rw [hl] at h; cases h
  | cons a l => exact ⟨l.length, by rw [Lib.size_eq, hl]; rfl⟩
theorem isBT_no {c : UInt8} (h : isBT c = false) : ((c.toNat : Int) == 32) = false ∧ ((c.toNat : Int) == 9) = false := by
  rw [← Bool.not_eq_true, isBT_eq] at h
  constructor
  · rw [beq_eq_false_iff_ne]; intro e; exact h (.inl (UInt8.toNat_inj.1 (by show c.toNat = 32; omega)))
  · rw [beq_eq_false_iff_ne]; intro e; exact h (.inr (UInt8.toNat_inj.1 (by show c.toNat = 9; omega)))

theorem line_none (S : ByteArray) (c0 : UInt8) (hh : S.data.toList.head? = some c0) (hb : isBT c0 = true) (p : Option Addr) (c : Nat) (w : World) (hs : S.size ≤ 1000000) :
    Calls Tryz.prog 123 #[.slice p 0 c, .string S] w fun e w' => e = .returned (.tuple #[.slice none 0 0, .bool false]) ∧ w' = w := by
  obtain ⟨n, hn⟩ := head_facts hh
  obtain ⟨d, t8, h1, _, _, h4⟩ := ba_head S n hn
  obtain rfl : d = c0 := by rw [h4] at hh; exact Option.some.inj hh
  have hpos : (0 : Int) < (S.size : Int) := by omega
  clear h4 hh
  rw [isBT_eq] at hb
  rcases hb with rfl | rfl
  all_goals
    go_enter Tryz.func123, Tryz.ntmps123
    go_wp2
    go_ret2
    exact ⟨rfl, rfl⟩

theorem line_bad (S : ByteArray) (c0 : UInt8) (hh : S.data.toList.head? = some c0) (hb : isBT c0 = false) (hc : cutB 58 S.data.toList = none) (lv : Value) (w : World) (hs : S.size ≤ 1000000) :
    Calls Tryz.prog 123 #[lv, .string S] w fun e w' => e = .returned (.tuple #[.slice none 0 0, .bool false]) ∧ Below w.heap.size w w' := by
  obtain ⟨n, hn⟩ := head_facts hh
  obtain ⟨d, t8, h1, _, _, h4⟩ := ba_head S n hn
  obtain rfl : d = c0 := by rw [h4] at hh; exact Option.some.inj hh
  have hpos : (0 : Int) < (S.size : Int) := by omega
  clear h4 hh
  obtain ⟨e1, e2⟩ := isBT_no hb
  have HC : Hid (∀ w, Calls Tryz.prog 121 #[.string S, .string ⟨#[58]⟩] w fun e w' => e = .returned (.tuple #[.string S, .string ⟨#[]⟩, .bool false]) ∧ Below w.heap.size w w') := fun w => cut_none 58 S w hc
  clear hc
  go_enter Tryz.func123, Tryz.ntmps123
  go_wp2_with fail
  refine (HC.out _).mono ?_
  rintro e w1 ⟨rfl, hb1⟩
  clear HC
  go_wp2
  go_ret2
  exact ⟨rfl, hb1⟩

set_option maxHeartbeats 2000000 in
theorem line_new (B : Nat) (S : ByteArray) (c0 : UInt8) (hh : S.data.toList.head? = some c0) (hb : isBT c0 = false) (NM VL T : ByteArray) (hc : cutB 58 S.data.toList = some (NM.data.toList, VL.data.toList)) (hT : T.data.toList = trimBy isBT VL.data.toList)
    (lv : Value) (fs : List FV) (w : World) (hs : S.size ≤ 1000000) (hv : VL.size ≤ 1000000) (hB : B ≤ w.heap.size) (h20 : fs.length ≤ 1000000) (hown : w.ownsRow B 112 2 lv fs.length (fv fs)) :
    Calls Tryz.prog 123 #[lv, .string S] w fun e w' => Below B w w' ∧ ∃ v, e = .returned (.tuple #[v, .bool true]) ∧ w'.ownsRow B 112 2 v (fs ++ [(NM, T)]).length (fv (fs ++ [(NM, T)])) := by
  obtain ⟨i0, hi, hz0, hz1, hz2⟩ := info_parts info_fieldH
  obtain ⟨n, hn⟩ := head_facts hh
  obtain ⟨d, t8, h1, _, _, h4⟩ := ba_head S n hn
  obtain rfl : d = c0 := by rw [h4] at hh; exact Option.some.inj hh
  have hpos : (0 : Int) < (S.size : Int) := by omega
  clear h4 hh
  obtain ⟨e1, e2⟩ := isBT_no hb
  have HC : Hid (∀ w, Calls Tryz.prog 121 #[.string S, .string ⟨#[58]⟩] w fun e w' => e = .returned (.tuple #[.string NM, .string VL, .bool true]) ∧ Below w.heap.size w w') := fun w => cut_some 58 S NM VL w (by omega) hc
  have HT : Hid (∀ w', Calls Tryz.prog 85 #[.string VL, .string ⟨#[32, 9]⟩] w' fun e w'' => e = .returned (.string T) ∧ Below w'.heap.size w' w'') := fun w' => trimBT_any VL T hT w' (by omega)
  clear hc hT
  obtain ⟨p0, c1, rfl, hl1, hl2, _, _, _, _⟩ := owned_fields hown
  go_enter Tryz.func123, Tryz.ntmps123
  go_wp2_with fail
  refine (HC.out _).mono ?_
  rintro e w1 ⟨rfl, hb1⟩
  clear HC
  go_wp2_with fail
  refine (HT.out _).mono ?_
  rintro e w2 ⟨rfl, hb2⟩
  clear HT
  have hbw : Below w.heap.size w w2 := hb1.trans (hb2.mono hb1.size)
  have hs2 := hbw.size
  have hown2 := ownsRow_below hown hbw
  clear hb1 hb2
  go_wp2_with (at_builtin; refine wpList_append_own _ rfl (.tmp 47) (.tmp 52) 69 rfl B 112 i0 (.agg #[.string ⟨#[]⟩, .string ⟨#[]⟩]) 2 32 Tryz.underlying69 hi hz0 hz1 hz2 rfl (by decide) _ _ _ rfl (hown2.alloc _) ⟨w2.heap.size, 0, none⟩ 1 1 [.string NM, .string T] rfl rfl ?c1 ?c2 ?c3 ?c4 ?c5 ?_)
  case c1 => exact cell_pair _ _ _ _
  case c2 => intro u hu; simp at hu; rcases hu with rfl | rfl <;> rfl
  case c3 => unfold maxLen; omega
  case c4 => omega
  case c5 => simp; omega
  intro v3 w3 hown3 hg3 _
  have RB : Below B w w3 := ((hbw.mono hB).alloc (by omega) _).grown hg3 (by simp; omega) (fun j hj => (hown2.lt j hj).1)
  have R : w3.ownsRow B 112 2 v3 (fs ++ [(NM, T)]).length (fv (fs ++ [(NM, T)])) := by rw [fv_snoc, List.length_append]; exact hown3
  clear hg3 hown3 hown2 hown
  go_wp2
  go_ret2
  exact ⟨RB, v3, rfl, R⟩

set_option maxHeartbeats 4000000 in
theorem line_more (B : Nat) (S : ByteArray) (c0 : UInt8) (hh : S.data.toList.head? = some c0) (hb : isBT c0 = true) (fs0 : List FV) (Na Va T2 : ByteArray) (hT2 : T2.data.toList = trimBy isSp (Va.data.toList ++ [32] ++ trimBy isBT S.data.toList))
    (lv : Value) (w : World) (hs : S.size ≤ 1000000) (hv : Va.size ≤ 1000000) (hB : B ≤ w.heap.size) (h20 : fs0.length ≤ 1000000) (hown : w.ownsRow B 112 2 lv (fs0 ++ [(Na, Va)]).length (fv (fs0 ++ [(Na, Va)]))) :
    Calls Tryz.prog 123 #[lv, .string S] w fun e w' => Below B w w' ∧ ∃ v, e = .returned (.tuple #[v, .bool true]) ∧ w'.ownsRow B 112 2 v (fs0 ++ [(Na, T2)]).length (fv (fs0 ++ [(Na, T2)])) := by
  obtain ⟨n, hn⟩ := head_facts hh
  obtain ⟨d, t8, h1, _, _, h4⟩ := ba_head S n hn
  obtain rfl : d = c0 := by rw [h4] at hh; exact Option.some.inj hh
  have hpos : (0 : Int) < (S.size : Int) := by omega
  clear h4 hh
  obtain ⟨T1, hT1, hT1s⟩ := mk_trim isBT S.data.toList
  obtain ⟨X, hX⟩ : ∃ X : ByteArray, X = Va ++ ⟨#[32]⟩ ++ T1 := ⟨_, rfl⟩
  have hXd : X.data.toList = Va.data.toList ++ [32] ++ T1.data.toList := by rw [hX]; simp
  rw [← Lib.size_eq] at hT1s
  have hXs : X.size = Va.size + 1 + T1.size := by rw [Lib.size_eq, hXd]; simp only [List.length_append, List.length_cons, List.length_nil]; rw [← Lib.size_eq, ← Lib.size_eq]
  have CT1 : Hid (∀ w', Calls Tryz.prog 85 #[.string S, .string ⟨#[32, 9]⟩] w' fun e w'' => e = .returned (.string T1) ∧ Below w'.heap.size w' w'') := fun w' => trimBT_any S T1 hT1 w' (by omega)
  have CT2 : Hid (∀ w', Calls Tryz.prog 85 #[.string X, .string ⟨#[32]⟩] w' fun e w'' => e = .returned (.string T2) ∧ Below w'.heap.size w' w'') := fun w' => trimSp_any X T2 (by rw [hT2, hXd, hT1]) w' (by omega)
  obtain ⟨p1, c1, rfl, hl1, hl2, hl3, hob, hgg, hfr⟩ := owned_fields hown
  obtain ⟨g, rfl, hgo⟩ := hgg (by simp)
  obtain ⟨_, hgB, hgl⟩ := hob g hgo
  obtain ⟨b', o', he', hcell⟩ := hfr (by simp)
  obtain ⟨rfl, rfl⟩ : b' = g ∧ o' = 0 := by injection he' with he'; injection he' with h1 h2; exact ⟨h1.symm, h2.symm⟩
  have hld := (hcell fs0.length (by simp)).2
  rw [show ((fs0 ++ [(Na, Va)]).getD fs0.length default) = (Na, Va) from by simp [List.getD_eq_getElem?_getD], Nat.zero_add] at hld
  have e1 : (fs0 ++ [(Na, Va)]).length = fs0.length + 1 := by simp
  have hfz := hown.frozenAt (fs0.length * 2 + 1)
  have HO : Hid (w.ownsRow B 112 2 (.slice (some ⟨b', 0, none⟩) (fs0.length + 1) c1) (fs0.length + 1) (fv (fs0 ++ [(Na, Va)]))) := by unfold Hid; rw [← e1]; exact hown
  have h44 : Below w.heap.size w w := Below.refl _ _
  rw [e1] at hl1 ⊢
  have hl2i : (fs0.length : Int) + 1 ≤ (c1 : Int) := by omega
  have hXe : Va ++ ⟨#[32]⟩ ++ T1 = X := hX.symm
  have hVs : Va.size + T1.size + 1 ≤ 3000000 := by omega
  have hcat1 : ¬ 9223372036854775807 < Va.size + 1 := by omega
  have hcat2 : ¬ 9223372036854775807 < Va.size + 1 + T1.size := by omega
  have hm1 : ¬ ((fs0.length : Int) + 1 == 0) = true := by rw [beq_iff_eq]; omega
  clear hXs hcell hfr he' hob hgo hown e1 hX hXd hT1 hT2 hT1s hl3
  rw [isBT_eq] at hb
  rcases hb with rfl | rfl
  all_goals
    go_enter Tryz.func123, Tryz.ntmps123
    go_wp2
    go_region_with (first
      | (go_at_call_of 85 S; refine (CT1.out _).mono ?_; rintro e w2 ⟨rfl, hb2⟩; have hbw2 : Below w.heap.size w w2 := (h44.drew).trans hb2; have hld2 := (hbw2.cell (p := ⟨b', fs0.length * 2 + 1, none⟩) hgl).trans hld; clear hb2)
      | (go_at_call_of 85 X; refine (CT2.out _).mono ?_; rintro e w3 ⟨rfl, hb3⟩; have hbw3 : Below w.heap.size w w3 := hbw2.trans (hb3.mono hbw2.size); have hld3 := (hbw3.cell (p := ⟨b', fs0.length * 2 + 1, none⟩) hgl).trans hld; have hfz3 := (hbw3.frozen (p := ⟨b', fs0.length * 2 + 1, none⟩) hgl).trans hfz; clear hb3))
    all_goals (
      have st := (ownsRow_below HO.out hbw3).stored (fs0.length * 2 + 1) (.string T2)
      rw [fv_set] at st
      have hbe4 : Below B w (w3.setCell ⟨b', fs0.length * 2 + 1, none⟩ (.string T2)) := (hbw3.mono hB).setCell hgB _
      have HST : Hid ((w3.setCell ⟨b', fs0.length * 2 + 1, none⟩ (.string T2)).ownsRow B 112 2 (.slice (some ⟨b', 0, none⟩) (fs0.length + 1) c1) (fs0.length + 1) (fv (fs0 ++ [(Na, T2)]))) := st.1
      clear st
      go_wp2
      go_ret2
      exact ⟨hbe4, _, rfl, by rw [show (fs0 ++ [(Na, T2)]).length = fs0.length + 1 from by simp]; exact HST.out⟩)
end Go.Proofs.YtpgnkhaanoalhaaGreatDoor

/- mime.head: its walk, over what is known of header.Print. Conditions: the part and the table of names lie there; the texts are short. -/
namespace Go.Proofs.YtpgnkhaanoalhaaGreatDoor
open Go.RowKit

theorem he_t (s : ByteArray) (h : s.data.toList = []) : s.toList.isEmpty = true := by
  rw [ByteArray.toList_eq, h]
  rfl
theorem he_f (s : ByteArray) (h : s.data.toList ≠ []) : s.toList.isEmpty = false := by
  rw [ByteArray.toList_eq]
  cases hs : s.data.toList with
  | nil => exact absurd hs h
  | cons a l => rfl

set_option maxHeartbeats 8000000 in
set_option maxRecDepth 100000 in
theorem head_walk (b o hn : Nat) (ty cs id loc B K1 KD HB T : ByteArray) (L2 L3 L4 : List FV) (E : Int) (w : World) (hn2 : hn ≤ 2) (hs0 : ty.size ≤ 1000) (hs1 : cs.size ≤ 1000) (hs2 : id.size ≤ 1000) (hs3 : B.size ≤ 1000) (hs4 : K1.size ≤ 3000) (hL2 : L2.length ≤ 2) (hL3 : L3.length ≤ 3)
    (HC : Hid (∀ w', Below w.heap.size w w' → w'.cell? ⟨b, o, none⟩ = some (.string ty) ∧ w'.cell? ⟨b, o + 1, none⟩ = some (.string cs) ∧ w'.cell? ⟨b, o + 2, none⟩ = some (.string id) ∧ w'.cell? ⟨b, o + 3, none⟩ = some (.string loc) ∧ w'.cell? ⟨b, o + 4, none⟩ = some (.int .i64 (hn : Int))))
    (HHt : Hid (∀ w', Below w.heap.size w w' → w'.cell? ⟨0, hn, none⟩ = some (.string HB)))
    (X1 : Hid ((cs.data.toList = [] ∧ ty = K1) ∨ (cs.data.toList ≠ [] ∧ K1 = ty ++ (⟨#[59, 32, 99, 104, 97, 114, 115, 101, 116, 61]⟩ ++ cs))))
    (X2 : Hid ((B.data.toList = [] ∧ K1 = KD) ∨ (B.data.toList ≠ [] ∧ KD = K1 ++ (⟨#[59, 32, 98, 111, 117, 110, 100, 97, 114, 121, 61, 34]⟩ ++ B ++ ⟨#[34]⟩))))
    (X3 : Hid ((id.data.toList = [] ∧ [(⟨#[67, 111, 110, 116, 101, 110, 116, 45, 84, 121, 112, 101]⟩, KD)] = L2) ∨ (id.data.toList ≠ [] ∧ L2 = [(⟨#[67, 111, 110, 116, 101, 110, 116, 45, 84, 121, 112, 101]⟩, KD)] ++ [(⟨#[67, 111, 110, 116, 101, 110, 116, 45, 73, 68]⟩, ⟨#[60]⟩ ++ id ++ ⟨#[62]⟩)])))
    (X4 : Hid ((loc.data.toList = [] ∧ L2 = L3) ∨ (loc.data.toList ≠ [] ∧ L3 = L2 ++ [(⟨#[67, 111, 110, 116, 101, 110, 116, 45, 76, 111, 99, 97, 116, 105, 111, 110]⟩, loc)])))
    (X5 : Hid ((B.data.toList ≠ [] ∧ L3 = L4) ∨ (B.data.toList = [] ∧ L4 = L3 ++ [(⟨#[67, 111, 110, 116, 101, 110, 116, 45, 84, 114, 97, 110, 115, 102, 101, 114, 45, 69, 110, 99, 111, 100, 105, 110, 103]⟩, HB)])))
    (CP : Hid (∀ w' (q : Option Addr) (c : Nat), Below w.heap.size w w' → w'.ownsRow w.heap.size 112 2 (.slice q L4.length c) L4.length (fv L4) → Calls Tryz.prog 110 #[.slice q L4.length c] w' fun e w'' => e = .returned (.tuple #[.string T, .int .i64 E]) ∧ Below w.heap.size w w'')) :
    Calls Tryz.prog 64 #[.pointer (some ⟨b, o, none⟩), .string B] w fun e w' => e = .returned (.string T) ∧ Below w.heap.size w w' := by
  obtain ⟨i0, hi, hz0, hz1, hz2⟩ := info_parts info_fieldH
  obtain ⟨y0, y1, y2, y3, y4⟩ := HC.out w (Below.refl _ _)
  go_enter Tryz.func64, Tryz.ntmps64
  go_upto_if 17 with fail
  go_cut [5] (fun s wx => s = .string K1 ∧ wx = w)
  case first =>
    rcases X1.out with ⟨x1, rfl⟩ | ⟨x1, rfl⟩
    · have he := he_t _ x1
      rw [he]
      go_wp2_with fail
      go_meet
      exact ⟨rfl, rfl⟩
    · have he := he_f _ x1
      rw [he]
      have hk1 : (ByteArray.mk #[59, 32, 99, 104, 97, 114, 115, 101, 116, 61]).size = 10 := rfl
      go_wp2_with fail
      go_meet
      exact ⟨rfl, rfl⟩
  case rest =>
  obtain ⟨rfl, rfl⟩ := hcut
  clear X1
  go_upto_if 26 with fail
  go_cut [5] (fun s wx => s = .string KD ∧ wx = wc)
  case first =>
    rcases X2.out with ⟨x1, rfl⟩ | ⟨x1, rfl⟩
    · have he := he_t _ x1
      rw [he]
      go_wp2_with fail
      go_meet
      exact ⟨rfl, rfl⟩
    · have he := he_f _ x1
      rw [he]
      have hk1 : (ByteArray.mk #[59, 32, 98, 111, 117, 110, 100, 97, 114, 121, 61, 34]).size = 12 := rfl
      have hk2 : (ByteArray.mk #[34]).size = 1 := rfl
      go_wp2_with fail
      go_meet
      exact ⟨rfl, rfl⟩
  case rest =>
  obtain ⟨rfl, rfl⟩ := hcut
  clear X2 y0 y1 y2 y3 y4
  obtain ⟨w0, hw0⟩ : ∃ x, x = wc := ⟨_, rfl⟩
  subst hw0
  have b1 : Below w0.heap.size w0 (w0.alloc (.cells #[.string ⟨#[67, 111, 110, 116, 101, 110, 116, 45, 84, 121, 112, 101]⟩, .string KD] 112)) := (Below.refl _ _).alloc (Nat.le_refl _) _
  have own1 : (w0.alloc (.cells #[.string ⟨#[67, 111, 110, 116, 101, 110, 116, 45, 84, 121, 112, 101]⟩, .string KD] 112)).ownsRow w0.heap.size 112 2 (.slice (some ⟨w0.heap.size, 0, none⟩) 1 1) 1 (fv [(⟨#[67, 111, 110, 116, 101, 110, 116, 45, 84, 121, 112, 101]⟩, KD)]) := World.ownsRow_lit w0 #[.string ⟨#[67, 111, 110, 116, 101, 110, 116, 45, 84, 121, 112, 101]⟩, .string KD] 1 (Nat.le_refl _) (by decide) rfl
  obtain ⟨x0, x1, x2, x3, x4⟩ := HC.out _ b1
  have xt := HHt.out _ b1
  go_upto_if 39 with fail
  obtain ⟨W1, hW1⟩ : ∃ W, W = w0.alloc (.cells #[.string ⟨#[67, 111, 110, 116, 101, 110, 116, 45, 84, 121, 112, 101]⟩, .string KD] 112) := ⟨_, rfl⟩
  rw [← hW1] at b1 own1 x0 x1 x2 x3 x4 xt
  rw [← hW1]
  clear hW1
  go_cut [6] (fun v wx => Below w0.heap.size w0 wx ∧ ∃ q c, v = .slice q L2.length c ∧ wx.ownsRow w0.heap.size 112 2 v L2.length (fv L2))
  case first =>
    rcases X3.out with ⟨z1, rfl⟩ | ⟨z1, rfl⟩
    · have he := he_t _ z1
      rw [he]
      go_wp2_with fail
      go_meet
      exact ⟨b1, _, _, rfl, own1⟩
    · have he := he_f _ z1
      rw [he]
      go_wp2_with (at_builtin; go_loud (refine wpList_append_own _ rfl (.tmp 40) (.tmp 48) 69 rfl w0.heap.size 112 i0 (.agg #[.string ⟨#[]⟩, .string ⟨#[]⟩]) 2 32 Tryz.underlying69 hi hz0 hz1 hz2 rfl (by decide) _ _ _ rfl (own1.alloc _) ⟨W1.heap.size, 0, none⟩ 1 1 [.string ⟨#[67, 111, 110, 116, 101, 110, 116, 45, 73, 68]⟩, .string (⟨#[60]⟩ ++ id ++ ⟨#[62]⟩)] rfl rfl (cell_pair _ _ _ _) ?c2_40 ?c3_40 ?c4_40 ?c5_40 ?_))
      case c2_40 => first | exact ⟨rfl, rfl⟩ | (intro u hu; simp at hu; rcases hu with rfl | rfl <;> rfl)
      case c3_40 => decide
      skip
      case c5_40 => have := b1.size; simp; omega
      intro v9 w9 own90 g9 _
      have b9 : Below w0.heap.size w0 w9 := (b1.alloc b1.size _).grown g9 (by have := b1.size; simp; omega) (fun j hj => (own1.lt j hj).1)
      have hlen : (([(⟨#[67, 111, 110, 116, 101, 110, 116, 45, 84, 121, 112, 101]⟩, KD)] : List FV) ++ [(⟨#[67, 111, 110, 116, 101, 110, 116, 45, 73, 68]⟩, ⟨#[60]⟩ ++ id ++ ⟨#[62]⟩)] : List FV).length = ([(⟨#[67, 111, 110, 116, 101, 110, 116, 45, 84, 121, 112, 101]⟩, KD)] : List FV).length + 1 := by simp
      have own9 : w9.ownsRow w0.heap.size 112 2 v9 (([(⟨#[67, 111, 110, 116, 101, 110, 116, 45, 84, 121, 112, 101]⟩, KD)] : List FV) ++ [(⟨#[67, 111, 110, 116, 101, 110, 116, 45, 73, 68]⟩, ⟨#[60]⟩ ++ id ++ ⟨#[62]⟩)] : List FV).length (fv (([(⟨#[67, 111, 110, 116, 101, 110, 116, 45, 84, 121, 112, 101]⟩, KD)] : List FV) ++ [(⟨#[67, 111, 110, 116, 101, 110, 116, 45, 73, 68]⟩, ⟨#[60]⟩ ++ id ++ ⟨#[62]⟩)])) := by rw [hlen, fv_snoc]; exact own90
      obtain ⟨q9, c9, rfl⟩ := owned_slice own9
      clear own90 g9
      go_wp2_with fail
      go_meet
      exact ⟨b9, _, _, rfl, own9⟩
  case rest =>
  obtain ⟨w2, hw2⟩ : ∃ x, x = wc := ⟨_, rfl⟩
  subst hw2
  obtain ⟨b2, q2, c2, rfl, own2⟩ := hcut
  clear x0 x1 x2 x3 x4 xt
  obtain ⟨x0, x1, x2, x3, x4⟩ := HC.out w2 b2
  have xt := HHt.out w2 b2
  clear X3 own1 b1
  go_upto_if 54 with fail
  go_cut [6] (fun v wx => Below w0.heap.size w0 wx ∧ ∃ q c, v = .slice q L3.length c ∧ wx.ownsRow w0.heap.size 112 2 v L3.length (fv L3))
  case first =>
    rcases X4.out with ⟨z1, rfl⟩ | ⟨z1, rfl⟩
    · have he := he_t _ z1
      rw [he]
      go_wp2_with fail
      go_meet
      exact ⟨b2, _, _, rfl, own2⟩
    · have he := he_f _ z1
      rw [he]
      go_wp2_with (at_builtin; go_loud (refine wpList_append_own _ rfl (.tmp 55) (.tmp 61) 69 rfl w0.heap.size 112 i0 (.agg #[.string ⟨#[]⟩, .string ⟨#[]⟩]) 2 32 Tryz.underlying69 hi hz0 hz1 hz2 rfl (by decide) _ _ _ rfl (own2.alloc _) ⟨w2.heap.size, 0, none⟩ 1 1 [.string ⟨#[67, 111, 110, 116, 101, 110, 116, 45, 76, 111, 99, 97, 116, 105, 111, 110]⟩, .string (loc)] rfl rfl (cell_pair _ _ _ _) ?c2_55 ?c3_55 ?c4_55 ?c5_55 ?_))
      case c2_55 => first | exact ⟨rfl, rfl⟩ | (intro u hu; simp at hu; rcases hu with rfl | rfl <;> rfl)
      case c3_55 => unfold maxLen; omega
      case c4_55 => omega
      case c5_55 => have := b2.size; simp; omega
      intro v9 w9 own90 g9 _
      have b9 : Below w0.heap.size w0 w9 := (b2.alloc b2.size _).grown g9 (by have := b2.size; simp; omega) (fun j hj => (own2.lt j hj).1)
      have hlen : (L2 ++ [(⟨#[67, 111, 110, 116, 101, 110, 116, 45, 76, 111, 99, 97, 116, 105, 111, 110]⟩, loc)] : List FV).length = L2.length + 1 := by simp
      have own9 : w9.ownsRow w0.heap.size 112 2 v9 (L2 ++ [(⟨#[67, 111, 110, 116, 101, 110, 116, 45, 76, 111, 99, 97, 116, 105, 111, 110]⟩, loc)] : List FV).length (fv (L2 ++ [(⟨#[67, 111, 110, 116, 101, 110, 116, 45, 76, 111, 99, 97, 116, 105, 111, 110]⟩, loc)])) := by rw [hlen, fv_snoc]; exact own90
      obtain ⟨q9, c9, rfl⟩ := owned_slice own9
      clear own90 g9
      go_wp2_with fail
      go_meet
      exact ⟨b9, _, _, rfl, own9⟩
  case rest =>
  obtain ⟨w3, hw3⟩ : ∃ x, x = wc := ⟨_, rfl⟩
  subst hw3
  obtain ⟨b3, q3, c3, rfl, own3⟩ := hcut
  clear x0 x1 x2 x3 x4 xt
  obtain ⟨x0, x1, x2, x3, x4⟩ := HC.out w3 b3
  have xt := HHt.out w3 b3
  clear X4 own2 b2
  go_upto_if 64 with fail
  go_cut [6] (fun v wx => Below w0.heap.size w0 wx ∧ ∃ q c, v = .slice q L4.length c ∧ wx.ownsRow w0.heap.size 112 2 v L4.length (fv L4))
  case first =>
    rcases X5.out with ⟨z1, rfl⟩ | ⟨z1, rfl⟩
    · have he := he_f _ z1
      rw [he]
      go_wp2_with fail
      go_meet
      exact ⟨b3, _, _, rfl, own3⟩
    · have he := he_t _ z1
      rw [he]
      go_wp2_with (at_builtin; go_loud (refine wpList_append_own _ rfl (.tmp 65) (.tmp 73) 69 rfl w0.heap.size 112 i0 (.agg #[.string ⟨#[]⟩, .string ⟨#[]⟩]) 2 32 Tryz.underlying69 hi hz0 hz1 hz2 rfl (by decide) _ _ _ rfl (own3.alloc _) ⟨w3.heap.size, 0, none⟩ 1 1 [.string ⟨#[67, 111, 110, 116, 101, 110, 116, 45, 84, 114, 97, 110, 115, 102, 101, 114, 45, 69, 110, 99, 111, 100, 105, 110, 103]⟩, .string (HB)] rfl rfl (cell_pair _ _ _ _) ?c2_65 ?c3_65 ?c4_65 ?c5_65 ?_))
      case c2_65 => first | exact ⟨rfl, rfl⟩ | (intro u hu; simp at hu; rcases hu with rfl | rfl <;> rfl)
      case c3_65 => unfold maxLen; omega
      case c4_65 => omega
      case c5_65 => have := b3.size; simp; omega
      intro v9 w9 own90 g9 _
      have b9 : Below w0.heap.size w0 w9 := (b3.alloc b3.size _).grown g9 (by have := b3.size; simp; omega) (fun j hj => (own3.lt j hj).1)
      have hlen : (L3 ++ [(⟨#[67, 111, 110, 116, 101, 110, 116, 45, 84, 114, 97, 110, 115, 102, 101, 114, 45, 69, 110, 99, 111, 100, 105, 110, 103]⟩, HB)] : List FV).length = L3.length + 1 := by simp
      have own9 : w9.ownsRow w0.heap.size 112 2 v9 (L3 ++ [(⟨#[67, 111, 110, 116, 101, 110, 116, 45, 84, 114, 97, 110, 115, 102, 101, 114, 45, 69, 110, 99, 111, 100, 105, 110, 103]⟩, HB)] : List FV).length (fv (L3 ++ [(⟨#[67, 111, 110, 116, 101, 110, 116, 45, 84, 114, 97, 110, 115, 102, 101, 114, 45, 69, 110, 99, 111, 100, 105, 110, 103]⟩, HB)])) := by rw [hlen, fv_snoc]; exact own90
      obtain ⟨q9, c9, rfl⟩ := owned_slice own9
      clear own90 g9
      go_wp2_with fail
      go_meet
      exact ⟨b9, _, _, rfl, own9⟩
  case rest =>
  obtain ⟨w4, hw4⟩ : ∃ x, x = wc := ⟨_, rfl⟩
  subst hw4
  obtain ⟨b4, q4, c4, rfl, own4⟩ := hcut
  clear x0 x1 x2 x3 x4 xt
  obtain ⟨x0, x1, x2, x3, x4⟩ := HC.out w4 b4
  have xt := HHt.out w4 b4
  clear X5 own3 b3
  go_wp2_with fail
  refine (CP.out _ _ _ b4 own4).mono ?_
  rintro e w9 ⟨rfl, hb9⟩
  go_wp2_with fail
  go_ret
  exact ⟨rfl, hb9⟩
end Go.Proofs.YtpgnkhaanoalhaaGreatDoor

/- A list of bytes as a text. No program. -/
namespace Go.Proofs.YtpgnkhaanoalhaaGreatDoor

/-- A list of bytes as a text. -/
def ba (l : List UInt8) : ByteArray := ⟨l.toArray⟩
theorem ba_data (l : List UInt8) : (ba l).data.toList = l := rfl
theorem ba_size (l : List UInt8) : (ba l).size = l.length := by rw [Lib.size_eq, ba_data]
theorem ba_self (s : ByteArray) : ba s.data.toList = s := rfl
theorem ba_isEmpty (l : List UInt8) : (ba l).toList.isEmpty = l.isEmpty := by rw [ByteArray.toList_eq, ba_data]
end Go.Proofs.YtpgnkhaanoalhaaGreatDoor
