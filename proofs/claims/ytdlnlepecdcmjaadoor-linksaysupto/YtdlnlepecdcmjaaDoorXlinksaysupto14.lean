/- link's beginsTag, piece: what the plain functions say. -/
import Derived.Test.YtdlnlepecdcmjaaDoorXlinksaysupto13
namespace Go.Proofs.YtdlnlepecdcmjaaDoor
open Go.RowKit

set_option maxHeartbeats 4000000 in
theorem begins_any (s : List UInt8) (M : ByteArray) (b : Bool) (hb : tagB M.data.toList s = b) (w : World) :
    Calls Tryd.prog 29 #[.string (lba s), .string M] w fun e w' => e = .returned (.bool b) ∧ w' = w := by
  have HC : Hid (∀ W, Calls Tryd.prog 43 #[.string (lba s), .string M] W fun e w' => e = .returned (.tuple #[.string (lba (Lib.trimPrefix s M.data.toList)), .bool (M.data.toList.isPrefixOf s)]) ∧ w' = W) := fun W => Tryd.strings_CutPrefix (lba s) M W
  subst hb
  by_cases hp : M.data.toList.isPrefixOf s = true
  · have ht : Lib.trimPrefix s M.data.toList = s.drop M.data.toList.length := by
      unfold Lib.trimPrefix Lib.hasPrefix
      rw [if_pos hp]
    have HV : Hid (tagB M.data.toList s = headL (s.drop M.data.toList.length)) := by unfold Hid tagB; rw [hp]; rfl
    rw [ht, hp] at HC
    clear ht hp
    generalize s.drop M.data.toList.length = R at *
    cases R with
    | nil =>
      have he : lba [] = ⟨#[]⟩ := rfl
      rw [he] at HC
      go_enter Tryd.func29, Tryd.ntmps29
      go_wp2_with fail
      refine (HC.out _).mono ?_
      rintro e w1 ⟨rfl, hw1⟩
      subst hw1
      go_wp2_with fail
      go_ret
      exact ⟨ret_bool (by rw [HV.out]; rfl), rfl⟩
    | cons c R =>
      have HL : Hid (∀ W, Calls Tryd.prog 44 #[.int .u8 (c.toNat : Int)] W fun e w' => e = .returned (.bool (letB c)) ∧ w' = W) := fun W => letter_any c _ rfl W
      have hz : (lba (c :: R)).size = R.length + 1 := by rw [lba_size]; rfl
      obtain ⟨T, hT⟩ : ∃ T, T = lba (c :: R) := ⟨_, rfl⟩
      rw [← hT] at HC hz
      have hx : ∀ h : 0 < T.size, T[0]'h = c := by subst hT; intro h; rfl
      have hpos : 0 < T.size := by omega
      have hx0 := hx hpos
      have hpi : (0 : Int) < (T.size : Int) := by omega
      have hne3 : T.toList.isEmpty = false := by subst hT; rw [ByteArray.toList_eq]; rfl
      clear hT hx
      go_enter Tryd.func29, Tryd.ntmps29
      go_wp2_with fail
      refine (HC.out _).mono ?_
      rintro e w1 ⟨rfl, hw1⟩
      subst hw1
      go_wp2_with fail
      refine (HL.out _).mono ?_
      rintro e w1 ⟨rfl, hw1⟩
      subst hw1
      go_wp2_with fail
      go_ret
      exact ⟨ret_bool (by rw [HV.out]; rfl), rfl⟩
  · have hp' : M.data.toList.isPrefixOf s = false := Bool.eq_false_iff.2 hp
    have HV : Hid (tagB M.data.toList s = false) := by unfold Hid tagB; rw [hp']; rfl
    rw [hp'] at HC
    go_enter Tryd.func29, Tryd.ntmps29
    go_wp2_with fail
    refine (HC.out _).mono ?_
    rintro e w1 ⟨rfl, hw1⟩
    subst hw1
    go_wp2_with fail
    go_ret
    exact ⟨ret_bool (by rw [HV.out]), rfl⟩
theorem pre_any (s : List UInt8) (M : ByteArray) (b : Bool) (hb : M.data.toList.isPrefixOf s = b) (w : World) :
    Calls Tryd.prog 22 #[.string (lba s), .string M] w fun e w' => e = .returned (.bool b) ∧ w' = w := by
  subst hb
  exact Tryd.strings_HasPrefix (lba s) M w
theorem pre_drop {p : ByteArray} {s : List UInt8} (hS : Suf p s) (n : Nat) (h : n ≤ s.length) : pos p (s.drop n) = pos p s + n := by
  have h1 := pos_plus hS (List.take_append_drop n s)
  rw [h1, List.length_take, Nat.min_eq_left h]
theorem pre_len {m s : List UInt8} (h : m.isPrefixOf s = true) : m.length ≤ s.length := (List.isPrefixOf_iff_prefix.1 h).length_le
theorem tagB_len {m s : List UInt8} (h : tagB m s = true) : m.length ≤ s.length := by
  unfold tagB at h
  rw [Bool.and_eq_true] at h
  exact pre_len h.1
/-- A list of no links. -/
theorem tagPost_no {w w' : World} {g : Nat} {p : ByteArray} {r : List UInt8} (h : Moves w g (pos p r) w') : TagPost w g p (some [], r) (.returned (.slice none 0 0)) w' := ⟨_, rfl, World.ownsRow_nil _ _ _ _, h⟩

set_option maxHeartbeats 4000000 in
set_option maxRecDepth 100000 in
theorem piece_com_any (w0 : World) (HE : LEnv w0) (g : Nat) (hg : w0.heap.size ≤ g) (p : ByteArray) (s : List UInt8) (hS : Suf p s) (w : World) (hr : RdAt w g p (pos p s)) (hb : Below w0.heap.size w0 w) (hp : p.size ≤ 4000) (c1 : comL.isPrefixOf s = true) :
    Calls Tryd.prog 12 #[.pointer (some ⟨g, 0, none⟩)] w fun e w' => TagPost w g p (some [], behindL comE (s.drop 4)) e w' := by
  have HR : Hid (RdAt w g p (pos p s)) := hr
  have HB : Hid (Below w0.heap.size w0 w) := hb
  have h0 := hr.page
  have h1 := hr.at_
  have hf := hr.frozen 1
  have hx := ext_end hS
  have hkl := pos_le p s
  have hki : ((pos p s : Nat) : Int) ≤ (p.size : Int) := by omega
  have hk4 : pos p (s.drop 4) = pos p s + 4 := pre_drop hS 4 (pre_len c1)
  have hwr : IntKind.i64.wrap (((pos p s : Nat) : Int) + 4) = (((pos p s + 4 : Nat)) : Int) := by rw [IntKind.wrap_i64]; omega
  have C1 : Hid (∀ W, Calls Tryd.prog 22 #[.string (lba s), .string ⟨#[60, 33, 45, 45]⟩] W fun e w' => e = .returned (.bool true) ∧ w' = W) := fun W => pre_any s ⟨#[60, 33, 45, 45]⟩ true c1 W
  have CE : Hid (∀ W, RdAt W g p (pos p (s.drop 4)) → Below w0.heap.size w0 W → Calls Tryd.prog 28 #[.pointer (some ⟨g, 0, none⟩), .string ⟨#[45, 45, 62]⟩] W fun e w' => e = .returned (.tuple #[]) ∧ Moves W g (pos p (behindL comE (s.drop 4))) w') := fun W h1 h2 => passEnd_any w0 HE ⟨#[45, 45, 62]⟩ (by decide) g p _ (hS.dr 4) W h1 h2 hp
  rw [hk4] at CE
  generalize pos p s = k at *
  clear hr hb HE hk4 c1 hS
  go_enter Tryd.func12, Tryd.ntmps12
  go_wp2_with fail
  go_region
  go_wp2_with fail
  refine (C1.out _).mono ?_
  rintro e wx ⟨rfl, hwx⟩
  have hwy := hwx.symm
  subst hwy
  clear C1 hwx
  go_wp2_with fail
  obtain ⟨W2, hW2⟩ : ∃ W, W = (w.setCell ⟨g, 1, none⟩ (.int .i64 ((k : Int) + 4))).drew := ⟨_, rfl⟩
  have M2 : Moves w g ((k + 4 : Nat) : Int) W2 := by rw [hW2]; exact Moves.of_set.drewN 1
  have hr2 := M2.rd HR.out
  have hB2 := M2.base HB.out hg
  rw [← hW2]
  refine (CE.out _ hr2 hB2).mono ?_
  rintro e w3 ⟨rfl, hm3⟩
  have M3 : Hid (Moves w g _ w3) := M2.trans hm3 HR.out
  clear hW2 M2 hr2 hB2 CE hm3
  go_wp2_with fail
  go_ret
  exact tagPost_no M3.out
set_option maxHeartbeats 4000000 in
set_option maxRecDepth 100000 in
theorem piece_ex_any (w0 : World) (HE : LEnv w0) (g : Nat) (_hg : w0.heap.size ≤ g) (p : ByteArray) (s : List UInt8) (hS : Suf p s) (w : World) (hr : RdAt w g p (pos p s)) (hb : Below w0.heap.size w0 w) (hp : p.size ≤ 4000) (c1 : comL.isPrefixOf s = false) (c2 : ([60, 33] : List UInt8).isPrefixOf s = true) :
    Calls Tryd.prog 12 #[.pointer (some ⟨g, 0, none⟩)] w fun e w' => TagPost w g p (some [], behindL [62] s) e w' := by
  have HR : Hid (RdAt w g p (pos p s)) := hr
  have HB : Hid (Below w0.heap.size w0 w) := hb
  have h0 := hr.page
  have h1 := hr.at_
  have hf := hr.frozen 1
  have hx := ext_end hS
  have hkl := pos_le p s
  have hki : ((pos p s : Nat) : Int) ≤ (p.size : Int) := by omega
  have C1 : Hid (∀ W, Calls Tryd.prog 22 #[.string (lba s), .string ⟨#[60, 33, 45, 45]⟩] W fun e w' => e = .returned (.bool false) ∧ w' = W) := fun W => pre_any s ⟨#[60, 33, 45, 45]⟩ false c1 W
  have C2 : Hid (∀ W, Calls Tryd.prog 22 #[.string (lba s), .string ⟨#[60, 33]⟩] W fun e w' => e = .returned (.bool true) ∧ w' = W) := fun W => pre_any s ⟨#[60, 33]⟩ true c2 W
  have CE : Hid (∀ W, RdAt W g p (pos p s) → Below w0.heap.size w0 W → Calls Tryd.prog 28 #[.pointer (some ⟨g, 0, none⟩), .string ⟨#[62]⟩] W fun e w' => e = .returned (.tuple #[]) ∧ Moves W g (pos p (behindL [62] s)) w') := fun W h1 h2 => passEnd_any w0 HE ⟨#[62]⟩ (by decide) g p _ hS W h1 h2 hp
  generalize pos p s = k at *
  clear hr hb HE c1 c2 hS
  go_enter Tryd.func12, Tryd.ntmps12
  go_wp2_with fail
  go_region
  go_wp2_with fail
  refine (C1.out _).mono ?_
  rintro e wx ⟨rfl, hwx⟩
  have hwy := hwx.symm
  subst hwy
  clear C1 hwx
  go_wp2_with fail
  refine (C2.out _).mono ?_
  rintro e wx ⟨rfl, hwx⟩
  have hwy := hwx.symm
  subst hwy
  clear C2 hwx
  go_wp2_with fail
  refine (CE.out _ HR.out.drew (HB.out.drew)).mono ?_
  rintro e w3 ⟨rfl, hm3⟩
  have M3 : Hid (Moves w g _ w3) := ((Moves.still HR.out).drewN 1).trans hm3 HR.out
  clear CE hm3
  go_wp2_with fail
  go_ret
  exact tagPost_no M3.out
set_option maxHeartbeats 4000000 in
set_option maxRecDepth 100000 in
theorem piece_q_any (w0 : World) (HE : LEnv w0) (g : Nat) (_hg : w0.heap.size ≤ g) (p : ByteArray) (s : List UInt8) (hS : Suf p s) (w : World) (hr : RdAt w g p (pos p s)) (hb : Below w0.heap.size w0 w) (hp : p.size ≤ 4000) (c1 : comL.isPrefixOf s = false) (c2 : ([60, 33] : List UInt8).isPrefixOf s = false) (c3 : ([60, 63] : List UInt8).isPrefixOf s = true) :
    Calls Tryd.prog 12 #[.pointer (some ⟨g, 0, none⟩)] w fun e w' => TagPost w g p (some [], behindL [62] s) e w' := by
  have HR : Hid (RdAt w g p (pos p s)) := hr
  have HB : Hid (Below w0.heap.size w0 w) := hb
  have h0 := hr.page
  have h1 := hr.at_
  have hf := hr.frozen 1
  have hx := ext_end hS
  have hkl := pos_le p s
  have hki : ((pos p s : Nat) : Int) ≤ (p.size : Int) := by omega
  have C1 : Hid (∀ W, Calls Tryd.prog 22 #[.string (lba s), .string ⟨#[60, 33, 45, 45]⟩] W fun e w' => e = .returned (.bool false) ∧ w' = W) := fun W => pre_any s ⟨#[60, 33, 45, 45]⟩ false c1 W
  have C2 : Hid (∀ W, Calls Tryd.prog 22 #[.string (lba s), .string ⟨#[60, 33]⟩] W fun e w' => e = .returned (.bool false) ∧ w' = W) := fun W => pre_any s ⟨#[60, 33]⟩ false c2 W
  have C3 : Hid (∀ W, Calls Tryd.prog 22 #[.string (lba s), .string ⟨#[60, 63]⟩] W fun e w' => e = .returned (.bool true) ∧ w' = W) := fun W => pre_any s ⟨#[60, 63]⟩ true c3 W
  have CE : Hid (∀ W, RdAt W g p (pos p s) → Below w0.heap.size w0 W → Calls Tryd.prog 28 #[.pointer (some ⟨g, 0, none⟩), .string ⟨#[62]⟩] W fun e w' => e = .returned (.tuple #[]) ∧ Moves W g (pos p (behindL [62] s)) w') := fun W h1 h2 => passEnd_any w0 HE ⟨#[62]⟩ (by decide) g p _ hS W h1 h2 hp
  generalize pos p s = k at *
  clear hr hb HE c1 c2 hS c3
  go_enter Tryd.func12, Tryd.ntmps12
  go_wp2_with fail
  go_region
  go_wp2_with fail
  refine (C1.out _).mono ?_
  rintro e wx ⟨rfl, hwx⟩
  have hwy := hwx.symm
  subst hwy
  clear C1 hwx
  go_wp2_with fail
  refine (C2.out _).mono ?_
  rintro e wx ⟨rfl, hwx⟩
  have hwy := hwx.symm
  subst hwy
  clear C2 hwx
  go_wp2_with fail
  refine (C3.out _).mono ?_
  rintro e wx ⟨rfl, hwx⟩
  have hwy := hwx.symm
  subst hwy
  clear C3 hwx
  go_wp2_with fail
  refine (CE.out _ HR.out.drew (HB.out.drew)).mono ?_
  rintro e w3 ⟨rfl, hm3⟩
  have M3 : Hid (Moves w g _ w3) := ((Moves.still HR.out).drewN 1).trans hm3 HR.out
  clear CE hm3
  go_wp2_with fail
  go_ret
  exact tagPost_no M3.out
set_option maxHeartbeats 4000000 in
set_option maxRecDepth 100000 in
theorem piece_tag_any (w0 : World) (HE : LEnv w0) (g : Nat) (hg : w0.heap.size ≤ g) (p : ByteArray) (s : List UInt8) (hS : Suf p s) (w : World) (hr : RdAt w g p (pos p s)) (hb : Below w0.heap.size w0 w) (hp : p.size ≤ 4000) (c1 : comL.isPrefixOf s = false) (c2 : ([60, 33] : List UInt8).isPrefixOf s = false) (c3 : ([60, 63] : List UInt8).isPrefixOf s = false) (c4 : tagB [60] s = true) :
    Calls Tryd.prog 12 #[.pointer (some ⟨g, 0, none⟩)] w fun e w' => TagPost w g p (some ((tagP lowT (s.drop 1)).1.getD []), (tagP lowT (s.drop 1)).2) e w' := by
  have HR : Hid (RdAt w g p (pos p s)) := hr
  have HB : Hid (Below w0.heap.size w0 w) := hb
  have h0 := hr.page
  have h1 := hr.at_
  have hf := hr.frozen 1
  have hx := ext_end hS
  have hkl := pos_le p s
  have hki : ((pos p s : Nat) : Int) ≤ (p.size : Int) := by omega
  have hkn : pos p (s.drop 1) = pos p s + 1 := pre_drop hS 1 (tagB_len c4)
  have hwr : IntKind.i64.wrap (((pos p s : Nat) : Int) + 1) = (((pos p s + 1 : Nat)) : Int) := by rw [IntKind.wrap_i64]; omega
  have C1 : Hid (∀ W, Calls Tryd.prog 22 #[.string (lba s), .string ⟨#[60, 33, 45, 45]⟩] W fun e w' => e = .returned (.bool false) ∧ w' = W) := fun W => pre_any s ⟨#[60, 33, 45, 45]⟩ false c1 W
  have C2 : Hid (∀ W, Calls Tryd.prog 22 #[.string (lba s), .string ⟨#[60, 33]⟩] W fun e w' => e = .returned (.bool false) ∧ w' = W) := fun W => pre_any s ⟨#[60, 33]⟩ false c2 W
  have C3 : Hid (∀ W, Calls Tryd.prog 22 #[.string (lba s), .string ⟨#[60, 63]⟩] W fun e w' => e = .returned (.bool false) ∧ w' = W) := fun W => pre_any s ⟨#[60, 63]⟩ false c3 W
  have C4 : Hid (∀ W, Calls Tryd.prog 29 #[.string (lba s), .string ⟨#[60]⟩] W fun e w' => e = .returned (.bool true) ∧ w' = W) := fun W => begins_any s ⟨#[60]⟩ true c4 W
  have CT : Hid (∀ W, RdAt W g p (pos p (s.drop 1)) → Below w0.heap.size w0 W → Calls Tryd.prog 30 #[.pointer (some ⟨g, 0, none⟩)] W fun e w' => TagPost W g p (tagP lowT (s.drop 1)) e w') := fun W h1 h2 => tag_any w0 HE g hg p _ (hS.dr 1) W h1 h2 hp
  rw [hkn] at CT
  generalize tagP lowT (s.drop 1) = TR at *
  generalize pos p s = k at *
  clear hr hb HE hkn c1 c2 c3 c4 hS
  go_enter Tryd.func12, Tryd.ntmps12
  go_wp2_with fail
  go_region
  go_wp2_with fail
  refine (C1.out _).mono ?_
  rintro e wx ⟨rfl, hwx⟩
  have hwy := hwx.symm
  subst hwy
  clear C1 hwx
  go_wp2_with fail
  refine (C2.out _).mono ?_
  rintro e wx ⟨rfl, hwx⟩
  have hwy := hwx.symm
  subst hwy
  clear C2 hwx
  go_wp2_with fail
  refine (C3.out _).mono ?_
  rintro e wx ⟨rfl, hwx⟩
  have hwy := hwx.symm
  subst hwy
  clear C3 hwx
  go_wp2_with fail
  refine (C4.out _).mono ?_
  rintro e wx ⟨rfl, hwx⟩
  have hwy := hwx.symm
  subst hwy
  clear C4 hwx
  go_wp2_with fail
  obtain ⟨W2, hW2⟩ : ∃ W, W = (w.setCell ⟨g, 1, none⟩ (.int .i64 ((k : Int) + 1))).drew := ⟨_, rfl⟩
  have M2 : Moves w g ((k + 1 : Nat) : Int) W2 := by rw [hW2]; exact Moves.of_set.drewN 1
  have hr2 := M2.rd HR.out
  have hB2 := M2.base HB.out hg
  rw [← hW2]
  refine (CT.out _ hr2 hB2).mono ?_
  rintro e w3 ⟨v3, rfl, hown3, hm3⟩
  have M3 : Hid (Moves w g _ w3) := M2.trans hm3 HR.out
  have HO3 : Hid (w3.ownsRow w.heap.size 33 3 v3 _ _) := ownsRow_base hown3 M2.size
  clear hW2 M2 hr2 hB2 CT hm3 hown3
  go_wp2_with fail
  go_ret
  exact ⟨v3, rfl, HO3.out, M3.out⟩
set_option maxHeartbeats 4000000 in
set_option maxRecDepth 100000 in
theorem piece_shut_any (w0 : World) (HE : LEnv w0) (g : Nat) (hg : w0.heap.size ≤ g) (p : ByteArray) (s : List UInt8) (hS : Suf p s) (w : World) (hr : RdAt w g p (pos p s)) (hb : Below w0.heap.size w0 w) (hp : p.size ≤ 4000) (c1 : comL.isPrefixOf s = false) (c2 : ([60, 33] : List UInt8).isPrefixOf s = false) (c3 : ([60, 63] : List UInt8).isPrefixOf s = false) (c4 : tagB [60] s = false) (c5 : tagB [60, 47] s = true) :
    Calls Tryd.prog 12 #[.pointer (some ⟨g, 0, none⟩)] w fun e w' => TagPost w g p (some [], (tagP lowT (s.drop 2)).2) e w' := by
  have HR : Hid (RdAt w g p (pos p s)) := hr
  have HB : Hid (Below w0.heap.size w0 w) := hb
  have h0 := hr.page
  have h1 := hr.at_
  have hf := hr.frozen 1
  have hx := ext_end hS
  have hkl := pos_le p s
  have hki : ((pos p s : Nat) : Int) ≤ (p.size : Int) := by omega
  have hkn : pos p (s.drop 2) = pos p s + 2 := pre_drop hS 2 (tagB_len c5)
  have hwr : IntKind.i64.wrap (((pos p s : Nat) : Int) + 2) = (((pos p s + 2 : Nat)) : Int) := by rw [IntKind.wrap_i64]; omega
  have C1 : Hid (∀ W, Calls Tryd.prog 22 #[.string (lba s), .string ⟨#[60, 33, 45, 45]⟩] W fun e w' => e = .returned (.bool false) ∧ w' = W) := fun W => pre_any s ⟨#[60, 33, 45, 45]⟩ false c1 W
  have C2 : Hid (∀ W, Calls Tryd.prog 22 #[.string (lba s), .string ⟨#[60, 33]⟩] W fun e w' => e = .returned (.bool false) ∧ w' = W) := fun W => pre_any s ⟨#[60, 33]⟩ false c2 W
  have C3 : Hid (∀ W, Calls Tryd.prog 22 #[.string (lba s), .string ⟨#[60, 63]⟩] W fun e w' => e = .returned (.bool false) ∧ w' = W) := fun W => pre_any s ⟨#[60, 63]⟩ false c3 W
  have C4 : Hid (∀ W, Calls Tryd.prog 29 #[.string (lba s), .string ⟨#[60]⟩] W fun e w' => e = .returned (.bool false) ∧ w' = W) := fun W => begins_any s ⟨#[60]⟩ false c4 W
  have C5 : Hid (∀ W, Calls Tryd.prog 29 #[.string (lba s), .string ⟨#[60, 47]⟩] W fun e w' => e = .returned (.bool true) ∧ w' = W) := fun W => begins_any s ⟨#[60, 47]⟩ true c5 W
  have CT : Hid (∀ W, RdAt W g p (pos p (s.drop 2)) → Below w0.heap.size w0 W → Calls Tryd.prog 30 #[.pointer (some ⟨g, 0, none⟩)] W fun e w' => TagPost W g p (tagP lowT (s.drop 2)) e w') := fun W h1 h2 => tag_any w0 HE g hg p _ (hS.dr 2) W h1 h2 hp
  rw [hkn] at CT
  generalize tagP lowT (s.drop 2) = TR at *
  generalize pos p s = k at *
  clear hr hb HE hkn c1 c2 c3 c4 c5 hS
  go_enter Tryd.func12, Tryd.ntmps12
  go_wp2_with fail
  go_region
  go_wp2_with fail
  refine (C1.out _).mono ?_
  rintro e wx ⟨rfl, hwx⟩
  have hwy := hwx.symm
  subst hwy
  clear C1 hwx
  go_wp2_with fail
  refine (C2.out _).mono ?_
  rintro e wx ⟨rfl, hwx⟩
  have hwy := hwx.symm
  subst hwy
  clear C2 hwx
  go_wp2_with fail
  refine (C3.out _).mono ?_
  rintro e wx ⟨rfl, hwx⟩
  have hwy := hwx.symm
  subst hwy
  clear C3 hwx
  go_wp2_with fail
  refine (C4.out _).mono ?_
  rintro e wx ⟨rfl, hwx⟩
  have hwy := hwx.symm
  subst hwy
  clear C4 hwx
  go_wp2_with fail
  refine (C5.out _).mono ?_
  rintro e wx ⟨rfl, hwx⟩
  have hwy := hwx.symm
  subst hwy
  clear C5 hwx
  go_wp2_with fail
  obtain ⟨W2, hW2⟩ : ∃ W, W = (w.setCell ⟨g, 1, none⟩ (.int .i64 ((k : Int) + 2))).drew := ⟨_, rfl⟩
  have M2 : Moves w g ((k + 2 : Nat) : Int) W2 := by rw [hW2]; exact Moves.of_set.drewN 1
  have hr2 := M2.rd HR.out
  have hB2 := M2.base HB.out hg
  rw [← hW2]
  refine (CT.out _ hr2 hB2).mono ?_
  rintro e w3 ⟨v3, rfl, _, hm3⟩
  have M3 : Hid (Moves w g _ w3) := M2.trans hm3 HR.out
  clear hW2 M2 hr2 hB2 CT hm3
  go_wp2_with fail
  go_ret
  exact tagPost_no M3.out
set_option maxHeartbeats 4000000 in
set_option maxRecDepth 100000 in
theorem piece_else_any (w0 : World) (_HE : LEnv w0) (g : Nat) (_hg : w0.heap.size ≤ g) (p : ByteArray) (s : List UInt8) (hS : Suf p s) (w : World) (hr : RdAt w g p (pos p s)) (hb : Below w0.heap.size w0 w) (hp : p.size ≤ 4000) (c1 : comL.isPrefixOf s = false) (c2 : ([60, 33] : List UInt8).isPrefixOf s = false) (c3 : ([60, 63] : List UInt8).isPrefixOf s = false) (c4 : tagB [60] s = false) (c5 : tagB [60, 47] s = false) (hne : 1 ≤ s.length) :
    Calls Tryd.prog 12 #[.pointer (some ⟨g, 0, none⟩)] w fun e w' => TagPost w g p (some [], s.drop 1) e w' := by
  have HR : Hid (RdAt w g p (pos p s)) := hr
  have HB : Hid (Below w0.heap.size w0 w) := hb
  have h0 := hr.page
  have h1 := hr.at_
  have hf := hr.frozen 1
  have hx := ext_end hS
  have hkl := pos_le p s
  have hki : ((pos p s : Nat) : Int) ≤ (p.size : Int) := by omega
  have hkn : pos p (s.drop 1) = pos p s + 1 := pre_drop hS 1 hne
  have hwr : IntKind.i64.wrap (((pos p s : Nat) : Int) + 1) = (((pos p s + 1 : Nat)) : Int) := by rw [IntKind.wrap_i64]; omega
  have HKN : Hid (pos p (s.drop 1) = pos p s + 1) := hkn
  have C1 : Hid (∀ W, Calls Tryd.prog 22 #[.string (lba s), .string ⟨#[60, 33, 45, 45]⟩] W fun e w' => e = .returned (.bool false) ∧ w' = W) := fun W => pre_any s ⟨#[60, 33, 45, 45]⟩ false c1 W
  have C2 : Hid (∀ W, Calls Tryd.prog 22 #[.string (lba s), .string ⟨#[60, 33]⟩] W fun e w' => e = .returned (.bool false) ∧ w' = W) := fun W => pre_any s ⟨#[60, 33]⟩ false c2 W
  have C3 : Hid (∀ W, Calls Tryd.prog 22 #[.string (lba s), .string ⟨#[60, 63]⟩] W fun e w' => e = .returned (.bool false) ∧ w' = W) := fun W => pre_any s ⟨#[60, 63]⟩ false c3 W
  have C4 : Hid (∀ W, Calls Tryd.prog 29 #[.string (lba s), .string ⟨#[60]⟩] W fun e w' => e = .returned (.bool false) ∧ w' = W) := fun W => begins_any s ⟨#[60]⟩ false c4 W
  have C5 : Hid (∀ W, Calls Tryd.prog 29 #[.string (lba s), .string ⟨#[60, 47]⟩] W fun e w' => e = .returned (.bool false) ∧ w' = W) := fun W => begins_any s ⟨#[60, 47]⟩ false c5 W
  generalize pos p s = k at *
  clear hr hb hkn c1 c2 c3 c4 c5 hS
  go_enter Tryd.func12, Tryd.ntmps12
  go_wp2_with fail
  go_region
  go_wp2_with fail
  refine (C1.out _).mono ?_
  rintro e wx ⟨rfl, hwx⟩
  have hwy := hwx.symm
  subst hwy
  clear C1 hwx
  go_wp2_with fail
  refine (C2.out _).mono ?_
  rintro e wx ⟨rfl, hwx⟩
  have hwy := hwx.symm
  subst hwy
  clear C2 hwx
  go_wp2_with fail
  refine (C3.out _).mono ?_
  rintro e wx ⟨rfl, hwx⟩
  have hwy := hwx.symm
  subst hwy
  clear C3 hwx
  go_wp2_with fail
  refine (C4.out _).mono ?_
  rintro e wx ⟨rfl, hwx⟩
  have hwy := hwx.symm
  subst hwy
  clear C4 hwx
  go_wp2_with fail
  refine (C5.out _).mono ?_
  rintro e wx ⟨rfl, hwx⟩
  have hwy := hwx.symm
  subst hwy
  clear C5 hwx
  go_wp2_with fail
  go_ret
  refine tagPost_no ?_
  rw [HKN.out]
  exact Moves.of_set.drewN 1
theorem piece_any (w0 : World) (HE : LEnv w0) (g : Nat) (hg : w0.heap.size ≤ g) (p : ByteArray) (s : List UInt8) (hne : s ≠ []) (hS : Suf p s) (w : World) (hr : RdAt w g p (pos p s)) (hb : Below w0.heap.size w0 w) (hp : p.size ≤ 4000) :
    Calls Tryd.prog 12 #[.pointer (some ⟨g, 0, none⟩)] w fun e w' => TagPost w g p (some (pieceP lowT s).1, (pieceP lowT s).2) e w' := by
  unfold pieceP
  cases c1 : comL.isPrefixOf s with
  | true => rw [if_pos rfl]; exact piece_com_any w0 HE g hg p s hS w hr hb hp c1
  | false =>
    rw [if_neg (by decide)]
    cases c2 : ([60, 33] : List UInt8).isPrefixOf s with
    | true => rw [if_pos (.inl rfl)]; exact piece_ex_any w0 HE g hg p s hS w hr hb hp c1 c2
    | false =>
      cases c3 : ([60, 63] : List UInt8).isPrefixOf s with
      | true => rw [if_pos (.inr rfl)]; exact piece_q_any w0 HE g hg p s hS w hr hb hp c1 c2 c3
      | false =>
        rw [if_neg (by decide)]
        cases c4 : tagB [60] s with
        | true => rw [if_pos rfl]; exact piece_tag_any w0 HE g hg p s hS w hr hb hp c1 c2 c3 c4
        | false =>
          rw [if_neg (by decide)]
          cases c5 : tagB [60, 47] s with
          | true => rw [if_pos rfl]; exact piece_shut_any w0 HE g hg p s hS w hr hb hp c1 c2 c3 c4 c5
          | false => rw [if_neg (by decide)]; exact piece_else_any w0 HE g hg p s hS w hr hb hp c1 c2 c3 c4 c5 (List.length_pos_iff.2 hne)
theorem tag_suf (low : List UInt8 → List UInt8) : ∀ (n : Nat) (seen : List (List UInt8)) (s : List UInt8), (tagF low n seen s).2 <:+ s
  | 0, _, _ => List.nil_suffix
  | n + 1, seen, s => by
    unfold tagF
    cases h : s.dropWhile inGap with
    | nil => exact List.nil_suffix
    | cons c t =>
      have h1 : c :: t <:+ s := h ▸ List.dropWhile_suffix inGap
      simp only
      split
      · exact (List.suffix_cons c t).trans h1
      · exact ((tag_suf low n _ _).trans (attr_suf (c :: t))).trans h1
theorem tagP_suf (low : List UInt8 → List UInt8) (s : List UInt8) : (tagP low s).2 <:+ s := (tag_suf low _ _ _).trans (List.dropWhile_suffix _)
theorem piece_suf (low : List UInt8 → List UInt8) (s : List UInt8) : (pieceP low s).2 <:+ s := by
  unfold pieceP
  split
  · exact (behind_suf _ _).trans (List.drop_suffix _ _)
  · split
    · exact behind_suf _ _
    · split
      · exact (tagP_suf low _).trans (List.drop_suffix _ _)
      · split
        · exact (tagP_suf low _).trans (List.drop_suffix _ _)
        · exact List.drop_suffix _ _
end Go.Proofs.YtdlnlepecdcmjaaDoor
