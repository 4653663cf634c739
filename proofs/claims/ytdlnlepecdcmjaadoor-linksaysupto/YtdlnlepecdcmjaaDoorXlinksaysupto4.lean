/- strings.IndexByte as a question: is the byte there? No function of the program. -/
import Derived.Test.YtdlnlepecdcmjaaDoorXlinksaysupto1
import Derived.Test.YtdlnlepecdcmjaaDoorXlinksaysupto2
import Derived.Test.YtdlnlepecdcmjaaDoorXlinksaysupto3
namespace Go.Proofs.YtdlnlepecdcmjaaDoor
open Go.RowKit

theorem dropB (s : ByteArray) (k : Nat) (h : k < s.size) : s.data.toList.drop k = s[k] :: s.data.toList.drop (k + 1) := by
  rw [List.drop_eq_getElem_cons (by simpa using h)]; rfl

theorem ix_any (s : ByteArray) (l : List UInt8) (hs : s.data.toList = l) (c : UInt8) (cc : Int) (e : cc = (c.toNat : Int)) (w : World) :
    Calls Tryd.prog 16 #[.string s, .int .u8 cc] w fun e w' => ∃ i : Int, e = .returned (.int .i64 i) ∧ decide (0 ≤ i) = l.contains c ∧ w' = w := by
  subst e hs
  refine (Tryd.strings_IndexByte s (c.toNat : Int) w).mono ?_
  rintro e w' ⟨rfl, rfl⟩
  refine ⟨_, rfl, ?_, rfl⟩
  rw [indexByte_mem]
  simp

end Go.Proofs.YtdlnlepecdcmjaaDoor

/- link's small functions on bytes: what the plain functions say; the world is as it was. -/
namespace Go.Proofs.YtdlnlepecdcmjaaDoor
open Go.RowKit

theorem ne_u8 {c : UInt8} {n : Nat} (hn : n < 256) (h : ¬ c = UInt8.ofNat n) : ¬ (c.toNat : Int) = (n : Int) := fun e => h (UInt8.toNat_inj.1 (by rw [UInt8.toNat_ofNat_of_lt' hn]; omega))
set_option maxHeartbeats 1000000 in
theorem space_any (c : UInt8) (cc : Int) (e : cc = (c.toNat : Int)) (w : World) :
    Calls Tryd.prog 47 #[.int .u8 cc] w fun e w' => e = .returned (.bool (spB c)) ∧ w' = w := by
  subst e
  go_enter Tryd.func47, Tryd.ntmps47
  go_wp2_with (go_at_call 16; refine (ix_any ⟨#[32, 9, 13, 10, 12]⟩ [32, 9, 13, 10, 12] rfl c _ rfl _).mono ?_; rintro e w' ⟨i, rfl, hi8, hw'⟩; have hi9 : Hid (decide (0 ≤ i) = spB c) := hi8; clear hi8; have hw'' := hw'.symm; subst hw'')
  go_ret
  exact ⟨ret_bool hi9.out, rfl⟩
set_option maxHeartbeats 1000000 in
theorem letter_any (c : UInt8) (cc : Int) (e : cc = (c.toNat : Int)) (w : World) :
    Calls Tryd.prog 44 #[.int .u8 cc] w fun e w' => e = .returned (.bool (letB c)) ∧ w' = w := by
  subst e
  obtain ⟨n, hn⟩ : ∃ n, n = c.toNat := ⟨_, rfl⟩
  have HL : Hid (letB c = ((decide (97 ≤ n) && decide (n ≤ 122)) || (decide (65 ≤ n) && decide (n ≤ 90)))) := by unfold Hid; rw [hn]; rfl
  rw [← hn]
  clear hn
  by_cases h1 : 97 ≤ n
  · have h1' : (97 : Int) ≤ (n : Int) := by omega
    by_cases h2 : n ≤ 122
    · have h2' : (n : Int) ≤ 122 := by omega
      go_enter Tryd.func44, Tryd.ntmps44
      go_wp2
      go_ret
      exact ⟨ret_bool (by rw [HL.out]; simp [h1, h2]), rfl⟩
    · have h2' : ¬ (n : Int) ≤ 122 := by omega
      have h3' : (65 : Int) ≤ (n : Int) := by omega
      have h4' : ¬ (n : Int) ≤ 90 := by omega
      go_enter Tryd.func44, Tryd.ntmps44
      go_wp2
      go_ret
      exact ⟨ret_bool (by rw [HL.out]; simp; omega), rfl⟩
  · have h1' : ¬ (97 : Int) ≤ (n : Int) := by omega
    by_cases h3 : 65 ≤ n
    · have h3' : (65 : Int) ≤ (n : Int) := by omega
      by_cases h4 : n ≤ 90
      · have h4' : (n : Int) ≤ 90 := by omega
        go_enter Tryd.func44, Tryd.ntmps44
        go_wp2
        go_ret
        exact ⟨ret_bool (by rw [HL.out]; simp; omega), rfl⟩
      · have h4' : ¬ (n : Int) ≤ 90 := by omega
        go_enter Tryd.func44, Tryd.ntmps44
        go_wp2
        go_ret
        exact ⟨ret_bool (by rw [HL.out]; simp; omega), rfl⟩
    · have h3' : ¬ (65 : Int) ≤ (n : Int) := by omega
      go_enter Tryd.func44, Tryd.ntmps44
      go_wp2
      go_ret
      exact ⟨ret_bool (by rw [HL.out]; simp; omega), rfl⟩
set_option maxHeartbeats 2000000 in
theorem tag1_any (c : UInt8) (w : World) : Calls Tryd.prog 46 #[.int .u8 (c.toNat : Int)] w fun e w' => e = .returned (.bool (inName c)) ∧ w' = w := by
  have HS : Hid (∀ W, Calls Tryd.prog 47 #[.int .u8 (c.toNat : Int)] W fun e w' => e = .returned (.bool (spB c)) ∧ w' = W) := fun W => space_any c _ rfl W
  by_cases h47 : c = 47
  · subst h47
    have hsp : spB 47 = false := rfl
    rw [hsp] at HS
    go_enter Tryd.func46, Tryd.ntmps46
    go_wp2_with (go_at_call 47; refine (HS.out _).mono ?_; rintro e w' ⟨rfl, hw'⟩; have hw'' := hw'.symm; subst hw'')
    go_ret
    exact ⟨ret_bool (by decide), rfl⟩
  by_cases h62 : c = 62
  · subst h62
    have hsp : spB 62 = false := rfl
    rw [hsp] at HS
    go_enter Tryd.func46, Tryd.ntmps46
    go_wp2_with (go_at_call 47; refine (HS.out _).mono ?_; rintro e w' ⟨rfl, hw'⟩; have hw'' := hw'.symm; subst hw'')
    go_ret
    exact ⟨ret_bool (by decide), rfl⟩
  have n47 : ¬ (c.toNat : Int) = 47 := ne_u8 (n := 47) (by decide) h47
  have n62 : ¬ (c.toNat : Int) = 62 := ne_u8 (n := 62) (by decide) h62
  have HT : Hid (spB c = true → inName c = false) := fun h => by simp [inName, h]
  have HF : Hid (spB c = false → inName c = true) := fun h => by simp [inName, h, h47, h62]
  clear h47 h62
  cases hs : spB c with
  | true =>
    rw [hs] at HS
    have HP : Hid (_ = _) := HT.out hs
    clear HT HF hs
    go_enter Tryd.func46, Tryd.ntmps46
    go_wp2_with (go_at_call 47; refine (HS.out _).mono ?_; rintro e w' ⟨rfl, hw'⟩; have hw'' := hw'.symm; subst hw'')
    go_ret
    exact ⟨ret_bool (by rw [HP.out]), rfl⟩
  | false =>
    rw [hs] at HS
    have HP : Hid (_ = _) := HF.out hs
    clear HT HF hs
    go_enter Tryd.func46, Tryd.ntmps46
    go_wp2_with (go_at_call 47; refine (HS.out _).mono ?_; rintro e w' ⟨rfl, hw'⟩; have hw'' := hw'.symm; subst hw'')
    go_ret
    exact ⟨ret_bool (by rw [HP.out]; simp [n47, n62]), rfl⟩
set_option maxHeartbeats 2000000 in
theorem tag2_any (c : UInt8) (w : World) : Calls Tryd.prog 48 #[.int .u8 (c.toNat : Int)] w fun e w' => e = .returned (.bool (inGap c)) ∧ w' = w := by
  have HS : Hid (∀ W, Calls Tryd.prog 47 #[.int .u8 (c.toNat : Int)] W fun e w' => e = .returned (.bool (spB c)) ∧ w' = W) := fun W => space_any c _ rfl W
  by_cases h47 : c = 47
  · subst h47
    have hsp : spB 47 = false := rfl
    rw [hsp] at HS
    go_enter Tryd.func48, Tryd.ntmps48
    go_wp2_with (go_at_call 47; refine (HS.out _).mono ?_; rintro e w' ⟨rfl, hw'⟩; have hw'' := hw'.symm; subst hw'')
    go_ret
    exact ⟨ret_bool (by decide), rfl⟩
  have n47 : ¬ (c.toNat : Int) = 47 := ne_u8 (n := 47) (by decide) h47
  have HT : Hid (spB c = true → inGap c = true) := fun h => by simp [inGap, h]
  have HF : Hid (spB c = false → inGap c = false) := fun h => by simp [inGap, h, h47]
  clear h47
  cases hs : spB c with
  | true =>
    rw [hs] at HS
    have HP : Hid (_ = _) := HT.out hs
    clear HT HF hs
    go_enter Tryd.func48, Tryd.ntmps48
    go_wp2_with (go_at_call 47; refine (HS.out _).mono ?_; rintro e w' ⟨rfl, hw'⟩; have hw'' := hw'.symm; subst hw'')
    go_ret
    exact ⟨ret_bool (by rw [HP.out]), rfl⟩
  | false =>
    rw [hs] at HS
    have HP : Hid (_ = _) := HF.out hs
    clear HT HF hs
    go_enter Tryd.func48, Tryd.ntmps48
    go_wp2_with (go_at_call 47; refine (HS.out _).mono ?_; rintro e w' ⟨rfl, hw'⟩; have hw'' := hw'.symm; subst hw'')
    go_ret
    exact ⟨ret_bool (by rw [HP.out]; simp [n47]), rfl⟩
set_option maxHeartbeats 2000000 in
theorem attr1_any (c : UInt8) (w : World) : Calls Tryd.prog 61 #[.int .u8 (c.toNat : Int)] w fun e w' => e = .returned (.bool (inAttr c)) ∧ w' = w := by
  have HS : Hid (∀ W, Calls Tryd.prog 47 #[.int .u8 (c.toNat : Int)] W fun e w' => e = .returned (.bool (spB c)) ∧ w' = W) := fun W => space_any c _ rfl W
  by_cases h47 : c = 47
  · subst h47
    have hsp : spB 47 = false := rfl
    rw [hsp] at HS
    go_enter Tryd.func61, Tryd.ntmps61
    go_wp2_with (go_at_call 47; refine (HS.out _).mono ?_; rintro e w' ⟨rfl, hw'⟩; have hw'' := hw'.symm; subst hw'')
    go_ret
    exact ⟨ret_bool (by decide), rfl⟩
  by_cases h62 : c = 62
  · subst h62
    have hsp : spB 62 = false := rfl
    rw [hsp] at HS
    go_enter Tryd.func61, Tryd.ntmps61
    go_wp2_with (go_at_call 47; refine (HS.out _).mono ?_; rintro e w' ⟨rfl, hw'⟩; have hw'' := hw'.symm; subst hw'')
    go_ret
    exact ⟨ret_bool (by decide), rfl⟩
  by_cases h61 : c = 61
  · subst h61
    have hsp : spB 61 = false := rfl
    rw [hsp] at HS
    go_enter Tryd.func61, Tryd.ntmps61
    go_wp2_with (go_at_call 47; refine (HS.out _).mono ?_; rintro e w' ⟨rfl, hw'⟩; have hw'' := hw'.symm; subst hw'')
    go_ret
    exact ⟨ret_bool (by decide), rfl⟩
  have n47 : ¬ (c.toNat : Int) = 47 := ne_u8 (n := 47) (by decide) h47
  have n62 : ¬ (c.toNat : Int) = 62 := ne_u8 (n := 62) (by decide) h62
  have n61 : ¬ (c.toNat : Int) = 61 := ne_u8 (n := 61) (by decide) h61
  have HT : Hid (spB c = true → inAttr c = false) := fun h => by simp [inAttr, h]
  have HF : Hid (spB c = false → inAttr c = true) := fun h => by simp [inAttr, h, h47, h62, h61]
  clear h47 h62 h61
  cases hs : spB c with
  | true =>
    rw [hs] at HS
    have HP : Hid (_ = _) := HT.out hs
    clear HT HF hs
    go_enter Tryd.func61, Tryd.ntmps61
    go_wp2_with (go_at_call 47; refine (HS.out _).mono ?_; rintro e w' ⟨rfl, hw'⟩; have hw'' := hw'.symm; subst hw'')
    go_ret
    exact ⟨ret_bool (by rw [HP.out]), rfl⟩
  | false =>
    rw [hs] at HS
    have HP : Hid (_ = _) := HF.out hs
    clear HT HF hs
    go_enter Tryd.func61, Tryd.ntmps61
    go_wp2_with (go_at_call 47; refine (HS.out _).mono ?_; rintro e w' ⟨rfl, hw'⟩; have hw'' := hw'.symm; subst hw'')
    go_ret
    exact ⟨ret_bool (by rw [HP.out]; simp [n47, n62, n61]), rfl⟩
set_option maxHeartbeats 2000000 in
theorem val1_any (c : UInt8) (w : World) : Calls Tryd.prog 75 #[.int .u8 (c.toNat : Int)] w fun e w' => e = .returned (.bool (inBare c)) ∧ w' = w := by
  have HS : Hid (∀ W, Calls Tryd.prog 47 #[.int .u8 (c.toNat : Int)] W fun e w' => e = .returned (.bool (spB c)) ∧ w' = W) := fun W => space_any c _ rfl W
  by_cases h62 : c = 62
  · subst h62
    have hsp : spB 62 = false := rfl
    rw [hsp] at HS
    go_enter Tryd.func75, Tryd.ntmps75
    go_wp2_with (go_at_call 47; refine (HS.out _).mono ?_; rintro e w' ⟨rfl, hw'⟩; have hw'' := hw'.symm; subst hw'')
    go_ret
    exact ⟨ret_bool (by decide), rfl⟩
  have n62 : ¬ (c.toNat : Int) = 62 := ne_u8 (n := 62) (by decide) h62
  have HT : Hid (spB c = true → inBare c = false) := fun h => by simp [inBare, h]
  have HF : Hid (spB c = false → inBare c = true) := fun h => by simp [inBare, h, h62]
  clear h62
  cases hs : spB c with
  | true =>
    rw [hs] at HS
    have HP : Hid (_ = _) := HT.out hs
    clear HT HF hs
    go_enter Tryd.func75, Tryd.ntmps75
    go_wp2_with (go_at_call 47; refine (HS.out _).mono ?_; rintro e w' ⟨rfl, hw'⟩; have hw'' := hw'.symm; subst hw'')
    go_ret
    exact ⟨ret_bool (by rw [HP.out]), rfl⟩
  | false =>
    rw [hs] at HS
    have HP : Hid (_ = _) := HF.out hs
    clear HT HF hs
    go_enter Tryd.func75, Tryd.ntmps75
    go_wp2_with (go_at_call 47; refine (HS.out _).mono ?_; rintro e w' ⟨rfl, hw'⟩; have hw'' := hw'.symm; subst hw'')
    go_ret
    exact ⟨ret_bool (by rw [HP.out]; simp [n62]), rfl⟩
set_option maxHeartbeats 2000000 in
theorem val2_any (q c : UInt8) (g : Nat) (w : World) (hg : w.cell? ⟨g, 0, none⟩ = some (.int .u8 (q.toNat : Int))) : Calls Tryd.prog 76 #[.int .u8 (c.toNat : Int), .pointer (some ⟨g, 0, none⟩)] w fun e w' => e = .returned (.bool (notQ q c)) ∧ w' = w := by
  have HP : Hid (notQ q c = !((c.toNat : Int) == (q.toNat : Int))) := by
    unfold Hid notQ
    rw [bne]
    congr 1
    rw [Bool.eq_iff_iff]
    simp only [beq_iff_eq]
    exact ⟨fun h => by rw [h], fun h => UInt8.toNat_inj.1 (by omega)⟩
  go_enter Tryd.func76, Tryd.ntmps76
  go_wp2
  go_ret
  exact ⟨ret_bool (by rw [HP.out]; rfl), rfl⟩
/-- A question of bytes that is asked through a value. -/
def Asks (F : Nat) (caps : Array Value) (p : UInt8 → Bool) (w : World) : Prop := ∀ c : UInt8, Calls Tryd.prog F (#[.int .u8 (c.toNat : Int)] ++ caps) w fun e w' => e = .returned (.bool (p c)) ∧ w' = w
end Go.Proofs.YtdlnlepecdcmjaaDoor
