/- The reference's Small of an ASCII text: its letters small. Nothing that was there is changed. Conditions: the tables of unicode/utf8 lie there as the program's text lays them. -/
import Derived.Test.YtehiaenicfmpbaaDoorHParam
import Derived.Test.YtehiaenicfmpbaaDoorPlainE
namespace Go.Proofs.YtehiaenicfmpbaaDoor
open Go.RowKit

def rsm (x : Int) : Int := if 65 ≤ x ∧ x ≤ 90 then x + 32 else x

theorem rsm_any (x : Nat) (hx : x ≤ 1114111) (w : World) : Calls Tryd.prog 148 #[.int .i32 (x : Int)] w fun e w' => e = .returned (.int .i32 (rsm x)) ∧ w' = w := by
  by_cases h1 : 65 ≤ x
  · have h1' : (65 : Int) ≤ (x : Int) := by omega
    by_cases h2 : x ≤ 90
    · have h2' : (x : Int) ≤ 90 := by omega
      have HN : Hid (rsm x = (x : Int) + 32) := by unfold Hid rsm; rw [if_pos ⟨h1', h2'⟩]
      have hw : IntKind.i32.wrap ((x : Int) + 32) = (x : Int) + 32 := by rw [IntKind.wrap_i32]; omega
      go_enter Tryd.func148, Tryd.ntmps148
      go_wp2
      go_ret
      exact ⟨by rw [HN.out]; rfl, rfl⟩
    · have h2' : decide ((x : Int) ≤ 90) = false := by simp; omega
      have HN : Hid (rsm x = (x : Int)) := by unfold Hid rsm; rw [if_neg (by omega)]
      go_enter Tryd.func148, Tryd.ntmps148
      go_wp2
      go_ret
      exact ⟨by rw [HN.out]; rfl, rfl⟩
  · have h1' : decide ((65 : Int) ≤ (x : Int)) = false := by simp; omega
    have HN : Hid (rsm x = (x : Int)) := by unfold Hid rsm; rw [if_neg (by omega)]
    go_enter Tryd.func148, Tryd.ntmps148
    go_wp2
    go_ret
    exact ⟨by rw [HN.out]; rfl, rfl⟩

theorem decode_one (c : UInt8) (l : List UInt8) (h : c.toNat < 128) : Lib.decodeL (c :: l) = (c.toNat, 1) := by
  have e : (ByteArray.mk (c :: l).toArray).get! 0 = c := rfl
  unfold Lib.decodeL Utf8.decode
  simp only [Nat.add_zero, e]
  rw [if_pos h]

theorem rsm_byte (c : UInt8) (h : c.toNat < 128) : 0 ≤ rsm (c.toNat : Int) ∧ Lib.encodeRune (rsm (c.toNat : Int)) = [Lib.lowerB c] := by
  have hl := lower_num8 c
  have e : rsm (c.toNat : Int) = ((Lib.lowerB c).toNat : Int) := by
    unfold rsm
    by_cases hu : 65 ≤ c.toNat ∧ c.toNat ≤ 90
    · rw [if_pos hu] at hl; rw [if_pos (by omega), hl]; omega
    · rw [if_neg hu] at hl; rw [if_neg (by omega), hl]
  have h2 := ascii_low c h
  refine ⟨by rw [e]; omega, ?_⟩
  rw [e, Lib.encodeRune, Lib.encodeRuneZ_one (by omega) (by omega)]
  simp

theorem map_small : ∀ (n : Nat) (l : List UInt8), l.length ≤ n → (∀ c ∈ l, c.toNat < 128) → Lib.mapGoD rsm n l = small8 l
  | 0, l, hn, _ => by
    have : l = [] := List.length_eq_zero_iff.1 (by omega)
    subst this; rfl
  | n + 1, [], _, _ => by rw [Lib.mapGoD, if_pos rfl]; rfl
  | n + 1, c :: l, hn, ha => by
    have hc := ha c (by simp)
    rw [Lib.mapGoD, if_neg (by simp), decode_one c l hc, if_pos (rsm_byte c hc).1, (rsm_byte c hc).2]
    simp only [List.drop_succ_cons, List.drop_zero]
    rw [map_small n l (by simpa using hn) (fun x hx => ha x (by simp [hx]))]
    rfl

theorem rsmall_any (l : List UInt8) (w : World) (hs : l.length ≤ 1000000) (ha : ∀ c ∈ l, c.toNat < 128) (hT : Lib.Utf8Tabs 4 5 w) :
    Calls Tryd.prog 97 #[.string (ba l)] w fun e w' => e = .returned (.string (ba (small8 l))) ∧ Below w.heap.size w w' := by
  have C := Tryd.strings_Map_runes 148 #[] (fun args w => by kernel_rfl) rsm (ba l) w (by rw [ba_size]; omega) (fun W x hx _ => (rsm_any x hx W).mono (fun e w' h => ⟨h.1, 0, h.2⟩)) (fun x hx => by unfold rsm; split <;> omega) hT
  have e : Lib.mapD rsm (ba l).data.toList = small8 l := map_small _ _ (Nat.le_refl _) ha
  rw [e] at C
  have HC : Hid (Calls Tryd.prog 112 #[.func (.func 148) #[] #[], .string (ba l)] w fun e w' => e = .returned (.string (ba (small8 l))) ∧ Below w.heap.size w w') := C
  clear C e ha hT
  go_enter Tryd.func97, Tryd.ntmps97
  go_wp2_with fail
  refine HC.out.mono ?_
  rintro e w1 ⟨rfl, hb⟩
  clear HC
  go_wp2
  go_ret
  exact ⟨rfl, hb⟩
end Go.Proofs.YtehiaenicfmpbaaDoor
