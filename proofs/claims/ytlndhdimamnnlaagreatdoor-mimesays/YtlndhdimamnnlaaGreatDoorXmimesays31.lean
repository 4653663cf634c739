
import Derived.Test.YtlndhdimamnnlaaGreatDoorXmimesays24
namespace Go.Proofs.YtlndhdimamnnlaaGreatDoor
open Go.RowKit
def rsm (x : Int) : Int := if 65 ≤ x ∧ x ≤ 90 then x + 32 else x
theorem rsm_any (x : Nat) (hx : x ≤ 1114111) (w : World) : Calls Tryz.prog 124 #[.int .i32 (x : Int)] w fun e w' => e = .returned (.int .i32 (rsm x)) ∧ w' = w := by
 by_cases h1 : 65 ≤ x
 ·have h1' : (65 : Int) ≤ (x : Int) := by omega
  by_cases h2 : x ≤ 90
  ·have h2' : (x : Int) ≤ 90 := by omega
   have HN : Hid (rsm x = (x : Int) + 32) := by unfold Hid rsm; rw [if_pos ⟨h1', h2'⟩]
   have hw : IntKind.i32.wrap ((x : Int) + 32) = (x : Int) + 32 := by rw [IntKind.wrap_i32]; omega
   go_enter Tryz.func124, Tryz.ntmps124
   go_wp2
   go_ret
   exact ⟨by rw [HN.out]; rfl, rfl⟩
  ·have h2' : decide ((x : Int) ≤ 90) = false := by simp; omega
   have HN : Hid (rsm x = (x : Int)) := by unfold Hid rsm; rw [if_neg (by omega)]
   go_enter Tryz.func124, Tryz.ntmps124
   go_wp2
   go_ret
   exact ⟨by rw [HN.out]; rfl, rfl⟩
 ·have h1' : decide ((65 : Int) ≤ (x : Int)) = false := by simp; omega
  have HN : Hid (rsm x = (x : Int)) := by unfold Hid rsm; rw [if_neg (by omega)]
  go_enter Tryz.func124, Tryz.ntmps124
  go_wp2
  go_ret
  exact ⟨by rw [HN.out]; rfl, rfl⟩
theorem decode_one (c : UInt8) (l : List UInt8) (h : c.toNat < 128) : Lib.decodeL (c :: l) = (c.toNat, 1) := by
 have e : (ByteArray.mk (c :: l).toArray).get! 0 = c := rfl
 unfold Lib.decodeL Utf8.decode
 simp only [Nat.add_zero, e]
 rw [if_pos h]
theorem rsm_byte (c : UInt8) (h : c.toNat < 128) : 0 ≤ rsm (c.toNat : Int) ∧ Lib.encodeRune (rsm (c.toNat : Int)) = [Lib.lowerB c] := by
 have hl := lower_num8 c
 have e : rsm (c.toNat : Int) = ((Lib.lowerB c).toNat : Int) := by
  unfold rsm
  by_cases hu : 65 ≤ c.toNat ∧ c.toNat ≤ 90
  ·rw [if_pos hu] at hl; rw [if_pos (by omega), hl]; omega
  ·rw [if_neg hu] at hl; rw [if_neg (by omega), hl]
 have h2 := ascii_low c h
 refine ⟨by rw [e]; omega, ?_⟩
 rw [e, Lib.encodeRune, Lib.encodeRuneZ_one (by omega) (by omega)]
 simp
theorem map_small : ∀ (n : Nat) (l : List UInt8), l.length ≤ n → (∀ c ∈ l, c.toNat < 128) → Lib.mapGoD rsm n l = small8 l
 | 0, l, hn, _ => by
  have : l = [] := List.length_eq_zero_iff.1 (by omega)
  subst this; rfl
 | n + 1, [], _, _ => by rw [Lib.mapGoD, if_pos rfl]; rfl
 | n + 1, c :: l, hn, ha => by
  have hc := ha c (by simp)
  rw [Lib.mapGoD, if_neg (by simp), decode_one c l hc, if_pos (rsm_byte c hc).1, (rsm_byte c hc).2]
  simp only [List.drop_succ_cons, List.drop_zero]
  rw [map_small n l (by simpa using hn) (fun x hx => ha x (by simp [hx]))]
  rfl
theorem rsmall_any (l : List UInt8) (w : World) (hs : l.length ≤ 1000000) (ha : ∀ c ∈ l, c.toNat < 128) (hT : Lib.Utf8Tabs 6 7 w) :
  Calls Tryz.prog 71 #[.string (ba l)] w fun e w' => e = .returned (.string (ba (small8 l))) ∧ Below w.heap.size w w' := by
 have C := Tryz.strings_Map_runes 124 #[] (fun args w => by kernel_rfl) rsm (ba l) w (by rw [ba_size]; omega) (fun W x hx _ => (rsm_any x hx W).mono (fun e w' h => ⟨h.1, 0, h.2⟩)) (fun x hx => by unfold rsm; split <;> omega) hT
 have e : Lib.mapD rsm (ba l).data.toList = small8 l := map_small _ _ (Nat.le_refl _) ha
 rw [e] at C
 have HC : Hid (Calls Tryz.prog 87 #[.func (.func 124) #[] #[], .string (ba l)] w fun e w' => e = .returned (.string (ba (small8 l))) ∧ Below w.heap.size w w') := C
 clear C e ha hT
 go_enter Tryz.func71, Tryz.ntmps71
 go_wp2_with fail
 refine HC.out.mono ?_
 rintro e w1 ⟨rfl, hb⟩
 clear HC
 go_wp2
 go_ret
 exact ⟨rfl, hb⟩
end Go.Proofs.YtlndhdimamnnlaaGreatDoor



namespace Go.Proofs.YtlndhdimamnnlaaGreatDoor
theorem cutB_app (d : UInt8) : ∀ (b x : List UInt8), (∀ c ∈ b, c ≠ d) → cutB d (b ++ x) = (cutB d x).map fun y => (b ++ y.1, y.2)
 | [], x, _ => by rw [List.nil_append]; cases cutB d x <;> rfl
 | c :: b, x, h => by
  rw [List.cons_append, cutB, if_neg (h c (by simp)), cutB_app d b x (fun y hy => h y (by simp [hy]))]
  cases cutB d x <;> rfl
theorem dropWhile_nil (p : UInt8 → Bool) : ∀ l : List UInt8, l.dropWhile p = [] → ∀ z ∈ l, p z = true
 | [], _, z, hz => by cases hz
 | a :: l, h, z, hz => by
  rw [List.dropWhile_cons] at h
  by_cases ha : p a = true
  ·rw [if_pos ha] at h
   rcases List.mem_cons.1 hz with rfl | hz
   ·exact ha
   ·exact dropWhile_nil p l h z hz
  ·rw [if_neg ha] at h; cases h
theorem sp_split (R : List UInt8) : ∃ b, R = b ++ R.dropWhile isSp ∧ ∀ c ∈ b, isSp c = true := by
 refine ⟨R.takeWhile isSp, (List.takeWhile_append_dropWhile).symm, fun c hc => ?_⟩
 exact List.all_eq_true.1 List.all_takeWhile c hc
theorem sp_ne {c d : UInt8} (h : isSp c = true) (hd : isSp d = false) : c ≠ d := fun e => by subst e; rw [h] at hd; cases hd
theorem trim_sp (b x : List UInt8) (hb : ∀ c ∈ b, isSp c = true) : trimBy isSp (b ++ x) = trimBy isSp x := by
 have hrev : ∀ c ∈ b.reverse, isSp c = true := fun c hc => hb c (by simpa using hc)
 unfold trimBy dropEnd
 rw [List.reverse_append, List.dropWhile_append]
 by_cases h : (x.reverse.dropWhile isSp).isEmpty = true
 ·rw [if_pos h, dropWhile_all isSp _ hrev]
  have h2 : x.reverse.dropWhile isSp = [] := by simpa using h
  rw [h2]
 ·rw [if_neg h, List.reverse_append, List.reverse_reverse, List.dropWhile_append, if_pos]
  rw [dropWhile_all isSp b hb]; rfl
theorem name_none (R : List UInt8) : (cutB 61 (R.dropWhile isSp) = none) → (cutP 61 R).2.2 = false := by
 intro h
 obtain ⟨b, e, hb⟩ := sp_split R
 have : cutB 61 R = none := by
  conv => lhs; rw [e]
  rw [cutB_app 61 b _ (fun c hc => sp_ne (hb c hc) rfl), h]; rfl
 rw [cutP_none this]
theorem name_some (R a r : List UInt8) (h : cutB 61 (R.dropWhile isSp) = some (a, r)) : (cutP 61 R).2.2 = true ∧ nameS R = trimBy isSp a ∧ (cutP 61 R).2.1 = r := by
 obtain ⟨b, e, hb⟩ := sp_split R
 have : cutB 61 R = some (b ++ a, r) := by
  conv => lhs; rw [e]
  rw [cutB_app 61 b _ (fun c hc => sp_ne (hb c hc) rfl), h]; rfl
 rw [nameS, cutP_some this]
 exact ⟨rfl, trim_sp b a hb, rfl⟩
def tailOf (r : List UInt8) (m : Bool) : List UInt8 := if m = true then 59 :: r else []
theorem gap_end (u : List UInt8) (h : u.dropWhile isSp = []) : trimBy isSp (cutP 59 u).1 = [] ∧ tailOf (cutP 59 u).2.1 (cutP 59 u).2.2 = [] := by
 obtain ⟨b, e, hb⟩ := sp_split u
 rw [h, List.append_nil] at e
 have hc : cutB 59 u = none := cutB_off 59 u (fun c hc => sp_ne (hb c (e ▸ hc)) rfl)
 rw [cutP_none hc]
 refine ⟨?_, rfl⟩
 show trimBy isSp u = []
 rw [e, trimBy, dropEnd_all isSp b hb]; rfl
theorem gap_semi (u r : List UInt8) (h : u.dropWhile isSp = 59 :: r) : trimBy isSp (cutP 59 u).1 = [] ∧ tailOf (cutP 59 u).2.1 (cutP 59 u).2.2 = 59 :: r := by
 obtain ⟨b, e, hb⟩ := sp_split u
 rw [h] at e
 have hc : cutB 59 u = some (b, r) := by rw [e]; exact cutB_at 59 b r (fun c hc => sp_ne (hb c hc) rfl)
 rw [cutP_some hc]
 refine ⟨?_, rfl⟩
 show trimBy isSp b = []
 rw [trimBy, dropEnd_all isSp b hb]; rfl
theorem gap_bad (u r : List UInt8) (c : UInt8) (h : u.dropWhile isSp = c :: r) (hc : c ≠ 59) : (trimBy isSp (cutP 59 u).1).isEmpty = false := by
 obtain ⟨b, e, hb⟩ := sp_split u
 have hcs : isSp c = false := by
  have := List.head?_dropWhile_not isSp u
  rw [h] at this
  simpa using this
 rw [h] at e
 have hm : c ∈ (cutP 59 u).1 ∧ ∀ x, (cutP 59 u).1 = x → trimBy isSp x = trimBy isSp (cutP 59 (c :: r)).1 := by
  have e2 : cutP 59 u = (b ++ (cutP 59 (c :: r)).1, (cutP 59 (c :: r)).2.1, (cutP 59 (c :: r)).2.2) := by
   unfold cutP
   rw [e, cutB_app 59 b _ (fun x hx => sp_ne (hb x hx) rfl)]
   cases cutB 59 (c :: r) <;> rfl
  have e3 : c ∈ (cutP 59 (c :: r)).1 := by
   unfold cutP
   rw [cutB, if_neg hc]
   cases cutB 59 r <;> simp
  rw [e2]
  exact ⟨by simp [e3], fun x hx => by rw [← hx]; exact trim_sp b _ hb⟩
 rw [← Bool.not_eq_true]
 intro he
 have h0 : trimBy isSp (cutP 59 u).1 = [] := by simpa using he
 have hcm := hm.1
 have : ∀ y : List UInt8, c ∈ y → trimBy isSp y ≠ [] := by
  intro y hy ht
  unfold trimBy at ht
  have h1 : ∀ z ∈ dropEnd isSp y, isSp z = true := by
   intro z hz
   exact dropWhile_nil isSp _ ht z hz
  have h2 : c ∈ dropEnd isSp y := by
   unfold dropEnd
   rw [List.mem_reverse]
   have hy' : c ∈ y.reverse.takeWhile isSp ++ y.reverse.dropWhile isSp := by rw [List.takeWhile_append_dropWhile]; simpa using hy
   rcases List.mem_append.1 hy' with h | h
   ·have := List.all_eq_true.1 (List.all_takeWhile (p := isSp) (l := y.reverse)) c h
    rw [hcs] at this; cases this
   ·exact h
  rw [h1 c h2] at hcs; cases hcs
 exact this _ hcm h0
theorem semi_at (Q : List UInt8) : cutB 59 (Q ++ [59]) = some ((cutP 59 Q).1, (cutP 59 Q).2.1 ++ (if (cutP 59 Q).2.2 = true then [59] else [])) ∧ Q = (cutP 59 Q).1 ++ tailOf (cutP 59 Q).2.1 (cutP 59 Q).2.2 := by
 cases h : cutB 59 Q with
 | none =>
  rw [cutP_none h]
  have hq : ∀ c ∈ Q, c ≠ 59 := by
   intro c hc e
   subst e
   obtain ⟨s, t, rfl⟩ := List.append_of_mem hc
   have : ∀ (s t : List UInt8), cutB 59 (s ++ 59 :: t) ≠ none := by
    intro s
    induction s with
    | nil => intro t; simp [cutB]
    | cons a s ih =>
     intro t
     rw [List.cons_append, cutB]
     split
     ·simp
     ·intro e
      cases hh : cutB 59 (s ++ 59 :: t) with
      | none => exact ih t hh
      | some y => rw [hh] at e; cases e
   exact this s t h
  refine ⟨?_, by simp [tailOf]⟩
  rw [cutB_at 59 Q [] hq]; rfl
 | some x =>
  obtain ⟨a, r⟩ := x
  rw [cutP_some h]
  obtain ⟨e, ha⟩ := cutB_some 59 Q a r h
  refine ⟨?_, by simp [tailOf, e]⟩
  rw [e, List.append_assoc, List.cons_append, cutB_at 59 a _ ha]; rfl
end Go.Proofs.YtlndhdimamnnlaaGreatDoor

