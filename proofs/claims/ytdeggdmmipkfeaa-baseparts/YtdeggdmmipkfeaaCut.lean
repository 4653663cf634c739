/- base.cut answers what the plain function says; the world is as it was. Conditions: the bytes lie there; at most two are cut, and no more than there are. -/
import Derived.Test.YtdeggdmmipkfeaaJoin
namespace Go.Proofs.Ytdeggdmmipkfeaa
open Go.RowKit

theorem cut1 (b o m c : Nat) (z : Nat) (w : World) (hm : m ≤ 100000) (hc : m + 1 ≤ c) (hcell : w.cell? ⟨b, o + m, none⟩ = some (.int .u8 (z : Int))) :
    Calls Try.prog 17 #[.slice (some ⟨b, o, none⟩) (m + 1) c, .int .i64 1] w fun e w' => w' = w ∧ ((z ≠ 0 ∧ e = .returned (.tuple #[.slice none 0 0, .bool false])) ∨ (z = 0 ∧ e = .returned (.tuple #[.slice (some ⟨b, o, none⟩) m c, .bool true]))) := by
  by_cases hz : z = 0
  · subst hz
    go_enter Try.func17, Try.ntmps17
    go_wp2
    refine wp_loop_rounds 2 ?_
    rw [rounds_succ]
    go_wp2
    rw [rounds_succ]
    go_wp2
    go_ret2
    exact ⟨rfl, .inr ⟨by simp, rfl⟩⟩
  · have hb : ((z : Int) != 0) = true := by rw [bne_iff_ne]; omega
    go_enter Try.func17, Try.ntmps17
    go_wp2
    refine wp_loop_rounds 2 ?_
    rw [rounds_succ]
    go_wp2
    go_ret2
    exact ⟨rfl, .inl ⟨hz, rfl⟩⟩

theorem cut2 (b o m c : Nat) (z u : Nat) (w : World) (hm : m ≤ 100000) (hc : m + 2 ≤ c) (hcell : w.cell? ⟨b, o + m, none⟩ = some (.int .u8 (z : Int))) (hcell1 : w.cell? ⟨b, o + (m + 1), none⟩ = some (.int .u8 (u : Int))) :
    Calls Try.prog 17 #[.slice (some ⟨b, o, none⟩) (m + 2) c, .int .i64 2] w fun e w' => w' = w ∧ ((¬ (z = 0 ∧ u = 0) ∧ e = .returned (.tuple #[.slice none 0 0, .bool false])) ∨ ((z = 0 ∧ u = 0) ∧ e = .returned (.tuple #[.slice (some ⟨b, o, none⟩) m c, .bool true]))) := by
  by_cases hz : z = 0
  · subst hz
    by_cases hu : u = 0
    · subst hu
      go_enter Try.func17, Try.ntmps17
      go_wp2
      refine wp_loop_rounds 3 ?_
      rw [rounds_succ]
      go_wp2
      rw [rounds_succ]
      go_wp2
      rw [rounds_succ]
      go_wp2
      go_ret2
      exact ⟨rfl, .inr ⟨by simp, rfl⟩⟩
    · have hb : ((u : Int) != 0) = true := by rw [bne_iff_ne]; omega
      go_enter Try.func17, Try.ntmps17
      go_wp2
      refine wp_loop_rounds 3 ?_
      rw [rounds_succ]
      go_wp2
      rw [rounds_succ]
      go_wp2
      go_ret2
      exact ⟨rfl, .inl ⟨fun h => hu h.2, rfl⟩⟩
  · have hb : ((z : Int) != 0) = true := by rw [bne_iff_ne]; omega
    go_enter Try.func17, Try.ntmps17
    go_wp2
    refine wp_loop_rounds 3 ?_
    rw [rounds_succ]
    go_wp2
    go_ret2
    exact ⟨rfl, .inl ⟨fun h => hz h.1, rfl⟩⟩

theorem drop_last1 (l : List UInt8) (m : Nat) (h : l.length = m + 1) : l.drop m = [l.getD m 0] := by
  rw [List.drop_eq_getElem_cons (by omega), List.drop_of_length_le (by omega)]
  simp [List.getD_eq_getElem?_getD, List.getElem?_eq_getElem (show m < l.length by omega)]
theorem drop_last2 (l : List UInt8) (m : Nat) (h : l.length = m + 2) : l.drop m = [l.getD m 0, l.getD (m + 1) 0] := by
  rw [List.drop_eq_getElem_cons (by omega), drop_last1 l (m + 1) (by omega)]
  simp [List.getD_eq_getElem?_getD, List.getElem?_eq_getElem (show m < l.length by omega)]
theorem byte_zero (c : UInt8) : (c == 0) = decide (c.toNat = 0) := by
  rw [Bool.eq_iff_iff]
  simp [← UInt8.toNat_inj]

theorem cutS_one (l : List UInt8) (m : Nat) (hm : l.length = m + 1) : cutS l 1 = if (l.getD m 0).toNat = 0 then some (l.take m) else none := by
  unfold cutS
  rw [hm, show m + 1 - 1 = m from rfl, drop_last1 l m hm]
  simp only [List.all_cons, List.all_nil, Bool.and_true, byte_zero, decide_eq_true_eq]
theorem cutS_two (l : List UInt8) (m : Nat) (hm : l.length = m + 2) : cutS l 2 = if (l.getD m 0).toNat = 0 ∧ (l.getD (m + 1) 0).toNat = 0 then some (l.take m) else none := by
  unfold cutS
  rw [hm, show m + 2 - 2 = m from rfl, drop_last2 l m hm]
  simp only [List.all_cons, List.all_nil, Bool.and_true, byte_zero, Bool.and_eq_true, decide_eq_true_eq]

/-- base.cut. -/
theorem cut_any (p : Option Addr) (n c : Nat) (l : List UInt8) (f : Nat) (en : n = l.length) (w : World) (hn : l.length ≤ 10000) (hcap : l.length ≤ c) (hp : p = none → n = 0 ∧ c = 0) (hf : f ≤ 2) (hfn : f ≤ l.length) (hr : BRow w p l) :
    Calls Try.prog 17 #[.slice p n c, .int .i64 (f : Int)] w fun e w' => w' = w ∧ ((cutS l f = none ∧ e = .returned (.tuple #[.slice none 0 0, .bool false])) ∨ (∃ b, cutS l f = some b ∧ b.length ≤ l.length ∧ BRow w p b ∧ e = .returned (.tuple #[.slice p b.length c, .bool true]))) := by
  have htake : ∀ m, BRow w p (l.take m) := by
    intro m hne
    obtain ⟨b, o, rfl, hc⟩ := hr (fun e => hne (by rw [e]; simp))
    refine ⟨b, o, rfl, fun i hi => ?_⟩
    rw [List.length_take] at hi
    rw [hc i (by omega)]
    simp [List.getD_eq_getElem?_getD, show i < m by omega]
  rcases (by omega : f = 0 ∨ f = 1 ∨ f = 2) with rfl | rfl | rfl
  · refine (cut_done p n c w (by omega) (by omega) hp).mono ?_
    rintro e w' ⟨rfl, rfl⟩
    have e1 : cutS l 0 = some l := by simp [cutS]
    exact ⟨rfl, .inr ⟨l, e1, Nat.le_refl _, hr, by rw [en]⟩⟩
  · obtain ⟨m, hm⟩ : ∃ m, l.length = m + 1 := ⟨l.length - 1, by omega⟩
    obtain ⟨b, o, rfl, hc⟩ := hr (fun e => by rw [e] at hm; simp at hm)
    have en' : n = m + 1 := by omega
    subst en'
    refine (cut1 b o m c _ w (by omega) (by omega) (hc m (by omega))).mono ?_
    rintro e w' ⟨rfl, h⟩
    have e1 : cutS l 1 = if (l.getD m 0).toNat = 0 then some (l.take m) else none := by
      unfold cutS
      rw [hm, show m + 1 - 1 = m from rfl, drop_last1 l m hm]
      simp only [List.all_cons, List.all_nil, Bool.and_true, byte_zero, decide_eq_true_eq]
    refine ⟨rfl, ?_⟩
    rcases h with ⟨hz, rfl⟩ | ⟨hz, rfl⟩
    · exact .inl ⟨by rw [e1, if_neg hz], rfl⟩
    · exact .inr ⟨l.take m, by rw [e1, if_pos hz], by simp; omega, htake m, by rw [List.length_take, Nat.min_eq_left (by omega)]⟩
  · obtain ⟨m, hm⟩ : ∃ m, l.length = m + 2 := ⟨l.length - 2, by omega⟩
    obtain ⟨b, o, rfl, hc⟩ := hr (fun e => by rw [e] at hm; simp at hm)
    have en' : n = m + 2 := by omega
    subst en'
    refine (cut2 b o m c _ _ w (by omega) (by omega) (hc m (by omega)) (hc (m + 1) (by omega))).mono ?_
    rintro e w' ⟨rfl, h⟩
    have e1 : cutS l 2 = if (l.getD m 0).toNat = 0 ∧ (l.getD (m + 1) 0).toNat = 0 then some (l.take m) else none := by
      unfold cutS
      rw [hm, show m + 2 - 2 = m from rfl, drop_last2 l m hm]
      simp only [List.all_cons, List.all_nil, Bool.and_true, byte_zero, Bool.and_eq_true, decide_eq_true_eq]
    refine ⟨rfl, ?_⟩
    rcases h with ⟨hz, rfl⟩ | ⟨hz, rfl⟩
    · exact .inl ⟨by rw [e1, if_neg hz], rfl⟩
    · exact .inr ⟨l.take m, by rw [e1, if_pos hz], by simp; omega, htake m, by rw [List.length_take, Nat.min_eq_left (by omega)]⟩
end Go.Proofs.Ytdeggdmmipkfeaa
