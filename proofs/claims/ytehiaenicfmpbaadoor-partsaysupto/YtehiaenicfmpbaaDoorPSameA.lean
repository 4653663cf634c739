/- bytes.Equal of rows; part.sameAlone: what the plain function says; nothing that was there is changed. Condition: the parts lie there. -/
import Derived.Test.YtehiaenicfmpbaaDoorPMem
import Derived.Test.YtehiaenicfmpbaaDoorShelf
namespace Go.Proofs.YtehiaenicfmpbaaDoor
open Go.RowKit

theorem bin_of {w : World} {p : Option Addr} {l : List UInt8} (h : BRow w p l) : Lib.BytesIn w p l.length (l.map fun c => ((c.toNat : Nat) : Int)) := by
  cases p with
  | none =>
    have h0 : l = [] := by
      cases hb : l with
      | nil => rfl
      | cons a t => obtain ⟨b, o, e, _⟩ := h (by rw [hb]; simp); cases e
    subst h0
    exact Lib.BytesIn.nil _ _ _
  | some a =>
    refine Lib.BytesIn.of_cells fun i hi => ?_
    obtain ⟨b, o, e, hc⟩ := h (fun h => by rw [h] at hi; simp at hi)
    obtain rfl := Option.some.inj e
    rw [Addr.add_lit, hc i hi]
    simp [List.getD_eq_getElem?_getD, List.getElem?_eq_getElem hi]
theorem bytes_same (l : List UInt8) : Lib.bytesOf (l.map fun c => ((c.toNat : Nat) : Int)) = l := by
  unfold Lib.bytesOf
  rw [List.map_map]
  have : ((fun n : Int => UInt8.ofNat n.toNat) ∘ fun c : UInt8 => ((c.toNat : Nat) : Int)) = id := by funext c; simp
  rw [this, List.map_id]
/-- bytes.Equal. -/
theorem beq_any (p1 p2 : Option Addr) (l1 l2 : List UInt8) (n m c d : Nat) (e1 : n = l1.length) (e2 : m = l2.length) (w : World) (h1 : BRow w p1 l1) (h2 : BRow w p2 l2) :
    Calls Tryd.prog 165 #[.slice p1 n c, .slice p2 m d] w fun e w' => e = .returned (.bool (decide (l1 = l2))) ∧ w' = w := by
  subst e1 e2
  refine (Tryd.bytes_Equal_all p1 p2 _ c _ d _ _ w (by simp) (by simp) (bin_of h1) (bin_of h2)).mono ?_
  rintro e w' ⟨rfl, rfl⟩
  refine ⟨ret_bool ?_, rfl⟩
  rw [bytes_same, bytes_same]
  by_cases h : l1 = l2 <;> simp [h]

def sameA (p q : PT) : Bool := decide (p.ty.data.toList = q.ty.data.toList) && decide (p.cs.data.toList = q.cs.data.toList) && decide (p.id.data.toList = q.id.data.toList) && decide (p.loc.data.toList = q.loc.data.toList) && decide (p.how = q.how) && decide (p.body = q.body)
theorem ba_ext {a b : ByteArray} (h : a.data.toList = b.data.toList) : a = b := ByteArray.ext (Array.toList_inj.1 h)
theorem sameA_iff (p q : PT) : sameA p q = true ↔ p.alone = q.alone := by
  unfold sameA
  simp only [Bool.and_eq_true, decide_eq_true_eq]
  constructor
  · rintro ⟨⟨⟨⟨⟨h1, h2⟩, h3⟩, h4⟩, h5⟩, h6⟩
    obtain ⟨a1, a2, a3, a4, a5, a6, a7⟩ := p
    obtain ⟨b1, b2, b3, b4, b5, b6, b7⟩ := q
    simp only at h1 h2 h3 h4 h5 h6
    rw [ba_ext h1, ba_ext h2, ba_ext h3, ba_ext h4, h5, h6]
    rfl
  · intro h
    obtain ⟨a1, a2, a3, a4, a5, a6, a7⟩ := p
    obtain ⟨b1, b2, b3, b4, b5, b6, b7⟩ := q
    simp only [PT.alone, PT.mk.injEq] at h
    obtain ⟨rfl, rfl, rfl, rfl, rfl, rfl, _⟩ := h
    simp
theorem str_beq (a b : ByteArray) : (a.toList == b.toList) = decide (a.data.toList = b.data.toList) := by
  rw [ByteArray.toList_eq, ByteArray.toList_eq, Bool.eq_iff_iff]; simp

set_option maxHeartbeats 8000000 in
set_option maxRecDepth 100000 in
/-- part.sameAlone. -/
theorem samea_any (b o b2 o2 : Nat) (p q : PT) (pb qb : Option Addr) (cb : Nat) (pk qk : Option Addr) (ck cb2 ck2 : Nat) (w : World) (hP : PCells w b o p pb cb pk ck) (hQ : PCells w b2 o2 q qb cb2 qk ck2) (hp : BRow w pb p.body) (hq : BRow w qb q.body) :
    Calls Tryd.prog 125 #[.pointer (some ⟨b, o, none⟩), .pointer (some ⟨b2, o2, none⟩)] w fun e w' => e = .returned (.bool (sameA p q)) ∧ ∃ k, w' = w.drewN k := by
  obtain ⟨c0, c1, c2, c3, c4, c5, c6⟩ := hP
  obtain ⟨d0, d1, d2, d3, d4, d5, d6⟩ := hQ
  have CB : Hid (∀ k, Calls Tryd.prog 165 #[.slice pb p.body.length cb, .slice qb q.body.length cb2] (w.drewN k) fun e w' => e = .returned (.bool (decide (p.body = q.body))) ∧ w' = w.drewN k) := fun k => beq_any pb qb _ _ _ _ cb cb2 rfl rfl _ (hp.under (below_drewN' (Below.refl _ _) k)) (hq.under (below_drewN' (Below.refl _ _) k))
  have e0 := str_beq p.ty q.ty
  have e1 := str_beq p.cs q.cs
  have e2 := str_beq p.id q.id
  have e3 := str_beq p.loc q.loc
  have HS : Hid (sameA p q = (decide (p.ty.data.toList = q.ty.data.toList) && decide (p.cs.data.toList = q.cs.data.toList) && decide (p.id.data.toList = q.id.data.toList) && decide (p.loc.data.toList = q.loc.data.toList) && decide (p.how = q.how) && decide (p.body = q.body))) := rfl
  clear hp hq c6 d6
  generalize decide (p.body = q.body) = B at *
  generalize p.body.length = nb at *
  generalize q.body.length = nq at *
  generalize decide (p.ty.data.toList = q.ty.data.toList) = T0 at *
  generalize decide (p.cs.data.toList = q.cs.data.toList) = T1 at *
  generalize decide (p.id.data.toList = q.id.data.toList) = T2 at *
  generalize decide (p.loc.data.toList = q.loc.data.toList) = T3 at *
  have e4 : (p.how == q.how) = decide (p.how = q.how) := by by_cases h : p.how = q.how <;> simp [h]
  generalize decide (p.how = q.how) = T4 at *
  generalize sameA p q = S at *
  go_enter Tryd.func125, Tryd.ntmps125
  cases T0
  · have HN : Hid (S = false) := HS.out
    clear HS
    go_wp2_with fail
    simp only [List.append_eq, List.cons_append, List.nil_append]
    go_quiet (fail)
    go_wp2_with fail
    go_ret
    exact ⟨by rw [HN.out]; rfl, _, rfl⟩
  cases T1
  · have HN : Hid (S = false) := HS.out
    clear HS
    go_wp2_with fail
    simp only [List.append_eq, List.cons_append, List.nil_append]
    go_quiet (fail)
    go_wp2_with fail
    go_ret
    exact ⟨by rw [HN.out]; rfl, _, rfl⟩
  cases T2
  · have HN : Hid (S = false) := HS.out
    clear HS
    go_wp2_with fail
    simp only [List.append_eq, List.cons_append, List.nil_append]
    go_quiet (fail)
    go_wp2_with fail
    go_ret
    exact ⟨by rw [HN.out]; rfl, _, rfl⟩
  cases T3
  · have HN : Hid (S = false) := HS.out
    clear HS
    go_wp2_with fail
    simp only [List.append_eq, List.cons_append, List.nil_append]
    go_quiet (fail)
    go_wp2_with fail
    go_ret
    exact ⟨by rw [HN.out]; rfl, _, rfl⟩
  cases T4
  · have HN : Hid (S = false) := HS.out
    clear HS
    go_wp2_with fail
    simp only [List.append_eq, List.cons_append, List.nil_append]
    go_quiet (fail)
    go_wp2_with fail
    go_ret
    exact ⟨by rw [HN.out]; rfl, _, rfl⟩
  have HN : Hid (S = B) := by unfold Hid; rw [HS.out]; rfl
  clear HS
  go_wp2_with fail
  simp only [List.append_eq, List.cons_append, List.nil_append]
  go_quiet (first | (go_at_call 165; exact Calls.quiet_of_same (CB.out _)) | fail)
  go_wp2_with fail
  go_ret
  exact ⟨by rw [HN.out]; rfl, _, rfl⟩
end Go.Proofs.YtehiaenicfmpbaaDoor
