/- part.Same of two parts without parts: what the plain function says; nothing that was there is changed. Condition: the parts lie there. -/
import Derived.Test.YtehiaenicfmpbaaDoorPSameA
import Derived.Test.YtehiaenicfmpbaaDoorPChecked
namespace Go.Proofs.YtehiaenicfmpbaaDoor
open Go.RowKit

theorem drew_twice (w : World) (a b : Nat) : (w.drewN a).drewN b = w.drewN (a + b) := by
  simp

set_option maxHeartbeats 4000000 in
set_option maxRecDepth 100000 in
/-- part.Same of parts without parts. -/
theorem same1_any (p q : PT) (pb qb : Option Addr) (cb : Nat) (pk qk : Option Addr) (ck cb2 ck2 F F2 : Nat) (w : World) (hH : PHeld w F p pb cb pk ck) (hH2 : PHeld w F2 q qb cb2 qk ck2) (hp : p.kids = []) (hq : q.kids = []) :
    Calls Tryd.prog 58 #[.agg #[.string p.ty, .string p.cs, .string p.id, .string p.loc, .int .i64 p.how, .slice pb p.body.length cb, .slice pk p.kids.length ck], .agg #[.string q.ty, .string q.cs, .string q.id, .string q.loc, .int .i64 q.how, .slice qb q.body.length cb2, .slice qk q.kids.length ck2]] w
      fun e w' => e = .returned (.bool (sameA p q)) ∧ Below w.heap.size w w' := by
  have hA := boxed hH 65 _ rfl
  have hb1 : Below w.heap.size w (w.alloc (.cells #[Value.string p.ty, .string p.cs, .string p.id, .string p.loc, .int .i64 p.how, .slice pb p.body.length cb, .slice pk p.kids.length ck] 65)) := (Below.refl _ _).alloc (Nat.le_refl _) _
  have hB := boxed (hH2.below hb1) 65 _ rfl
  have hA2 := hA.below ((Below.refl _ _).alloc (Nat.le_refl _) (.cells #[Value.string q.ty, .string q.cs, .string q.id, .string q.loc, .int .i64 q.how, .slice qb q.body.length cb2, .slice qk q.kids.length ck2] 65))
  have hb2 := hb1.alloc hb1.size (.cells #[Value.string q.ty, .string q.cs, .string q.id, .string q.loc, .int .i64 q.how, .slice qb q.body.length cb2, .slice qk q.kids.length ck2] 65)
  rw [World.size_alloc] at hB
  obtain ⟨w2, hw2⟩ : ∃ w2, (w.alloc (.cells #[Value.string p.ty, .string p.cs, .string p.id, .string p.loc, .int .i64 p.how, .slice pb p.body.length cb, .slice pk p.kids.length ck] 65)).alloc (.cells #[Value.string q.ty, .string q.cs, .string q.id, .string q.loc, .int .i64 q.how, .slice qb q.body.length cb2, .slice qk q.kids.length ck2] 65) = w2 := ⟨_, rfl⟩
  rw [hw2] at hA2 hB hb2
  have hsz2 : w2.heap.size = w.heap.size + 2 := by rw [← hw2]; simp
  have hb3 := hb2.alloc hb2.size (.cells #[Value.pointer (some ⟨w.heap.size, 0, none⟩), .pointer (some ⟨w.heap.size + 1, 0, none⟩)] 148)
  obtain ⟨w3, hw3⟩ : ∃ w3, w2.alloc (.cells #[Value.pointer (some ⟨w.heap.size, 0, none⟩), .pointer (some ⟨w.heap.size + 1, 0, none⟩)] 148) = w3 := ⟨_, rfl⟩
  have hb23 : Below w2.heap.size w2 w3 := by rw [← hw3]; exact (Below.refl _ _).alloc (Nat.le_refl _) _
  have k0 : w3.cell? ⟨w2.heap.size, 0, none⟩ = some (.pointer (some ⟨w.heap.size, 0, none⟩)) := by rw [← hw3]; simp
  have k1 : w3.cell? ⟨w2.heap.size, 1, none⟩ = some (.pointer (some ⟨w.heap.size + 1, 0, none⟩)) := by rw [← hw3]; simp
  rw [hw3] at hb3
  rw [hsz2] at k0 k1
  have hA3 := hA2.below hb23
  have hB3 := hB.below hb23
  obtain ⟨a1, a2, a3, a4, hCa, hHa⟩ := hA3
  obtain ⟨b1, b2, b3, b4, hCb, hHb⟩ := hB3
  have CS : Hid (∀ a n, Calls Tryd.prog 125 #[.pointer (some ⟨w.heap.size, 0, none⟩), .pointer (some ⟨w.heap.size + 1, 0, none⟩)] ((w3.drewN a).drewN n) fun e w' => e = .returned (.bool (sameA p q)) ∧ ∃ m, w' = (w3.drewN a).drewN m) := fun a n => by
    have hbn : Below w3.heap.size w3 ((w3.drewN a).drewN n) := below_drewN' (below_drewN' (Below.refl _ _) a) n
    refine (samea_any w.heap.size 0 (w.heap.size + 1) 0 p q a1 b1 a2 a3 b3 a4 b2 b4 ((w3.drewN a).drewN n) (hCa.below hbn) (hCb.below hbn) (hHa.2.2.1.under hbn) (hHb.2.2.1.under hbn)).mono ?_
    rintro e w' ⟨rfl, k, rfl⟩
    exact ⟨rfl, _, drew_twice _ _ _⟩
  have c6 : w3.cell? ⟨w.heap.size, 6, none⟩ = some (.slice a3 0 a4) := by have := hCa.2.2.2.2.2.2; rw [hp] at this; simpa using this
  have d6 : w3.cell? ⟨w.heap.size + 1, 6, none⟩ = some (.slice b3 0 b4) := by have := hCb.2.2.2.2.2.2; rw [hq] at this; simpa using this
  clear hCa hCb hHa hHb hA hB hA2 hH hH2
  have hw3' : (w2.alloc (.cells #[Value.pointer (some ⟨w.heap.size, 0, none⟩), .pointer (some ⟨w.heap.size + 1, 0, none⟩)] 148)) = w3 := hw3
  generalize sameA p q = S at *
  generalize p.kids.length = nk at *
  generalize q.kids.length = nk2 at *
  generalize p.body.length = nb at *
  generalize q.body.length = nb2 at *
  clear hp hq
  go_enter Tryd.func58, Tryd.ntmps58
  go_wp2_with fail
  refine wp_loop_rounds 2 ?_
  rw [rounds_succ]
  go_wp2_with fail
  go_quiet (fail)
  go_wp2_with fail
  have CS2 : Hid (∀ n, Calls Tryd.prog 125 #[.pointer (some ⟨w.heap.size, 0, none⟩), .pointer (some ⟨w.heap.size + 1, 0, none⟩)] ((w3.drewN nq).drewN n) fun e w' => e = .returned (.bool S) ∧ ∃ m, w' = (w3.drewN nq).drewN m) := fun n => by
    refine (CS.out nq n).mono ?_
    rintro e w' ⟨rfl, k, rfl⟩
    exact ⟨rfl, k, rfl⟩
  have hb4 : Below w.heap.size w (w3.drewN nq) := below_drewN' hb3 nq
  have c64 : (w3.drewN nq).cell? ⟨w.heap.size, 6, none⟩ = some (.slice a3 0 a4) := c6
  have d64 : (w3.drewN nq).cell? ⟨w.heap.size + 1, 6, none⟩ = some (.slice b3 0 b4) := d6
  clear CS k0 k1 c6 d6 hb3 hb23 hw3 hw3'
  generalize w3.drewN nq = w4 at *
  cases S
  · go_quiet (first | (go_at_call 125; exact CS2.out _) | fail)
    go_wp2_with fail
    go_ret
    exact ⟨rfl, below_drewN' hb4 _⟩
  · go_quiet (first | (go_at_call 125; exact CS2.out _) | fail)
    go_wp2_with fail
    refine wp_loop_rounds 1 ?_
    rw [rounds_succ]
    go_wp2_with fail
    rw [rounds_succ]
    go_wp2_with fail
    go_ret
    exact ⟨rfl, below_drewN' hb4 _⟩
end Go.Proofs.YtehiaenicfmpbaaDoor
