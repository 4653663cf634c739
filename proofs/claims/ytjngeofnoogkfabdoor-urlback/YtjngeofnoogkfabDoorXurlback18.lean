/- The law URLPaths answers true at all addresses and every text; nothing that was there is changed. Conditions: the texts are no longer than a text can be; internal/bytealg.MaxLen holds a number. -/
import Derived.Test.YtjngeofnoogkfabDoorXurlback17
namespace Go.Proofs.YtjngeofnoogkfabDoor
open Go.RowKit

theorem Two.alloc {w W : World} {t : TypeId} {a b : Array Value} (h : Two w t a b W) (o : Obj) : Two w t a b (W.alloc o) := h.below ((Below.refl _ _).alloc (Nat.le_refl _) _)
theorem alloc_self (W : World) (o : Obj) : (W.alloc o).heap[W.heap.size]? = some o := by
  show (W.heap.push _)[W.heap.size]? = _
  simp

set_option maxHeartbeats 4000000 in
set_option maxRecDepth 100000 in
theorem paths_a (bs bh bp bq bf us uh up uq uf xs xh xp xq xf ys yh yp yq yf path PP : ByteArray) (bhh bhq bhf uhh uhq uhf xhh xhq xhf yhh yhq yhf : Bool) (ne nf : Nat) (hne : ne ≠ 0) (hp : path.size ≤ 140737488351232) (hPP : ⟨#[47]⟩ ++ path = PP) (w : World)
    (CL : Hid (∀ W, Below w.heap.size w W → Calls Tryd.prog 9 #[.agg #[.string bs, .bool bhh, .string bh, .string bp, .bool bhq, .string bq, .bool bhf, .string bf], .agg #[.string us, .bool uhh, .string uh, .string up, .bool uhq, .string uq, .bool uhf, .string uf]] W fun e w' => e = .returned (.tuple #[.agg #[.string xs, .bool xhh, .string xh, .string xp, .bool xhq, .string xq, .bool xhf, .string xf], .int .i64 (ne : Int)]) ∧ Below W.heap.size W w'))
    (CM : Hid (∀ W, Below w.heap.size w W → Calls Tryd.prog 9 #[.agg #[.string bs, .bool bhh, .string bh, .string PP, .bool false, .string ⟨#[]⟩, .bool bhf, .string bf], .agg #[.string us, .bool uhh, .string uh, .string up, .bool uhq, .string uq, .bool uhf, .string uf]] W fun e w' => e = .returned (.tuple #[.agg #[.string ys, .bool yhh, .string yh, .string yp, .bool yhq, .string yq, .bool yhf, .string yf], .int .i64 (nf : Int)]) ∧ Below W.heap.size W w'))
    (CA : Hid (∀ W, Below w.heap.size w W → Calls Tryd.prog 13 #[] W fun e w' => e = .returned (.bool true) ∧ Below W.heap.size W w')) :
    Calls Tryd.prog 6 #[.agg #[.string bs, .bool bhh, .string bh, .string bp, .bool bhq, .string bq, .bool bhf, .string bf], .agg #[.string us, .bool uhh, .string uh, .string up, .bool uhq, .string uq, .bool uhf, .string uf], .string path] w fun e w' => e = .returned (.bool true) ∧ Below w.heap.size w w' := by
  go_enter Tryd.func6, Tryd.ntmps6
  go_wp2_with fail
  have P0 := two_new w 23 #[.string bs, .bool bhh, .string bh, .string bp, .bool bhq, .string bq, .bool bhf, .string bf] #[.string us, .bool uhh, .string uh, .string up, .bool uhq, .string uq, .bool uhf, .string uf]
  refine (CL.out _ P0.1).mono ?_
  rintro e w1 ⟨rfl, hb1⟩
  clear CL
  have P1 := P0.below hb1
  clear P0 hb1
  obtain ⟨a0, a1, a2, a3, a4, a5, a6, a7, af⟩ := P1.cells'
  obtain ⟨c0, c1, c2, c3, c4, c5, c6, c7, cf⟩ := P1.cells
  have hl1 := P1.lt
  have m1 : w.heap.size < w1.heap.size := by omega
  have m3 : w.heap.size < w1.heap.size + 1 := by omega
  have m4 : w.heap.size + 1 < w1.heap.size + 1 := by omega
  have n1 : ¬ w.heap.size = w1.heap.size := by omega
  have n2 : ¬ w.heap.size + 1 = w1.heap.size := by omega
  have n3 : ¬ w.heap.size = w1.heap.size + 1 := by omega
  have n4 : ¬ w.heap.size + 1 = w1.heap.size + 1 := by omega
  have hcat : ¬ 9223372036854775807 < 1 + path.size := by omega
  go_wp2_with fail
  have P2 := (P1.alloc (.cells #[.string xs, .bool xhh, .string xh, .string xp, .bool xhq, .string xq, .bool xhf, .string xf] 23)).alloc (.cells #[.string bs, .bool bhh, .string bh, .string PP, .bool false, .string ⟨#[]⟩, .bool bhf, .string bf] 23)
  have HX0 : ((w1.alloc (.cells #[.string xs, .bool xhh, .string xh, .string xp, .bool xhq, .string xq, .bool xhf, .string xf] 23)).alloc (.cells #[.string bs, .bool bhh, .string bh, .string PP, .bool false, .string ⟨#[]⟩, .bool bhf, .string bf] 23)).heap[w1.heap.size]? = some (.cells #[.string xs, .bool xhh, .string xh, .string xp, .bool xhq, .string xq, .bool xhf, .string xf] 23) := kept_alloc (alloc_self _ _)
  refine (CM.out _ P2.1).mono ?_
  rintro e w2 ⟨rfl, hb2⟩
  have P3 := P2.below hb2
  have HX := kept_on HX0 hb2
  clear CM hb2 P2 HX0 P1 a0 a1 a2 a3 a4 a5 a6 a7 af c0 c1 c2 c3 c4 c5 c6 c7 cf hl1 m1 m3 m4 n1 n2 n3 n4 hcat
  go_wp2_with fail
  refine (CA.out _ (P3.alloc _).1).mono ?_
  rintro e w3 ⟨rfl, hb3⟩
  have P4 := (P3.alloc (.cells #[.string ys, .bool yhh, .string yh, .string yp, .bool yhq, .string yq, .bool yhf, .string yf] 23)).below hb3
  have HX3 := kept_on (kept_alloc HX) hb3
  have HY3 := kept8 hb3
  clear hb3 P3 HX
  have hn0 : ((ne : Int) == 0) = false := by rw [beq_eq_false_iff_ne]; omega
  go_wp2_with fail
  refine (CA.out _ P4.1).mono ?_
  rintro e w5 ⟨rfl, hb5⟩
  have P5 := P4.below hb5
  go_wp2
  go_ret
  exact ⟨rfl, P5.1⟩

set_option maxHeartbeats 4000000 in
set_option maxRecDepth 100000 in
theorem paths_b (bs bh bp bq bf us uh up uq uf xs xh xp xq xf ys yh yp yq yf path PP : ByteArray) (bhh bhq bhf uhh uhq uhf xhh xhq xhf yhh yhq yhf : Bool) (ne nf : Nat) (hne : ne = 0) (hnf : nf ≠ 0) (hp : path.size ≤ 140737488351232) (hPP : ⟨#[47]⟩ ++ path = PP) (w : World)
    (CL : Hid (∀ W, Below w.heap.size w W → Calls Tryd.prog 9 #[.agg #[.string bs, .bool bhh, .string bh, .string bp, .bool bhq, .string bq, .bool bhf, .string bf], .agg #[.string us, .bool uhh, .string uh, .string up, .bool uhq, .string uq, .bool uhf, .string uf]] W fun e w' => e = .returned (.tuple #[.agg #[.string xs, .bool xhh, .string xh, .string xp, .bool xhq, .string xq, .bool xhf, .string xf], .int .i64 (ne : Int)]) ∧ Below W.heap.size W w'))
    (CM : Hid (∀ W, Below w.heap.size w W → Calls Tryd.prog 9 #[.agg #[.string bs, .bool bhh, .string bh, .string PP, .bool false, .string ⟨#[]⟩, .bool bhf, .string bf], .agg #[.string us, .bool uhh, .string uh, .string up, .bool uhq, .string uq, .bool uhf, .string uf]] W fun e w' => e = .returned (.tuple #[.agg #[.string ys, .bool yhh, .string yh, .string yp, .bool yhq, .string yq, .bool yhf, .string yf], .int .i64 (nf : Int)]) ∧ Below W.heap.size W w'))
    (CA : Hid (∀ W, Below w.heap.size w W → Calls Tryd.prog 13 #[] W fun e w' => e = .returned (.bool true) ∧ Below W.heap.size W w')) :
    Calls Tryd.prog 6 #[.agg #[.string bs, .bool bhh, .string bh, .string bp, .bool bhq, .string bq, .bool bhf, .string bf], .agg #[.string us, .bool uhh, .string uh, .string up, .bool uhq, .string uq, .bool uhf, .string uf], .string path] w fun e w' => e = .returned (.bool true) ∧ Below w.heap.size w w' := by
  go_enter Tryd.func6, Tryd.ntmps6
  go_wp2_with fail
  have P0 := two_new w 23 #[.string bs, .bool bhh, .string bh, .string bp, .bool bhq, .string bq, .bool bhf, .string bf] #[.string us, .bool uhh, .string uh, .string up, .bool uhq, .string uq, .bool uhf, .string uf]
  refine (CL.out _ P0.1).mono ?_
  rintro e w1 ⟨rfl, hb1⟩
  clear CL
  have P1 := P0.below hb1
  clear P0 hb1
  obtain ⟨a0, a1, a2, a3, a4, a5, a6, a7, af⟩ := P1.cells'
  obtain ⟨c0, c1, c2, c3, c4, c5, c6, c7, cf⟩ := P1.cells
  have hl1 := P1.lt
  have m1 : w.heap.size < w1.heap.size := by omega
  have m3 : w.heap.size < w1.heap.size + 1 := by omega
  have m4 : w.heap.size + 1 < w1.heap.size + 1 := by omega
  have n1 : ¬ w.heap.size = w1.heap.size := by omega
  have n2 : ¬ w.heap.size + 1 = w1.heap.size := by omega
  have n3 : ¬ w.heap.size = w1.heap.size + 1 := by omega
  have n4 : ¬ w.heap.size + 1 = w1.heap.size + 1 := by omega
  have hcat : ¬ 9223372036854775807 < 1 + path.size := by omega
  go_wp2_with fail
  have P2 := (P1.alloc (.cells #[.string xs, .bool xhh, .string xh, .string xp, .bool xhq, .string xq, .bool xhf, .string xf] 23)).alloc (.cells #[.string bs, .bool bhh, .string bh, .string PP, .bool false, .string ⟨#[]⟩, .bool bhf, .string bf] 23)
  have HX0 : ((w1.alloc (.cells #[.string xs, .bool xhh, .string xh, .string xp, .bool xhq, .string xq, .bool xhf, .string xf] 23)).alloc (.cells #[.string bs, .bool bhh, .string bh, .string PP, .bool false, .string ⟨#[]⟩, .bool bhf, .string bf] 23)).heap[w1.heap.size]? = some (.cells #[.string xs, .bool xhh, .string xh, .string xp, .bool xhq, .string xq, .bool xhf, .string xf] 23) := kept_alloc (alloc_self _ _)
  refine (CM.out _ P2.1).mono ?_
  rintro e w2 ⟨rfl, hb2⟩
  have P3 := P2.below hb2
  have HX := kept_on HX0 hb2
  clear CM hb2 P2 HX0 P1 a0 a1 a2 a3 a4 a5 a6 a7 af c0 c1 c2 c3 c4 c5 c6 c7 cf hl1 m1 m3 m4 n1 n2 n3 n4 hcat
  go_wp2_with fail
  refine (CA.out _ (P3.alloc _).1).mono ?_
  rintro e w3 ⟨rfl, hb3⟩
  have P4 := (P3.alloc (.cells #[.string ys, .bool yhh, .string yh, .string yp, .bool yhq, .string yq, .bool yhf, .string yf] 23)).below hb3
  have HX3 := kept_on (kept_alloc HX) hb3
  have HY3 := kept8 hb3
  clear hb3 P3 HX
  subst hne
  have hn0 : ((nf : Int) == 0) = false := by rw [beq_eq_false_iff_ne]; omega
  go_wp2_with fail
  refine (CA.out _ P4.1).mono ?_
  rintro e w5 ⟨rfl, hb5⟩
  have P5 := P4.below hb5
  go_wp2
  go_ret
  exact ⟨rfl, P5.1⟩

set_option maxHeartbeats 4000000 in
set_option maxRecDepth 100000 in
theorem paths_c (bs bh bp bq bf uh up uq uf xs xh xp xq xf ys yh yp yq yf path PP : ByteArray) (bhh bhq bhf uhq uhf xhh xhq xhf yhh yhq yhf : Bool) (ne nf : Nat) (hne : ne = 0) (hnf : nf = 0) (hp : path.size ≤ 140737488351232) (hPP : ⟨#[47]⟩ ++ path = PP) (w : World)
    (CL : Hid (∀ W, Below w.heap.size w W → Calls Tryd.prog 9 #[.agg #[.string bs, .bool bhh, .string bh, .string bp, .bool bhq, .string bq, .bool bhf, .string bf], .agg #[.string ⟨#[]⟩, .bool false, .string uh, .string up, .bool uhq, .string uq, .bool uhf, .string uf]] W fun e w' => e = .returned (.tuple #[.agg #[.string xs, .bool xhh, .string xh, .string xp, .bool xhq, .string xq, .bool xhf, .string xf], .int .i64 (ne : Int)]) ∧ Below W.heap.size W w'))
    (CM : Hid (∀ W, Below w.heap.size w W → Calls Tryd.prog 9 #[.agg #[.string bs, .bool bhh, .string bh, .string PP, .bool false, .string ⟨#[]⟩, .bool bhf, .string bf], .agg #[.string ⟨#[]⟩, .bool false, .string uh, .string up, .bool uhq, .string uq, .bool uhf, .string uf]] W fun e w' => e = .returned (.tuple #[.agg #[.string ys, .bool yhh, .string yh, .string yp, .bool yhq, .string yq, .bool yhf, .string yf], .int .i64 (nf : Int)]) ∧ Below W.heap.size W w'))
    (CA : Hid (∀ W, Below w.heap.size w W → Calls Tryd.prog 13 #[] W fun e w' => e = .returned (.bool true) ∧ Below W.heap.size W w'))
    (CP : Hid (∀ W, Calls Tryd.prog 19 #[.string up, .string ⟨#[47]⟩] W fun e w' => e = .returned (.bool false) ∧ w' = W)) :
    Calls Tryd.prog 6 #[.agg #[.string bs, .bool bhh, .string bh, .string bp, .bool bhq, .string bq, .bool bhf, .string bf], .agg #[.string ⟨#[]⟩, .bool false, .string uh, .string up, .bool uhq, .string uq, .bool uhf, .string uf], .string path] w fun e w' => e = .returned (.bool true) ∧ Below w.heap.size w w' := by
  go_enter Tryd.func6, Tryd.ntmps6
  go_wp2_with fail
  have P0 := two_new w 23 #[.string bs, .bool bhh, .string bh, .string bp, .bool bhq, .string bq, .bool bhf, .string bf] #[.string ⟨#[]⟩, .bool false, .string uh, .string up, .bool uhq, .string uq, .bool uhf, .string uf]
  refine (CL.out _ P0.1).mono ?_
  rintro e w1 ⟨rfl, hb1⟩
  clear CL
  have P1 := P0.below hb1
  clear P0 hb1
  obtain ⟨a0, a1, a2, a3, a4, a5, a6, a7, af⟩ := P1.cells'
  obtain ⟨c0, c1, c2, c3, c4, c5, c6, c7, cf⟩ := P1.cells
  have hl1 := P1.lt
  have m1 : w.heap.size < w1.heap.size := by omega
  have m3 : w.heap.size < w1.heap.size + 1 := by omega
  have m4 : w.heap.size + 1 < w1.heap.size + 1 := by omega
  have n1 : ¬ w.heap.size = w1.heap.size := by omega
  have n2 : ¬ w.heap.size + 1 = w1.heap.size := by omega
  have n3 : ¬ w.heap.size = w1.heap.size + 1 := by omega
  have n4 : ¬ w.heap.size + 1 = w1.heap.size + 1 := by omega
  have hcat : ¬ 9223372036854775807 < 1 + path.size := by omega
  go_wp2_with fail
  have P2 := (P1.alloc (.cells #[.string xs, .bool xhh, .string xh, .string xp, .bool xhq, .string xq, .bool xhf, .string xf] 23)).alloc (.cells #[.string bs, .bool bhh, .string bh, .string PP, .bool false, .string ⟨#[]⟩, .bool bhf, .string bf] 23)
  have HX0 : ((w1.alloc (.cells #[.string xs, .bool xhh, .string xh, .string xp, .bool xhq, .string xq, .bool xhf, .string xf] 23)).alloc (.cells #[.string bs, .bool bhh, .string bh, .string PP, .bool false, .string ⟨#[]⟩, .bool bhf, .string bf] 23)).heap[w1.heap.size]? = some (.cells #[.string xs, .bool xhh, .string xh, .string xp, .bool xhq, .string xq, .bool xhf, .string xf] 23) := kept_alloc (alloc_self _ _)
  refine (CM.out _ P2.1).mono ?_
  rintro e w2 ⟨rfl, hb2⟩
  have P3 := P2.below hb2
  have HX := kept_on HX0 hb2
  clear CM hb2 P2 HX0 P1 a0 a1 a2 a3 a4 a5 a6 a7 af c0 c1 c2 c3 c4 c5 c6 c7 cf hl1 m1 m3 m4 n1 n2 n3 n4 hcat
  go_wp2_with fail
  refine (CA.out _ (P3.alloc _).1).mono ?_
  rintro e w3 ⟨rfl, hb3⟩
  have P4 := (P3.alloc (.cells #[.string ys, .bool yhh, .string yh, .string yp, .bool yhq, .string yq, .bool yhf, .string yf] 23)).below hb3
  have HX3 := kept_on (kept_alloc HX) hb3
  have HY3 := kept8 hb3
  clear hb3 P3 HX
  subst hne hnf
  obtain ⟨c0, c1, c2, c3, c4, c5, c6, c7, cf⟩ := P4.cells
  go_wp2_with fail
  refine (CP.out _).mono ?_
  rintro e w' ⟨rfl, hw'⟩
  have hw'' := hw'.symm
  subst hw''
  go_wp2_with fail
  refine (CA.out _ P4.1).mono ?_
  rintro e w5 ⟨rfl, hb5⟩
  have P5 := P4.below hb5
  go_wp2
  go_ret
  exact ⟨rfl, P5.1⟩

set_option maxHeartbeats 4000000 in
set_option maxRecDepth 100000 in
theorem paths_d (bs bh bp bq bf us uh up uq uf xs xh xp xq xf path PP : ByteArray) (bhh bhq bhf uhq uhf xhh xhq xhf : Bool) (ne nf : Nat) (hne : ne = 0) (hnf : nf = 0) (hp : path.size ≤ 140737488351232) (hPP : ⟨#[47]⟩ ++ path = PP) (w : World)
    (CL : Hid (∀ W, Below w.heap.size w W → Calls Tryd.prog 9 #[.agg #[.string bs, .bool bhh, .string bh, .string bp, .bool bhq, .string bq, .bool bhf, .string bf], .agg #[.string us, .bool true, .string uh, .string up, .bool uhq, .string uq, .bool uhf, .string uf]] W fun e w' => e = .returned (.tuple #[.agg #[.string xs, .bool xhh, .string xh, .string xp, .bool xhq, .string xq, .bool xhf, .string xf], .int .i64 (ne : Int)]) ∧ Below W.heap.size W w'))
    (CM : Hid (∀ W, Below w.heap.size w W → Calls Tryd.prog 9 #[.agg #[.string bs, .bool bhh, .string bh, .string PP, .bool false, .string ⟨#[]⟩, .bool bhf, .string bf], .agg #[.string us, .bool true, .string uh, .string up, .bool uhq, .string uq, .bool uhf, .string uf]] W fun e w' => e = .returned (.tuple #[.agg #[.string xs, .bool xhh, .string xh, .string xp, .bool xhq, .string xq, .bool xhf, .string xf], .int .i64 (nf : Int)]) ∧ Below W.heap.size W w'))
    (CA : Hid (∀ W, Below w.heap.size w W → Calls Tryd.prog 13 #[] W fun e w' => e = .returned (.bool true) ∧ Below W.heap.size W w')) :
    Calls Tryd.prog 6 #[.agg #[.string bs, .bool bhh, .string bh, .string bp, .bool bhq, .string bq, .bool bhf, .string bf], .agg #[.string us, .bool true, .string uh, .string up, .bool uhq, .string uq, .bool uhf, .string uf], .string path] w fun e w' => e = .returned (.bool true) ∧ Below w.heap.size w w' := by
  go_enter Tryd.func6, Tryd.ntmps6
  go_wp2_with fail
  have P0 := two_new w 23 #[.string bs, .bool bhh, .string bh, .string bp, .bool bhq, .string bq, .bool bhf, .string bf] #[.string us, .bool true, .string uh, .string up, .bool uhq, .string uq, .bool uhf, .string uf]
  refine (CL.out _ P0.1).mono ?_
  rintro e w1 ⟨rfl, hb1⟩
  clear CL
  have P1 := P0.below hb1
  clear P0 hb1
  obtain ⟨a0, a1, a2, a3, a4, a5, a6, a7, af⟩ := P1.cells'
  obtain ⟨c0, c1, c2, c3, c4, c5, c6, c7, cf⟩ := P1.cells
  have hl1 := P1.lt
  have m1 : w.heap.size < w1.heap.size := by omega
  have m3 : w.heap.size < w1.heap.size + 1 := by omega
  have m4 : w.heap.size + 1 < w1.heap.size + 1 := by omega
  have n1 : ¬ w.heap.size = w1.heap.size := by omega
  have n2 : ¬ w.heap.size + 1 = w1.heap.size := by omega
  have n3 : ¬ w.heap.size = w1.heap.size + 1 := by omega
  have n4 : ¬ w.heap.size + 1 = w1.heap.size + 1 := by omega
  have hcat : ¬ 9223372036854775807 < 1 + path.size := by omega
  go_wp2_with fail
  have P2 := (P1.alloc (.cells #[.string xs, .bool xhh, .string xh, .string xp, .bool xhq, .string xq, .bool xhf, .string xf] 23)).alloc (.cells #[.string bs, .bool bhh, .string bh, .string PP, .bool false, .string ⟨#[]⟩, .bool bhf, .string bf] 23)
  have HX0 : ((w1.alloc (.cells #[.string xs, .bool xhh, .string xh, .string xp, .bool xhq, .string xq, .bool xhf, .string xf] 23)).alloc (.cells #[.string bs, .bool bhh, .string bh, .string PP, .bool false, .string ⟨#[]⟩, .bool bhf, .string bf] 23)).heap[w1.heap.size]? = some (.cells #[.string xs, .bool xhh, .string xh, .string xp, .bool xhq, .string xq, .bool xhf, .string xf] 23) := kept_alloc (alloc_self _ _)
  refine (CM.out _ P2.1).mono ?_
  rintro e w2 ⟨rfl, hb2⟩
  have P3 := P2.below hb2
  have HX := kept_on HX0 hb2
  clear CM hb2 P2 HX0 P1 a0 a1 a2 a3 a4 a5 a6 a7 af c0 c1 c2 c3 c4 c5 c6 c7 cf hl1 m1 m3 m4 n1 n2 n3 n4 hcat
  go_wp2_with fail
  refine (CA.out _ (P3.alloc _).1).mono ?_
  rintro e w3 ⟨rfl, hb3⟩
  have P4 := (P3.alloc (.cells #[.string xs, .bool xhh, .string xh, .string xp, .bool xhq, .string xq, .bool xhf, .string xf] 23)).below hb3
  have HX3 := kept_on (kept_alloc HX) hb3
  have HY3 := kept8 hb3
  clear hb3 P3 HX
  subst hne hnf
  obtain ⟨c0, c1, c2, c3, c4, c5, c6, c7, cf⟩ := P4.cells
  obtain ⟨x0, x1, x2, x3, x4, x5, x6, x7, x8⟩ := cells_8 HX3
  obtain ⟨y0, y1, y2, y3, y4, y5, y6, y7, y8⟩ := cells_8 HY3
  go_wp2
  go_ret
  exact ⟨by simp, P4.1⟩

set_option maxHeartbeats 4000000 in
set_option maxRecDepth 100000 in
theorem paths_e (bs bh bp bq bf us uh up uq uf xs xh xp xq xf path PP : ByteArray) (bhh bhq bhf uhq uhf xhh xhq xhf : Bool) (ne nf : Nat) (hne : ne = 0) (hnf : nf = 0) (hp : path.size ≤ 140737488351232) (hPP : ⟨#[47]⟩ ++ path = PP) (w : World)
    (CL : Hid (∀ W, Below w.heap.size w W → Calls Tryd.prog 9 #[.agg #[.string bs, .bool bhh, .string bh, .string bp, .bool bhq, .string bq, .bool bhf, .string bf], .agg #[.string us, .bool false, .string uh, .string up, .bool uhq, .string uq, .bool uhf, .string uf]] W fun e w' => e = .returned (.tuple #[.agg #[.string xs, .bool xhh, .string xh, .string xp, .bool xhq, .string xq, .bool xhf, .string xf], .int .i64 (ne : Int)]) ∧ Below W.heap.size W w'))
    (CM : Hid (∀ W, Below w.heap.size w W → Calls Tryd.prog 9 #[.agg #[.string bs, .bool bhh, .string bh, .string PP, .bool false, .string ⟨#[]⟩, .bool bhf, .string bf], .agg #[.string us, .bool false, .string uh, .string up, .bool uhq, .string uq, .bool uhf, .string uf]] W fun e w' => e = .returned (.tuple #[.agg #[.string xs, .bool xhh, .string xh, .string xp, .bool xhq, .string xq, .bool xhf, .string xf], .int .i64 (nf : Int)]) ∧ Below W.heap.size W w'))
    (CA : Hid (∀ W, Below w.heap.size w W → Calls Tryd.prog 13 #[] W fun e w' => e = .returned (.bool true) ∧ Below W.heap.size W w'))
    (CP : Hid (∀ W, Calls Tryd.prog 19 #[.string up, .string ⟨#[47]⟩] W fun e w' => e = .returned (.bool true) ∧ w' = W)) :
    Calls Tryd.prog 6 #[.agg #[.string bs, .bool bhh, .string bh, .string bp, .bool bhq, .string bq, .bool bhf, .string bf], .agg #[.string us, .bool false, .string uh, .string up, .bool uhq, .string uq, .bool uhf, .string uf], .string path] w fun e w' => e = .returned (.bool true) ∧ Below w.heap.size w w' := by
  go_enter Tryd.func6, Tryd.ntmps6
  go_wp2_with fail
  have P0 := two_new w 23 #[.string bs, .bool bhh, .string bh, .string bp, .bool bhq, .string bq, .bool bhf, .string bf] #[.string us, .bool false, .string uh, .string up, .bool uhq, .string uq, .bool uhf, .string uf]
  refine (CL.out _ P0.1).mono ?_
  rintro e w1 ⟨rfl, hb1⟩
  clear CL
  have P1 := P0.below hb1
  clear P0 hb1
  obtain ⟨a0, a1, a2, a3, a4, a5, a6, a7, af⟩ := P1.cells'
  obtain ⟨c0, c1, c2, c3, c4, c5, c6, c7, cf⟩ := P1.cells
  have hl1 := P1.lt
  have m1 : w.heap.size < w1.heap.size := by omega
  have m3 : w.heap.size < w1.heap.size + 1 := by omega
  have m4 : w.heap.size + 1 < w1.heap.size + 1 := by omega
  have n1 : ¬ w.heap.size = w1.heap.size := by omega
  have n2 : ¬ w.heap.size + 1 = w1.heap.size := by omega
  have n3 : ¬ w.heap.size = w1.heap.size + 1 := by omega
  have n4 : ¬ w.heap.size + 1 = w1.heap.size + 1 := by omega
  have hcat : ¬ 9223372036854775807 < 1 + path.size := by omega
  go_wp2_with fail
  have P2 := (P1.alloc (.cells #[.string xs, .bool xhh, .string xh, .string xp, .bool xhq, .string xq, .bool xhf, .string xf] 23)).alloc (.cells #[.string bs, .bool bhh, .string bh, .string PP, .bool false, .string ⟨#[]⟩, .bool bhf, .string bf] 23)
  have HX0 : ((w1.alloc (.cells #[.string xs, .bool xhh, .string xh, .string xp, .bool xhq, .string xq, .bool xhf, .string xf] 23)).alloc (.cells #[.string bs, .bool bhh, .string bh, .string PP, .bool false, .string ⟨#[]⟩, .bool bhf, .string bf] 23)).heap[w1.heap.size]? = some (.cells #[.string xs, .bool xhh, .string xh, .string xp, .bool xhq, .string xq, .bool xhf, .string xf] 23) := kept_alloc (alloc_self _ _)
  refine (CM.out _ P2.1).mono ?_
  rintro e w2 ⟨rfl, hb2⟩
  have P3 := P2.below hb2
  have HX := kept_on HX0 hb2
  clear CM hb2 P2 HX0 P1 a0 a1 a2 a3 a4 a5 a6 a7 af c0 c1 c2 c3 c4 c5 c6 c7 cf hl1 m1 m3 m4 n1 n2 n3 n4 hcat
  go_wp2_with fail
  refine (CA.out _ (P3.alloc _).1).mono ?_
  rintro e w3 ⟨rfl, hb3⟩
  have P4 := (P3.alloc (.cells #[.string xs, .bool xhh, .string xh, .string xp, .bool xhq, .string xq, .bool xhf, .string xf] 23)).below hb3
  have HX3 := kept_on (kept_alloc HX) hb3
  have HY3 := kept8 hb3
  clear hb3 P3 HX
  subst hne hnf
  obtain ⟨c0, c1, c2, c3, c4, c5, c6, c7, cf⟩ := P4.cells
  obtain ⟨x0, x1, x2, x3, x4, x5, x6, x7, x8⟩ := cells_8 HX3
  obtain ⟨y0, y1, y2, y3, y4, y5, y6, y7, y8⟩ := cells_8 HY3
  go_wp2_with fail
  refine (CP.out _).mono ?_
  rintro e w' ⟨rfl, hw'⟩
  have hw'' := hw'.symm
  subst hw''
  go_wp2
  go_ret
  exact ⟨by simp, P4.1⟩

set_option maxHeartbeats 4000000 in
set_option maxRecDepth 100000 in
theorem paths_f (bs bh bp bq bf us uh up uq uf xs xh xp xq xf path PP : ByteArray) (bhh bhq bhf uhq uhf xhh xhq xhf : Bool) (ne nf : Nat) (hne : ne = 0) (hnf : nf = 0) (hue : us.data.toList ≠ []) (hp : path.size ≤ 140737488351232) (hPP : ⟨#[47]⟩ ++ path = PP) (w : World)
    (CL : Hid (∀ W, Below w.heap.size w W → Calls Tryd.prog 9 #[.agg #[.string bs, .bool bhh, .string bh, .string bp, .bool bhq, .string bq, .bool bhf, .string bf], .agg #[.string us, .bool false, .string uh, .string up, .bool uhq, .string uq, .bool uhf, .string uf]] W fun e w' => e = .returned (.tuple #[.agg #[.string xs, .bool xhh, .string xh, .string xp, .bool xhq, .string xq, .bool xhf, .string xf], .int .i64 (ne : Int)]) ∧ Below W.heap.size W w'))
    (CM : Hid (∀ W, Below w.heap.size w W → Calls Tryd.prog 9 #[.agg #[.string bs, .bool bhh, .string bh, .string PP, .bool false, .string ⟨#[]⟩, .bool bhf, .string bf], .agg #[.string us, .bool false, .string uh, .string up, .bool uhq, .string uq, .bool uhf, .string uf]] W fun e w' => e = .returned (.tuple #[.agg #[.string xs, .bool xhh, .string xh, .string xp, .bool xhq, .string xq, .bool xhf, .string xf], .int .i64 (nf : Int)]) ∧ Below W.heap.size W w'))
    (CA : Hid (∀ W, Below w.heap.size w W → Calls Tryd.prog 13 #[] W fun e w' => e = .returned (.bool true) ∧ Below W.heap.size W w'))
    (CP : Hid (∀ W, Calls Tryd.prog 19 #[.string up, .string ⟨#[47]⟩] W fun e w' => e = .returned (.bool false) ∧ w' = W)) :
    Calls Tryd.prog 6 #[.agg #[.string bs, .bool bhh, .string bh, .string bp, .bool bhq, .string bq, .bool bhf, .string bf], .agg #[.string us, .bool false, .string uh, .string up, .bool uhq, .string uq, .bool uhf, .string uf], .string path] w fun e w' => e = .returned (.bool true) ∧ Below w.heap.size w w' := by
  go_enter Tryd.func6, Tryd.ntmps6
  go_wp2_with fail
  have P0 := two_new w 23 #[.string bs, .bool bhh, .string bh, .string bp, .bool bhq, .string bq, .bool bhf, .string bf] #[.string us, .bool false, .string uh, .string up, .bool uhq, .string uq, .bool uhf, .string uf]
  refine (CL.out _ P0.1).mono ?_
  rintro e w1 ⟨rfl, hb1⟩
  clear CL
  have P1 := P0.below hb1
  clear P0 hb1
  obtain ⟨a0, a1, a2, a3, a4, a5, a6, a7, af⟩ := P1.cells'
  obtain ⟨c0, c1, c2, c3, c4, c5, c6, c7, cf⟩ := P1.cells
  have hl1 := P1.lt
  have m1 : w.heap.size < w1.heap.size := by omega
  have m3 : w.heap.size < w1.heap.size + 1 := by omega
  have m4 : w.heap.size + 1 < w1.heap.size + 1 := by omega
  have n1 : ¬ w.heap.size = w1.heap.size := by omega
  have n2 : ¬ w.heap.size + 1 = w1.heap.size := by omega
  have n3 : ¬ w.heap.size = w1.heap.size + 1 := by omega
  have n4 : ¬ w.heap.size + 1 = w1.heap.size + 1 := by omega
  have hcat : ¬ 9223372036854775807 < 1 + path.size := by omega
  go_wp2_with fail
  have P2 := (P1.alloc (.cells #[.string xs, .bool xhh, .string xh, .string xp, .bool xhq, .string xq, .bool xhf, .string xf] 23)).alloc (.cells #[.string bs, .bool bhh, .string bh, .string PP, .bool false, .string ⟨#[]⟩, .bool bhf, .string bf] 23)
  have HX0 : ((w1.alloc (.cells #[.string xs, .bool xhh, .string xh, .string xp, .bool xhq, .string xq, .bool xhf, .string xf] 23)).alloc (.cells #[.string bs, .bool bhh, .string bh, .string PP, .bool false, .string ⟨#[]⟩, .bool bhf, .string bf] 23)).heap[w1.heap.size]? = some (.cells #[.string xs, .bool xhh, .string xh, .string xp, .bool xhq, .string xq, .bool xhf, .string xf] 23) := kept_alloc (alloc_self _ _)
  refine (CM.out _ P2.1).mono ?_
  rintro e w2 ⟨rfl, hb2⟩
  have P3 := P2.below hb2
  have HX := kept_on HX0 hb2
  clear CM hb2 P2 HX0 P1 a0 a1 a2 a3 a4 a5 a6 a7 af c0 c1 c2 c3 c4 c5 c6 c7 cf hl1 m1 m3 m4 n1 n2 n3 n4 hcat
  go_wp2_with fail
  refine (CA.out _ (P3.alloc _).1).mono ?_
  rintro e w3 ⟨rfl, hb3⟩
  have P4 := (P3.alloc (.cells #[.string xs, .bool xhh, .string xh, .string xp, .bool xhq, .string xq, .bool xhf, .string xf] 23)).below hb3
  have HX3 := kept_on (kept_alloc HX) hb3
  have HY3 := kept8 hb3
  clear hb3 P3 HX
  subst hne hnf
  obtain ⟨c0, c1, c2, c3, c4, c5, c6, c7, cf⟩ := P4.cells
  obtain ⟨x0, x1, x2, x3, x4, x5, x6, x7, x8⟩ := cells_8 HX3
  obtain ⟨y0, y1, y2, y3, y4, y5, y6, y7, y8⟩ := cells_8 HY3
  have hE := bempty_no us hue
  clear hue
  go_wp2_with fail
  refine (CP.out _).mono ?_
  rintro e w' ⟨rfl, hw'⟩
  have hw'' := hw'.symm
  subst hw''
  go_wp2
  go_ret
  exact ⟨by simp, P4.1⟩

theorem app47 (path : ByteArray) : (⟨#[47]⟩ ++ path : ByteArray).data.toList = 47 :: path.data.toList := by rw [data_app]; rfl
theorem app47_size (path : ByteArray) : (⟨#[47]⟩ ++ path : ByteArray).size = path.size + 1 := by
  rw [Lib.size_eq, app47, List.length_cons, ← Lib.size_eq]
/-- The law URLPaths. -/
theorem upaths_any (b u : UV) (path : ByteArray) (hb : b.short maxLen) (hu : u.short maxLen) (hp : path.size ≤ 140737488351232) (w : World) (hM : MaxAt w) :
    Calls Tryd.prog 6 #[b.v, u.v, .string path] w fun e w' => e = .returned (.bool true) ∧ Below w.heap.size w w' := by
  have CL := fun W (h : Below w.heap.size w W) => ulead_any b u hb hu W (hM.below h)
  have hc : UV.short maxLen ⟨b.sch, b.hh, b.hst, ⟨#[47]⟩ ++ path, false, ⟨#[]⟩, b.hf, b.frg⟩ := by
    obtain ⟨h1, h2, h3, h4, h5⟩ := hb
    refine ⟨h1, h2, ?_, ?_, h5⟩
    · show (⟨#[47]⟩ ++ path : ByteArray).size ≤ maxLen
      rw [app47_size]; unfold maxLen; omega
    · show (0 : Nat) ≤ maxLen
      exact Nat.zero_le _
  have CM := fun W (h : Below w.heap.size w W) => ulead_any ⟨b.sch, b.hh, b.hst, ⟨#[47]⟩ ++ path, false, ⟨#[]⟩, b.hf, b.frg⟩ u hc hu W (hM.below h)
  have CA := fun W (h : Below w.heap.size w W) => addr_any W (hM.below h)
  have CP := fun W => pre_one u.pth W
  have hpl := paths_plain b.l (UV.l ⟨b.sch, b.hh, b.hst, ⟨#[47]⟩ ++ path, false, ⟨#[]⟩, b.hf, b.frg⟩) u.l rfl rfl rfl
  generalize leadU b.l u.l = X at *
  generalize leadU (UV.l ⟨b.sch, b.hh, b.hst, ⟨#[47]⟩ ++ path, false, ⟨#[]⟩, b.hf, b.frg⟩) u.l = Y at *
  obtain ⟨X, ne⟩ := X
  obtain ⟨Y, nf⟩ := Y
  simp only at hpl
  obtain ⟨bs, bhh, bh, bp, bhq, bq, bhf, bf⟩ := b
  obtain ⟨us, uhh, uh, up, uhq, uq, uhf, uf⟩ := u
  by_cases hne : ne = 0
  · by_cases hnf : nf = 0
    · cases uhh with
      | true =>
        have e := hpl hne hnf (.inl rfl)
        subst e
        exact paths_d bs bh bp bq bf us uh up uq uf (bar X.sch) (bar X.hst) (bar X.pth) (bar X.qry) (bar X.frg) path _ bhh bhq bhf uhq uhf X.hh X.hq X.hf ne nf hne hnf hp rfl w CL CM CA
      | false =>
        cases hps : preS up.data.toList with
        | true =>
          have e := hpl hne hnf (.inr (.inl hps))
          subst e
          simp only [hps] at CP
          exact paths_e bs bh bp bq bf us uh up uq uf (bar X.sch) (bar X.hst) (bar X.pth) (bar X.qry) (bar X.frg) path _ bhh bhq bhf uhq uhf X.hh X.hq X.hf ne nf hne hnf hp rfl w CL CM CA CP
        | false =>
          simp only [hps] at CP
          by_cases hue : us.data.toList = []
          · obtain rfl := bempty_yes us hue
            exact paths_c bs bh bp bq bf uh up uq uf (bar X.sch) (bar X.hst) (bar X.pth) (bar X.qry) (bar X.frg) (bar Y.sch) (bar Y.hst) (bar Y.pth) (bar Y.qry) (bar Y.frg) path _ bhh bhq bhf uhq uhf X.hh X.hq X.hf Y.hh Y.hq Y.hf ne nf hne hnf hp rfl w CL CM CA CP
          · have e := hpl hne hnf (.inr (.inr hue))
            subst e
            exact paths_f bs bh bp bq bf us uh up uq uf (bar X.sch) (bar X.hst) (bar X.pth) (bar X.qry) (bar X.frg) path _ bhh bhq bhf uhq uhf X.hh X.hq X.hf ne nf hne hnf hue hp rfl w CL CM CA CP
    · exact paths_b bs bh bp bq bf us uh up uq uf (bar X.sch) (bar X.hst) (bar X.pth) (bar X.qry) (bar X.frg) (bar Y.sch) (bar Y.hst) (bar Y.pth) (bar Y.qry) (bar Y.frg) path _ bhh bhq bhf uhh uhq uhf X.hh X.hq X.hf Y.hh Y.hq Y.hf ne nf hne hnf hp rfl w CL CM CA
  · exact paths_a bs bh bp bq bf us uh up uq uf (bar X.sch) (bar X.hst) (bar X.pth) (bar X.qry) (bar X.frg) (bar Y.sch) (bar Y.hst) (bar Y.pth) (bar Y.qry) (bar Y.frg) path _ bhh bhq bhf uhh uhq uhf X.hh X.hq X.hf Y.hh Y.hq Y.hf ne nf hne hp rfl w CL CM CA
end Go.Proofs.YtjngeofnoogkfabDoor
