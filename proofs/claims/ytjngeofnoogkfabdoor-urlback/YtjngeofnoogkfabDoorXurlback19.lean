/- The law URLBack answers true at every address and text; nothing that was there is changed. Conditions: the texts are no longer than a text can be; internal/bytealg.MaxLen holds a number. -/
import Derived.Test.YtjngeofnoogkfabDoorXurlback18
import Derived.Deep.RegionHeld3
namespace Go.Proofs.YtjngeofnoogkfabDoor
open Go.RowKit

theorem wrap_n (n : Nat) (h : n ≤ 1000000) : IntKind.i64.wrap (n : Int) = (n : Int) := wrap_small _ (by omega) (by omega)

set_option maxHeartbeats 1000000 in
theorem tail_00 (s h p q f : ByteArray) (hh : Bool) (hq : q.size ≤ 1000) (hf : f.size ≤ 1000) (w : World) :
    Calls Tryd.prog 18 #[.agg #[.string s, .bool hh, .string h, .string p, .bool false, .string q, .bool false, .string f]] w fun e w' => e = .returned (.int .i64 ((0 : Nat) : Int)) ∧ Below w.heap.size w w' := by
  have hqi : (q.size : Int) ≤ 1000 := by omega
  have hfi : (f.size : Int) ≤ 1000 := by omega
  go_enter Tryd.func18, Tryd.ntmps18
  go_wp2
  go_ret
  exact ⟨ret_i64 (by simp; try omega), (Below.refl _ _).alloc (Nat.le_refl _) _⟩

set_option maxHeartbeats 1000000 in
theorem tail_01 (s h p q f : ByteArray) (hh : Bool) (hq : q.size ≤ 1000) (hf : f.size ≤ 1000) (w : World) :
    Calls Tryd.prog 18 #[.agg #[.string s, .bool hh, .string h, .string p, .bool false, .string q, .bool true, .string f]] w fun e w' => e = .returned (.int .i64 (((1 + f.size) : Nat) : Int)) ∧ Below w.heap.size w w' := by
  have hqi : (q.size : Int) ≤ 1000 := by omega
  have hfi : (f.size : Int) ≤ 1000 := by omega
  go_enter Tryd.func18, Tryd.ntmps18
  go_wp2
  go_ret
  exact ⟨ret_i64 (by simp; try omega), (Below.refl _ _).alloc (Nat.le_refl _) _⟩

set_option maxHeartbeats 1000000 in
theorem tail_10 (s h p q f : ByteArray) (hh : Bool) (hq : q.size ≤ 1000) (hf : f.size ≤ 1000) (w : World) :
    Calls Tryd.prog 18 #[.agg #[.string s, .bool hh, .string h, .string p, .bool true, .string q, .bool false, .string f]] w fun e w' => e = .returned (.int .i64 (((1 + q.size) : Nat) : Int)) ∧ Below w.heap.size w w' := by
  have hqi : (q.size : Int) ≤ 1000 := by omega
  have hfi : (f.size : Int) ≤ 1000 := by omega
  go_enter Tryd.func18, Tryd.ntmps18
  go_wp2
  go_ret
  exact ⟨ret_i64 (by simp; try omega), (Below.refl _ _).alloc (Nat.le_refl _) _⟩

set_option maxHeartbeats 1000000 in
theorem tail_11 (s h p q f : ByteArray) (hh : Bool) (hq : q.size ≤ 1000) (hf : f.size ≤ 1000) (w : World) :
    Calls Tryd.prog 18 #[.agg #[.string s, .bool hh, .string h, .string p, .bool true, .string q, .bool true, .string f]] w fun e w' => e = .returned (.int .i64 (((1 + q.size) + (1 + f.size) : Nat) : Int)) ∧ Below w.heap.size w w' := by
  have hqi : (q.size : Int) ≤ 1000 := by omega
  have hfi : (f.size : Int) ≤ 1000 := by omega
  go_enter Tryd.func18, Tryd.ntmps18
  go_wp2
  go_ret
  exact ⟨ret_i64 (by simp; try omega), (Below.refl _ _).alloc (Nat.le_refl _) _⟩

theorem tail_len (u : UV) : (tailU u.l).length = (if u.hq then 1 + u.qry.size else 0) + (if u.hf then 1 + u.frg.size else 0) := by
  unfold tailU UV.l opt
  rw [List.length_append, Lib.size_eq, Lib.size_eq]
  cases u.hq <;> cases u.hf <;> simp <;> omega
theorem utail_any (u : UV) (h : u.short 1000) (w : World) : Calls Tryd.prog 18 #[u.v] w fun e w' => e = .returned (.int .i64 (((tailU u.l).length : Nat) : Int)) ∧ Below w.heap.size w w' := by
  rw [tail_len]
  obtain ⟨s, hh, h1, p, hq, q, hf, f⟩ := u
  obtain ⟨_, _, _, h4, h5⟩ := h
  cases hq with
  | false => cases hf with
    | false => exact tail_00 s h1 p q f hh h4 h5 w
    | true => simp only [Bool.false_eq_true, if_false, if_true, Nat.zero_add]; exact tail_01 s h1 p q f hh h4 h5 w
  | true => cases hf with
    | false => simp only [Bool.false_eq_true, if_false, if_true, Nat.add_zero]; exact tail_10 s h1 p q f hh h4 h5 w
    | true => exact tail_11 s h1 p q f hh h4 h5 w
theorem ufold_any (s t : ByteArray) (hs : s.size ≤ 1000000) (has : ∀ c ∈ s.data.toList, c.toNat < 128) (hat : ∀ c ∈ t.data.toList, c.toNat < 128) (w : World) :
    Calls Tryd.prog 16 #[.string s, .string t] w fun e w' => e = .returned (.bool (Lib.equalFold s.data.toList t.data.toList)) ∧ w' = w :=
  Tryd.strings_EqualFold s t w (by omega) (fun j b hb => has b (List.mem_of_getElem? hb)) (fun j b hb => hat b (List.mem_of_getElem? hb))

set_option maxHeartbeats 4000000 in
set_option maxRecDepth 100000 in
theorem back_NB (us uh up uq uf vs vh vp vq vf s T0 : ByteArray) (uhh uhq uhf vhh vhq vhf : Bool) (n0 : Nat) (hn0 : n0 ≠ 0) (n1 : Nat) (hn1 : n1 ≠ 0) (w : World)
    (CR : Hid (∀ W, Calls Tryd.prog 7 #[.agg #[.string us, .bool uhh, .string uh, .string up, .bool uhq, .string uq, .bool uhf, .string uf]] W fun e w' => e = .returned (.tuple #[.string T0, .int .i64 (n0 : Int)]) ∧ Below W.heap.size W w'))
    (CP : Hid (∀ W, Calls Tryd.prog 8 #[.string s] W fun e w' => e = .returned (.tuple #[.agg #[.string vs, .bool vhh, .string vh, .string vp, .bool vhq, .string vq, .bool vhf, .string vf], .int .i64 (n1 : Int)]) ∧ Below W.heap.size W w'))
    (CA : Hid (∀ W, Below w.heap.size w W → Calls Tryd.prog 13 #[] W fun e w' => e = .returned (.bool true) ∧ Below W.heap.size W w')) :
    Calls Tryd.prog 4 #[.agg #[.string us, .bool uhh, .string uh, .string up, .bool uhq, .string uq, .bool uhf, .string uf], .string s] w fun e w' => e = .returned (.bool true) ∧ Below w.heap.size w w' := by
  have hz0 : ((n0 : Int) == 0) = false := by rw [beq_eq_false_iff_ne]; omega
  have hz1 : ((n1 : Int) == 0) = false := by rw [beq_eq_false_iff_ne]; omega
  go_enter Tryd.func4, Tryd.ntmps4
  go_wp2_with fail
  refine (CR.out _).mono ?_
  rintro e w1 ⟨rfl, hb1⟩
  have HU1 := kept8 hb1
  have B1 : Below w.heap.size w w1 := ((Below.refl _ _).alloc (Nat.le_refl _) _).trans (hb1.mono (by simp))
  clear CR hb1
  go_wp2_with fail
  refine (CP.out _).mono ?_
  rintro e w3 ⟨rfl, hb3⟩
  have B3 : Below w.heap.size w w3 := B1.trans (hb3.mono B1.size)
  clear CP hb3 HU1 B1
  go_wp2_with fail
  refine (CA.out _ (B3.alloc B3.size _)).mono ?_
  rintro e w4 ⟨rfl, hb4⟩
  have HV4 := kept8 hb4
  have B4 : Below w.heap.size w w4 := (B3.alloc B3.size _).trans (hb4.mono (B3.alloc B3.size _).size)
  clear hb4 B3
  go_wp2_with fail
  refine (CA.out _ B4).mono ?_
  rintro e w5 ⟨rfl, hb5⟩
  go_wp2
  go_ret
  exact ⟨rfl, B4.trans (hb5.mono B4.size)⟩

set_option maxHeartbeats 4000000 in
set_option maxRecDepth 100000 in
theorem back_YB (us uh up uq uf vs vh vp vq vf s T0 : ByteArray) (uhh uhq uhf vhh vhq vhf : Bool) (n1 : Nat) (hn1 : n1 ≠ 0) (w : World)
    (CR : Hid (∀ W, Calls Tryd.prog 7 #[.agg #[.string us, .bool uhh, .string uh, .string up, .bool uhq, .string uq, .bool uhf, .string uf]] W fun e w' => e = .returned (.tuple #[.string T0, .int .i64 0]) ∧ Below W.heap.size W w'))
    (CP0 : Hid (∀ W, Calls Tryd.prog 8 #[.string T0] W fun e w' => e = .returned (.tuple #[.agg #[.string us, .bool uhh, .string uh, .string up, .bool uhq, .string uq, .bool uhf, .string uf], .int .i64 0]) ∧ Below W.heap.size W w'))
    (CP : Hid (∀ W, Calls Tryd.prog 8 #[.string s] W fun e w' => e = .returned (.tuple #[.agg #[.string vs, .bool vhh, .string vh, .string vp, .bool vhq, .string vq, .bool vhf, .string vf], .int .i64 (n1 : Int)]) ∧ Below W.heap.size W w'))
    (CA : Hid (∀ W, Below w.heap.size w W → Calls Tryd.prog 13 #[] W fun e w' => e = .returned (.bool true) ∧ Below W.heap.size W w')) :
    Calls Tryd.prog 4 #[.agg #[.string us, .bool uhh, .string uh, .string up, .bool uhq, .string uq, .bool uhf, .string uf], .string s] w fun e w' => e = .returned (.bool true) ∧ Below w.heap.size w w' := by
  have hz1 : ((n1 : Int) == 0) = false := by rw [beq_eq_false_iff_ne]; omega
  go_enter Tryd.func4, Tryd.ntmps4
  go_wp2_with fail
  refine (CR.out _).mono ?_
  rintro e w1 ⟨rfl, hb1⟩
  have HU1 := kept8 hb1
  have B1 : Below w.heap.size w w1 := ((Below.refl _ _).alloc (Nat.le_refl _) _).trans (hb1.mono (by simp))
  clear CR hb1
  go_wp2_with fail
  refine (CP0.out _).mono ?_
  rintro e w2 ⟨rfl, hb2⟩
  have HU2 := kept_on HU1 hb2
  have B2 : Below w.heap.size w w2 := B1.trans (hb2.mono B1.size)
  clear CP0 hb2 HU1 B1
  obtain ⟨u0, u1, u2, u3, u4, u5, u6, u7, u8⟩ := cells_8 HU2
  have ku := kept_lt HU2
  have kn := kept_ltn HU2
  go_wp2_with fail
  refine (CP.out _).mono ?_
  rintro e w3 ⟨rfl, hb3⟩
  have B3 : Below w.heap.size w w3 := (B2.alloc B2.size _).trans (hb3.mono (B2.alloc B2.size _).size)
  clear CP hb3 HU2 B2 ku kn
  clear u0 u1 u2 u3 u4 u5 u6 u7 u8
  go_wp2_with fail
  refine (CA.out _ (B3.alloc B3.size _)).mono ?_
  rintro e w4 ⟨rfl, hb4⟩
  have HV4 := kept8 hb4
  have B4 : Below w.heap.size w w4 := (B3.alloc B3.size _).trans (hb4.mono (B3.alloc B3.size _).size)
  clear hb4 B3
  go_wp2_with fail
  refine (CA.out _ B4).mono ?_
  rintro e w5 ⟨rfl, hb5⟩
  go_wp2
  go_ret
  exact ⟨rfl, B4.trans (hb5.mono B4.size)⟩

set_option maxHeartbeats 4000000 in
set_option maxRecDepth 100000 in
theorem back_NO (us uh up uq uf vs vh vp vq vf s T0 T1 PD SD CT : ByteArray) (uhh uhq uhf vhh vhq vhf : Bool) (n0 : Nat) (hn0 : n0 ≠ 0) (mm tl d : Nat) (hs : s.size ≤ 120) (hmin : min (vp.size : Int) 1 = (mm : Int)) (hmm : mm ≤ vp.size) (hPD : vp.extract mm vp.size = PD) (hPDs : PD.size ≤ 120) (hd : (s.size : Int) - (tl : Int) = (d : Int)) (hds : d ≤ s.size) (hSD : s.extract d s.size = SD) (hSDs : SD.size ≤ 120) (hCT : PD ++ SD = CT) (w : World)
    (CR : Hid (∀ W, Calls Tryd.prog 7 #[.agg #[.string us, .bool uhh, .string uh, .string up, .bool uhq, .string uq, .bool uhf, .string uf]] W fun e w' => e = .returned (.tuple #[.string T0, .int .i64 (n0 : Int)]) ∧ Below W.heap.size W w'))
    (CP : Hid (∀ W, Calls Tryd.prog 8 #[.string s] W fun e w' => e = .returned (.tuple #[.agg #[.string vs, .bool vhh, .string vh, .string vp, .bool vhq, .string vq, .bool vhf, .string vf], .int .i64 0]) ∧ Below W.heap.size W w'))
    (CA : Hid (∀ W, Below w.heap.size w W → Calls Tryd.prog 13 #[] W fun e w' => e = .returned (.bool true) ∧ Below W.heap.size W w'))
    (CR1 : Hid (∀ W, Calls Tryd.prog 7 #[.agg #[.string vs, .bool vhh, .string vh, .string vp, .bool vhq, .string vq, .bool vhf, .string vf]] W fun e w' => e = .returned (.tuple #[.string T1, .int .i64 0]) ∧ Below W.heap.size W w'))
    (CP1 : Hid (∀ W, Calls Tryd.prog 8 #[.string T1] W fun e w' => e = .returned (.tuple #[.agg #[.string vs, .bool vhh, .string vh, .string vp, .bool vhq, .string vq, .bool vhf, .string vf], .int .i64 0]) ∧ Below W.heap.size W w'))
    (CF : Hid (∀ W, Calls Tryd.prog 16 #[.string T1, .string s] W fun e w' => e = .returned (.bool true) ∧ w' = W))
    (CT9 : Hid (∀ W, Calls Tryd.prog 18 #[.agg #[.string vs, .bool vhh, .string vh, .string vp, .bool vhq, .string vq, .bool vhf, .string vf]] W fun e w' => e = .returned (.int .i64 (tl : Int)) ∧ Below W.heap.size W w'))
    (CS : Hid (∀ W, Calls Tryd.prog 17 #[.string s, .string CT] W fun e w' => e = .returned (.bool true) ∧ w' = W)) :
    Calls Tryd.prog 4 #[.agg #[.string us, .bool uhh, .string uh, .string up, .bool uhq, .string uq, .bool uhf, .string uf], .string s] w fun e w' => e = .returned (.bool true) ∧ Below w.heap.size w w' := by
  have hz0 : ((n0 : Int) == 0) = false := by rw [beq_eq_false_iff_ne]; omega
  go_enter Tryd.func4, Tryd.ntmps4
  go_wp2_with fail
  refine (CR.out _).mono ?_
  rintro e w1 ⟨rfl, hb1⟩
  have HU1 := kept8 hb1
  have B1 : Below w.heap.size w w1 := ((Below.refl _ _).alloc (Nat.le_refl _) _).trans (hb1.mono (by simp))
  clear CR hb1
  go_wp2_with fail
  refine (CP.out _).mono ?_
  rintro e w3 ⟨rfl, hb3⟩
  have B3 : Below w.heap.size w w3 := B1.trans (hb3.mono B1.size)
  clear CP hb3 HU1 B1
  go_wp2_with fail
  refine (CA.out _ (B3.alloc B3.size _)).mono ?_
  rintro e w4 ⟨rfl, hb4⟩
  have HV4 := kept8 hb4
  have B4 : Below w.heap.size w w4 := (B3.alloc B3.size _).trans (hb4.mono (B3.alloc B3.size _).size)
  clear hb4 B3
  clear CA
  obtain ⟨v0, v1, v2, v3, v4, v5, v6, v7, v8⟩ := cells_8 HV4
  go_wp2_with fail
  refine (CR1.out _).mono ?_
  rintro e w5 ⟨rfl, hb5⟩
  have HV5 := kept_on HV4 hb5
  have B5 : Below w.heap.size w w5 := B4.trans (hb5.mono B4.size)
  clear CR1 hb5 HV4 B4
  clear v0 v1 v2 v3 v4 v5 v6 v7 v8
  go_wp2_with fail
  refine (CP1.out _).mono ?_
  rintro e w6 ⟨rfl, hb6⟩
  have HV6 := kept_on HV5 hb6
  have B6 : Below w.heap.size w w6 := B5.trans (hb6.mono B5.size)
  clear CP1 hb6 HV5 B5
  obtain ⟨v0, v1, v2, v3, v4, v5, v6, v7, v8⟩ := cells_8 HV6
  have ku := kept_lt HV6
  have kn := kept_ltn HV6
  have HV7 := kept_alloc (o' := .cells #[.string vs, .bool vhh, .string vh, .string vp, .bool vhq, .string vq, .bool vhf, .string vf] 23) HV6
  have B7 := B6.alloc B6.size (.cells #[.string vs, .bool vhh, .string vh, .string vp, .bool vhq, .string vq, .bool vhf, .string vf] 23)
  go_wp2_with fail
  obtain ⟨w7, hw7⟩ : ∃ W, W = w6.alloc (.cells #[.string vs, .bool vhh, .string vh, .string vp, .bool vhq, .string vq, .bool vhf, .string vf] 23) := ⟨_, rfl⟩
  have HW7 : (w6.alloc (.cells #[.string vs, .bool vhh, .string vh, .string vp, .bool vhq, .string vq, .bool vhf, .string vf] 23)).heap[w6.heap.size]? = some (.cells #[.string vs, .bool vhh, .string vh, .string vp, .bool vhq, .string vq, .bool vhf, .string vf] 23) := alloc_self _ _
  rw [← hw7] at HV7 B7 HW7 ⊢
  clear hw7 ku kn HV6 B6
  clear v0 v1 v2 v3 v4 v5 v6 v7 v8
  have h77 : Below w7.heap.size w7 w7 := Below.refl _ _
  have y0 : ∀ W, Below w7.heap.size w7 W → W.cell? ⟨w3.heap.size, 0, none⟩ = some (.string vs) := fun W hb => blk_cell (kept_on HV7 hb) 0
  have y1 : ∀ W, Below w7.heap.size w7 W → W.cell? ⟨w3.heap.size, 1, none⟩ = some (.bool vhh) := fun W hb => blk_cell (kept_on HV7 hb) 1
  have y2 : ∀ W, Below w7.heap.size w7 W → W.cell? ⟨w3.heap.size, 2, none⟩ = some (.string vh) := fun W hb => blk_cell (kept_on HV7 hb) 2
  have y3 : ∀ W, Below w7.heap.size w7 W → W.cell? ⟨w3.heap.size, 3, none⟩ = some (.string vp) := fun W hb => blk_cell (kept_on HV7 hb) 3
  have y4 : ∀ W, Below w7.heap.size w7 W → W.cell? ⟨w3.heap.size, 4, none⟩ = some (.bool vhq) := fun W hb => blk_cell (kept_on HV7 hb) 4
  have y5 : ∀ W, Below w7.heap.size w7 W → W.cell? ⟨w3.heap.size, 5, none⟩ = some (.string vq) := fun W hb => blk_cell (kept_on HV7 hb) 5
  have y6 : ∀ W, Below w7.heap.size w7 W → W.cell? ⟨w3.heap.size, 6, none⟩ = some (.bool vhf) := fun W hb => blk_cell (kept_on HV7 hb) 6
  have y7 : ∀ W, Below w7.heap.size w7 W → W.cell? ⟨w3.heap.size, 7, none⟩ = some (.string vf) := fun W hb => blk_cell (kept_on HV7 hb) 7
  have z0 : ∀ W, Below w7.heap.size w7 W → W.cell? ⟨w6.heap.size, 0, none⟩ = some (.string vs) := fun W hb => blk_cell (kept_on HW7 hb) 0
  have z1 : ∀ W, Below w7.heap.size w7 W → W.cell? ⟨w6.heap.size, 1, none⟩ = some (.bool vhh) := fun W hb => blk_cell (kept_on HW7 hb) 1
  have z2 : ∀ W, Below w7.heap.size w7 W → W.cell? ⟨w6.heap.size, 2, none⟩ = some (.string vh) := fun W hb => blk_cell (kept_on HW7 hb) 2
  have z3 : ∀ W, Below w7.heap.size w7 W → W.cell? ⟨w6.heap.size, 3, none⟩ = some (.string vp) := fun W hb => blk_cell (kept_on HW7 hb) 3
  have z4 : ∀ W, Below w7.heap.size w7 W → W.cell? ⟨w6.heap.size, 4, none⟩ = some (.bool vhq) := fun W hb => blk_cell (kept_on HW7 hb) 4
  have z5 : ∀ W, Below w7.heap.size w7 W → W.cell? ⟨w6.heap.size, 5, none⟩ = some (.string vq) := fun W hb => blk_cell (kept_on HW7 hb) 5
  have z6 : ∀ W, Below w7.heap.size w7 W → W.cell? ⟨w6.heap.size, 6, none⟩ = some (.bool vhf) := fun W hb => blk_cell (kept_on HW7 hb) 6
  have z7 : ∀ W, Below w7.heap.size w7 W → W.cell? ⟨w6.heap.size, 7, none⟩ = some (.string vf) := fun W hb => blk_cell (kept_on HW7 hb) 7
  have hcat : ¬ 9223372036854775807 < PD.size + SD.size := by omega
  have hmi : (mm : Int) ≤ (vp.size : Int) := by omega
  have hdi : (d : Int) ≤ (s.size : Int) := by omega
  have hdw : IntKind.i64.wrap ((s.size : Int) - (tl : Int)) = (d : Int) := by rw [hd]; exact wrap_small _ (by omega) (by omega)
  have hdw2 : IntKind.i64.wrap (d : Int) = (d : Int) := wrap_small _ (by omega) (by omega)
  go_region_held3 (fun w' => Below w7.heap.size w7 w') (first | assumption | exact h77.drew) (first
    | (go_at_call 16; refine (CF.out _).mono ?_; rintro e w8 ⟨rfl, hw8⟩; have hw8' := hw8.symm; subst hw8')
    | (go_at_call 18; refine (CT9.out _).mono ?_; rintro e w9 ⟨rfl, hb9⟩; have hb97 : Below w7.heap.size w7 w9 := (h77.drew).trans (hb9.mono (by simp)))
    | (go_at_call 17; refine (CS.out _).mono ?_; rintro e w10 ⟨rfl, hw10⟩; have hw10' := hw10.symm; subst hw10'))
  all_goals (
    go_wp2
    go_ret
    exact ⟨rfl, B7.trans (hb97.mono B7.size)⟩)

set_option maxHeartbeats 4000000 in
set_option maxRecDepth 100000 in
theorem back_YO (us uh up uq uf vs vh vp vq vf s T0 T1 PD SD CT : ByteArray) (uhh uhq uhf vhh vhq vhf : Bool) (mm tl d : Nat) (hs : s.size ≤ 120) (hmin : min (vp.size : Int) 1 = (mm : Int)) (hmm : mm ≤ vp.size) (hPD : vp.extract mm vp.size = PD) (hPDs : PD.size ≤ 120) (hd : (s.size : Int) - (tl : Int) = (d : Int)) (hds : d ≤ s.size) (hSD : s.extract d s.size = SD) (hSDs : SD.size ≤ 120) (hCT : PD ++ SD = CT) (w : World)
    (CR : Hid (∀ W, Calls Tryd.prog 7 #[.agg #[.string us, .bool uhh, .string uh, .string up, .bool uhq, .string uq, .bool uhf, .string uf]] W fun e w' => e = .returned (.tuple #[.string T0, .int .i64 0]) ∧ Below W.heap.size W w'))
    (CP0 : Hid (∀ W, Calls Tryd.prog 8 #[.string T0] W fun e w' => e = .returned (.tuple #[.agg #[.string us, .bool uhh, .string uh, .string up, .bool uhq, .string uq, .bool uhf, .string uf], .int .i64 0]) ∧ Below W.heap.size W w'))
    (CP : Hid (∀ W, Calls Tryd.prog 8 #[.string s] W fun e w' => e = .returned (.tuple #[.agg #[.string vs, .bool vhh, .string vh, .string vp, .bool vhq, .string vq, .bool vhf, .string vf], .int .i64 0]) ∧ Below W.heap.size W w'))
    (CA : Hid (∀ W, Below w.heap.size w W → Calls Tryd.prog 13 #[] W fun e w' => e = .returned (.bool true) ∧ Below W.heap.size W w'))
    (CR1 : Hid (∀ W, Calls Tryd.prog 7 #[.agg #[.string vs, .bool vhh, .string vh, .string vp, .bool vhq, .string vq, .bool vhf, .string vf]] W fun e w' => e = .returned (.tuple #[.string T1, .int .i64 0]) ∧ Below W.heap.size W w'))
    (CP1 : Hid (∀ W, Calls Tryd.prog 8 #[.string T1] W fun e w' => e = .returned (.tuple #[.agg #[.string vs, .bool vhh, .string vh, .string vp, .bool vhq, .string vq, .bool vhf, .string vf], .int .i64 0]) ∧ Below W.heap.size W w'))
    (CF : Hid (∀ W, Calls Tryd.prog 16 #[.string T1, .string s] W fun e w' => e = .returned (.bool true) ∧ w' = W))
    (CT9 : Hid (∀ W, Calls Tryd.prog 18 #[.agg #[.string vs, .bool vhh, .string vh, .string vp, .bool vhq, .string vq, .bool vhf, .string vf]] W fun e w' => e = .returned (.int .i64 (tl : Int)) ∧ Below W.heap.size W w'))
    (CS : Hid (∀ W, Calls Tryd.prog 17 #[.string s, .string CT] W fun e w' => e = .returned (.bool true) ∧ w' = W)) :
    Calls Tryd.prog 4 #[.agg #[.string us, .bool uhh, .string uh, .string up, .bool uhq, .string uq, .bool uhf, .string uf], .string s] w fun e w' => e = .returned (.bool true) ∧ Below w.heap.size w w' := by
  go_enter Tryd.func4, Tryd.ntmps4
  go_wp2_with fail
  refine (CR.out _).mono ?_
  rintro e w1 ⟨rfl, hb1⟩
  have HU1 := kept8 hb1
  have B1 : Below w.heap.size w w1 := ((Below.refl _ _).alloc (Nat.le_refl _) _).trans (hb1.mono (by simp))
  clear CR hb1
  go_wp2_with fail
  refine (CP0.out _).mono ?_
  rintro e w2 ⟨rfl, hb2⟩
  have HU2 := kept_on HU1 hb2
  have B2 : Below w.heap.size w w2 := B1.trans (hb2.mono B1.size)
  clear CP0 hb2 HU1 B1
  obtain ⟨u0, u1, u2, u3, u4, u5, u6, u7, u8⟩ := cells_8 HU2
  have ku := kept_lt HU2
  have kn := kept_ltn HU2
  go_wp2_with fail
  refine (CP.out _).mono ?_
  rintro e w3 ⟨rfl, hb3⟩
  have B3 : Below w.heap.size w w3 := (B2.alloc B2.size _).trans (hb3.mono (B2.alloc B2.size _).size)
  clear CP hb3 HU2 B2 ku kn
  clear u0 u1 u2 u3 u4 u5 u6 u7 u8
  go_wp2_with fail
  refine (CA.out _ (B3.alloc B3.size _)).mono ?_
  rintro e w4 ⟨rfl, hb4⟩
  have HV4 := kept8 hb4
  have B4 : Below w.heap.size w w4 := (B3.alloc B3.size _).trans (hb4.mono (B3.alloc B3.size _).size)
  clear hb4 B3
  clear CA
  obtain ⟨v0, v1, v2, v3, v4, v5, v6, v7, v8⟩ := cells_8 HV4
  go_wp2_with fail
  refine (CR1.out _).mono ?_
  rintro e w5 ⟨rfl, hb5⟩
  have HV5 := kept_on HV4 hb5
  have B5 : Below w.heap.size w w5 := B4.trans (hb5.mono B4.size)
  clear CR1 hb5 HV4 B4
  clear v0 v1 v2 v3 v4 v5 v6 v7 v8
  go_wp2_with fail
  refine (CP1.out _).mono ?_
  rintro e w6 ⟨rfl, hb6⟩
  have HV6 := kept_on HV5 hb6
  have B6 : Below w.heap.size w w6 := B5.trans (hb6.mono B5.size)
  clear CP1 hb6 HV5 B5
  obtain ⟨v0, v1, v2, v3, v4, v5, v6, v7, v8⟩ := cells_8 HV6
  have ku := kept_lt HV6
  have kn := kept_ltn HV6
  have HV7 := kept_alloc (o' := .cells #[.string vs, .bool vhh, .string vh, .string vp, .bool vhq, .string vq, .bool vhf, .string vf] 23) HV6
  have B7 := B6.alloc B6.size (.cells #[.string vs, .bool vhh, .string vh, .string vp, .bool vhq, .string vq, .bool vhf, .string vf] 23)
  go_wp2_with fail
  obtain ⟨w7, hw7⟩ : ∃ W, W = w6.alloc (.cells #[.string vs, .bool vhh, .string vh, .string vp, .bool vhq, .string vq, .bool vhf, .string vf] 23) := ⟨_, rfl⟩
  have HW7 : (w6.alloc (.cells #[.string vs, .bool vhh, .string vh, .string vp, .bool vhq, .string vq, .bool vhf, .string vf] 23)).heap[w6.heap.size]? = some (.cells #[.string vs, .bool vhh, .string vh, .string vp, .bool vhq, .string vq, .bool vhf, .string vf] 23) := alloc_self _ _
  rw [← hw7] at HV7 B7 HW7 ⊢
  clear hw7 ku kn HV6 B6
  clear v0 v1 v2 v3 v4 v5 v6 v7 v8
  have h77 : Below w7.heap.size w7 w7 := Below.refl _ _
  have y0 : ∀ W, Below w7.heap.size w7 W → W.cell? ⟨w3.heap.size, 0, none⟩ = some (.string vs) := fun W hb => blk_cell (kept_on HV7 hb) 0
  have y1 : ∀ W, Below w7.heap.size w7 W → W.cell? ⟨w3.heap.size, 1, none⟩ = some (.bool vhh) := fun W hb => blk_cell (kept_on HV7 hb) 1
  have y2 : ∀ W, Below w7.heap.size w7 W → W.cell? ⟨w3.heap.size, 2, none⟩ = some (.string vh) := fun W hb => blk_cell (kept_on HV7 hb) 2
  have y3 : ∀ W, Below w7.heap.size w7 W → W.cell? ⟨w3.heap.size, 3, none⟩ = some (.string vp) := fun W hb => blk_cell (kept_on HV7 hb) 3
  have y4 : ∀ W, Below w7.heap.size w7 W → W.cell? ⟨w3.heap.size, 4, none⟩ = some (.bool vhq) := fun W hb => blk_cell (kept_on HV7 hb) 4
  have y5 : ∀ W, Below w7.heap.size w7 W → W.cell? ⟨w3.heap.size, 5, none⟩ = some (.string vq) := fun W hb => blk_cell (kept_on HV7 hb) 5
  have y6 : ∀ W, Below w7.heap.size w7 W → W.cell? ⟨w3.heap.size, 6, none⟩ = some (.bool vhf) := fun W hb => blk_cell (kept_on HV7 hb) 6
  have y7 : ∀ W, Below w7.heap.size w7 W → W.cell? ⟨w3.heap.size, 7, none⟩ = some (.string vf) := fun W hb => blk_cell (kept_on HV7 hb) 7
  have z0 : ∀ W, Below w7.heap.size w7 W → W.cell? ⟨w6.heap.size, 0, none⟩ = some (.string vs) := fun W hb => blk_cell (kept_on HW7 hb) 0
  have z1 : ∀ W, Below w7.heap.size w7 W → W.cell? ⟨w6.heap.size, 1, none⟩ = some (.bool vhh) := fun W hb => blk_cell (kept_on HW7 hb) 1
  have z2 : ∀ W, Below w7.heap.size w7 W → W.cell? ⟨w6.heap.size, 2, none⟩ = some (.string vh) := fun W hb => blk_cell (kept_on HW7 hb) 2
  have z3 : ∀ W, Below w7.heap.size w7 W → W.cell? ⟨w6.heap.size, 3, none⟩ = some (.string vp) := fun W hb => blk_cell (kept_on HW7 hb) 3
  have z4 : ∀ W, Below w7.heap.size w7 W → W.cell? ⟨w6.heap.size, 4, none⟩ = some (.bool vhq) := fun W hb => blk_cell (kept_on HW7 hb) 4
  have z5 : ∀ W, Below w7.heap.size w7 W → W.cell? ⟨w6.heap.size, 5, none⟩ = some (.string vq) := fun W hb => blk_cell (kept_on HW7 hb) 5
  have z6 : ∀ W, Below w7.heap.size w7 W → W.cell? ⟨w6.heap.size, 6, none⟩ = some (.bool vhf) := fun W hb => blk_cell (kept_on HW7 hb) 6
  have z7 : ∀ W, Below w7.heap.size w7 W → W.cell? ⟨w6.heap.size, 7, none⟩ = some (.string vf) := fun W hb => blk_cell (kept_on HW7 hb) 7
  have hcat : ¬ 9223372036854775807 < PD.size + SD.size := by omega
  have hmi : (mm : Int) ≤ (vp.size : Int) := by omega
  have hdi : (d : Int) ≤ (s.size : Int) := by omega
  have hdw : IntKind.i64.wrap ((s.size : Int) - (tl : Int)) = (d : Int) := by rw [hd]; exact wrap_small _ (by omega) (by omega)
  have hdw2 : IntKind.i64.wrap (d : Int) = (d : Int) := wrap_small _ (by omega) (by omega)
  go_region_held3 (fun w' => Below w7.heap.size w7 w') (first | assumption | exact h77.drew) (first
    | (go_at_call 16; refine (CF.out _).mono ?_; rintro e w8 ⟨rfl, hw8⟩; have hw8' := hw8.symm; subst hw8')
    | (go_at_call 18; refine (CT9.out _).mono ?_; rintro e w9 ⟨rfl, hb9⟩; have hb97 : Below w7.heap.size w7 w9 := (h77.drew).trans (hb9.mono (by simp)))
    | (go_at_call 17; refine (CS.out _).mono ?_; rintro e w10 ⟨rfl, hw10⟩; have hw10' := hw10.symm; subst hw10'))
  all_goals (
    go_wp2
    go_ret
    exact ⟨rfl, B7.trans (hb97.mono B7.size)⟩)

theorem printU_ok {u : UL} (h : checkU u = 0) : printU u = (textU u, 0) := by unfold printU; rw [if_pos h]
theorem printU_no {u : UL} (h : checkU u ≠ 0) : printU u = ([], checkU u) := by unfold printU; rw [if_neg h]
/-- The law URLBack. -/
theorem uback_any (u : UV) (s : ByteArray) (hu : u.short maxLen) (hs : s.size ≤ maxLen) (w : World) (hM : MaxAt w) :
    Calls Tryd.prog 4 #[u.v, .string s] w fun e w' => e = .returned (.bool true) ∧ Below w.heap.size w w' := by
  have CR := fun W => uprint_any u hu W
  have CP := fun W => uparse_any s hs W
  have CA := fun W (h : Below w.heap.size w W) => addr_any W (hM.below h)
  have hY : checkU u.l = 0 → ∀ W, Calls Tryd.prog 8 #[.string (bar (textU u.l))] W fun e w' => e = .returned (.tuple #[u.v, .int .i64 0]) ∧ Below W.heap.size W w' := fun h W => by
    have hl := (checkU_zero h).2.2.2
    have := uparse_any (bar (textU u.l)) (by rw [bar_size]; unfold maxLen; omega) W
    rw [bar_l, parse_text h] at this
    exact this
  by_cases hn : (parseU s.data.toList).2 = 0
  · obtain ⟨k1, k2, k3, k4, k5, k6, k7, k8⟩ := back_plain hn
    generalize parseU s.data.toList = VV at *
    obtain ⟨V, n1⟩ := VV
    simp only at hn k1 k2 k5 k6 k7 k8
    subst hn
    have hv : (ofL V).short 120 := checkU_short (u := ofL V) k1
    have hvm : (ofL V).short maxLen := hv.mono (by unfold maxLen; omega)
    have hsl := Lib.size_eq s
    have CR1 := fun W => uprint_any (ofL V) hvm W
    rw [ofL_l, printU_ok k1] at CR1
    have hl := (checkU_zero k1).2.2.2
    have CP1 := fun W => uparse_any (bar (textU V)) (by rw [bar_size]; unfold maxLen; omega) W
    rw [bar_l, k2] at CP1
    have CF := fun W => ufold_any (bar (textU V)) s (by rw [bar_size]; omega) k5 k4 W
    rw [bar_l, k6] at CF
    have CT9 := fun W => utail_any (ofL V) (hv.mono (by omega)) W
    rw [ofL_l] at CT9
    have hpl : V.pth.length ≤ 120 := by have := hv.2.2.1; rw [Lib.size_eq] at this; exact this
    have hCT : (bar (V.pth.drop (min V.pth.length 1)) ++ bar (s.data.toList.drop (s.data.toList.length - (tailU V).length))).data.toList = V.pth.drop (min V.pth.length 1) ++ s.data.toList.drop (s.data.toList.length - (tailU V).length) := data_app _ _
    have CS := fun W => Tryd.strings_HasSuffix s (bar (V.pth.drop (min V.pth.length 1)) ++ bar (s.data.toList.drop (s.data.toList.length - (tailU V).length))) W (by omega)
    rw [hCT, k8] at CS
    have e1 : (bar V.pth).size = V.pth.length := bar_size _
    have hPD : (bar V.pth).extract (min V.pth.length 1) (bar V.pth).size = bar (V.pth.drop (min V.pth.length 1)) := ext_drop _ _
    have hSD : s.extract (s.data.toList.length - (tailU V).length) s.size = bar (s.data.toList.drop (s.data.toList.length - (tailU V).length)) := ext_drop s.data.toList _
    obtain ⟨us, uhh, uh, up, uhq, uq, uhf, uf⟩ := u
    by_cases h0 : checkU (UV.l ⟨us, uhh, uh, up, uhq, uq, uhf, uf⟩) = 0
    · rw [printU_ok h0] at CR
      exact back_YO us uh up uq uf (bar V.sch) (bar V.hst) (bar V.pth) (bar V.qry) (bar V.frg) s (bar (textU (UV.l ⟨us, uhh, uh, up, uhq, uq, uhf, uf⟩))) (bar (textU V)) _ _ _ uhh uhq uhf V.hh V.hq V.hf _ _ _ (by omega) (by rw [e1]; omega) (by rw [e1]; omega) hPD (by rw [bar_size, List.length_drop]; omega) (by omega) (by omega) hSD (by rw [bar_size, List.length_drop]; omega) rfl w CR (hY h0) CP CA CR1 CP1 CF CT9 CS
    · rw [printU_no h0] at CR
      exact back_NO us uh up uq uf (bar V.sch) (bar V.hst) (bar V.pth) (bar V.qry) (bar V.frg) s (bar []) (bar (textU V)) _ _ _ uhh uhq uhf V.hh V.hq V.hf _ h0 _ _ _ (by omega) (by rw [e1]; omega) (by rw [e1]; omega) hPD (by rw [bar_size, List.length_drop]; omega) (by omega) (by omega) hSD (by rw [bar_size, List.length_drop]; omega) rfl w CR CP CA CR1 CP1 CF CT9 CS
  · generalize parseU s.data.toList = VV at *
    obtain ⟨V, n1⟩ := VV
    obtain ⟨us, uhh, uh, up, uhq, uq, uhf, uf⟩ := u
    by_cases h0 : checkU (UV.l ⟨us, uhh, uh, up, uhq, uq, uhf, uf⟩) = 0
    · rw [printU_ok h0] at CR
      exact back_YB us uh up uq uf (bar V.sch) (bar V.hst) (bar V.pth) (bar V.qry) (bar V.frg) s (bar (textU (UV.l ⟨us, uhh, uh, up, uhq, uq, uhf, uf⟩))) uhh uhq uhf V.hh V.hq V.hf n1 hn w CR (hY h0) CP CA
    · rw [printU_no h0] at CR
      exact back_NB us uh up uq uf (bar V.sch) (bar V.hst) (bar V.pth) (bar V.qry) (bar V.frg) s (bar []) uhh uhq uhf V.hh V.hq V.hf _ h0 n1 hn w CR CP CA
end Go.Proofs.YtjngeofnoogkfabDoor
