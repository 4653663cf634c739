/- The law URLSays: its walk, over what is known of the calls. -/
import Derived.Test.YtnfidloiediflabDoorRAbb
import Derived.Test.YtnfidloiediflabDoorUAddr
namespace Go.Proofs.YtnfidloiediflabDoor
open Go.RowKit

theorem lnewU (W : World) (o : Obj) : (W.alloc o).heap[W.heap.size]? = some o := by
  show (W.heap.push _)[W.heap.size]? = _
  rw [Array.getElem?_push, if_pos rfl]
set_option maxHeartbeats 8000000 in
set_option maxRecDepth 100000 in
theorem says_ok (us uh up uq uf vs vh vp vq vf ps ph pp pq pf xs xh xp xq xf s T : ByteArray) (uhh uhq uhf vhh vhq vhf phh phq phf xhh xhq xhf : Bool) (n1 n2 : Nat) (w : World)
    (CR : ∀ W, Below w.heap.size w W → Calls Tryd.prog 8 #[.agg (cellsU us uhh uh up uhq uq uhf uf)] W fun e w' => e = .returned (.tuple #[.string T, .int .i64 0]) ∧ Below W.heap.size W w')
    (CP : ∀ W, Below w.heap.size w W → Calls Tryd.prog 9 #[.string s] W fun e w' => e = .returned (.tuple #[.agg (cellsU ps phh ph pp phq pq phf pf), .int .i64 (n1 : Int)]) ∧ Below W.heap.size W w')
    (CL : ∀ W, Below w.heap.size w W → Calls Tryd.prog 10 #[.agg (cellsU us uhh uh up uhq uq uhf uf), .agg (cellsU vs vhh vh vp vhq vq vhf vf)] W fun e w' => e = .returned (.tuple #[.agg (cellsU xs xhh xh xp xhq xq xhf xf), .int .i64 (n2 : Int)]) ∧ Below W.heap.size W w')
    (CQ : ∀ W, Below w.heap.size w W → Calls Tryd.prog 11 #[.string s] W fun e w' => e = .returned (.tuple #[.agg (cellsU ps phh ph pp phq pq phf pf), .int .i64 (n1 : Int)]) ∧ Below W.heap.size W w')
    (CM : ∀ W, Below w.heap.size w W → Calls Tryd.prog 12 #[.agg (cellsU us uhh uh up uhq uq uhf uf), .agg (cellsU vs vhh vh vp vhq vq vhf vf)] W fun e w' => e = .returned (.tuple #[.agg (cellsU xs xhh xh xp xhq xq xhf xf), .int .i64 (n2 : Int)]) ∧ Below W.heap.size W w')
    (CK : ∀ W, Below w.heap.size w W → Calls Tryd.prog 13 #[.agg (cellsU us uhh uh up uhq uq uhf uf)] W fun e w' => e = .returned (.int .i64 0) ∧ Below W.heap.size W w')
    (CA : ∀ W, Below w.heap.size w W → Calls Tryd.prog 14 #[] W fun e w' => e = .returned (.bool true) ∧ Below W.heap.size W w')
    (CC : ∀ W, Below w.heap.size w W → Calls Tryd.prog 15 #[.agg (cellsU us uhh uh up uhq uq uhf uf)] W fun e w' => e = .returned (.int .i64 0) ∧ Below W.heap.size W w')
    (CT : ∀ W, Below w.heap.size w W → Calls Tryd.prog 16 #[.agg (cellsU us uhh uh up uhq uq uhf uf)] W fun e w' => e = .returned (.string T) ∧ Below W.heap.size W w')
    : Calls Tryd.prog 3 #[.agg (cellsU us uhh uh up uhq uq uhf uf), .agg (cellsU vs vhh vh vp vhq vq vhf vf), .string s] w fun e w' => e = .returned (.bool true) ∧ Below w.heap.size w w' := by
  have HCR : Hid (∀ W, Below w.heap.size w W → _) := CR
  clear CR
  have HCP : Hid (∀ W, Below w.heap.size w W → _) := CP
  clear CP
  have HCL : Hid (∀ W, Below w.heap.size w W → _) := CL
  clear CL
  have HCQ : Hid (∀ W, Below w.heap.size w W → _) := CQ
  clear CQ
  have HCM : Hid (∀ W, Below w.heap.size w W → _) := CM
  clear CM
  have HCK : Hid (∀ W, Below w.heap.size w W → _) := CK
  clear CK
  have HCA : Hid (∀ W, Below w.heap.size w W → _) := CA
  clear CA
  have HCC : Hid (∀ W, Below w.heap.size w W → _) := CC
  clear CC
  have HCT : Hid (∀ W, Below w.heap.size w W → _) := CT
  clear CT
  have k0 := two_new w 23 (cellsU us uhh uh up uhq uq uhf uf) (cellsU vs vhh vh vp vhq vq vhf vf)
  go_enter Tryd.func3, Tryd.ntmps3
  go_wp2_with fail
  obtain ⟨W0, hW0⟩ : ∃ W, W = (w.alloc (.cells (cellsU us uhh uh up uhq uq uhf uf) 23)).alloc (.cells (cellsU vs vhh vh vp vhq vq vhf vf) 23) := ⟨_, rfl⟩
  rw [← hW0] at k0
  rw [← hW0]
  clear hW0
  obtain ⟨b0, ku, kv⟩ := k0
  obtain ⟨cu0, cu1, cu2, cu3, cu4, cu5, cu6, cu7, cuf⟩ := cells_8 ku
  have ltu := kept_lt ku
  have lnu := kept_ltn ku
  go_wp2_with fail
  clear cu0 cu1 cu2 cu3 cu4 cu5 cu6 cu7 cuf ltu lnu
  refine (HCR.out _ b0).mono ?_
  rintro e Y1 ⟨rfl, hb1⟩
  replace ku := kept_on ku hb1
  replace kv := kept_on kv hb1
  have d1 := b0.trans (hb1.mono b0.size)
  clear hb1 b0 HCR
  go_wp2_with fail
  refine (HCP.out _ d1).mono ?_
  rintro e Y2 ⟨rfl, hb2⟩
  replace ku := kept_on ku hb2
  replace kv := kept_on kv hb2
  have d2 := d1.trans (hb2.mono d1.size)
  clear hb2 d1 HCP
  obtain ⟨cu0, cu1, cu2, cu3, cu4, cu5, cu6, cu7, cuf⟩ := cells_8 ku
  have ltu := kept_lt ku
  have lnu := kept_ltn ku
  obtain ⟨cv0, cv1, cv2, cv3, cv4, cv5, cv6, cv7, cvf⟩ := cells_8 kv
  have ltv := kept_lt kv
  have lnv := kept_ltn kv
  go_wp2_with fail
  obtain ⟨Z102, hZ102⟩ : ∃ W, W = Y2.alloc (.cells (cellsU ps phh ph pp phq pq phf pf) 23) := ⟨_, rfl⟩
  rw [← hZ102]
  replace ku := kept_alloc (o' := .cells (cellsU ps phh ph pp phq pq phf pf) 23) ku
  rw [← hZ102] at ku
  replace kv := kept_alloc (o' := .cells (cellsU ps phh ph pp phq pq phf pf) 23) kv
  rw [← hZ102] at kv
  have kp := lnewU Y2 (.cells (cellsU ps phh ph pp phq pq phf pf) 23)
  rw [← hZ102] at kp
  have f102 : Below w.heap.size w Z102 := by rw [hZ102]; exact d2.alloc d2.size _
  clear hZ102 d2
  clear cu0 cu1 cu2 cu3 cu4 cu5 cu6 cu7 cuf cv0 cv1 cv2 cv3 cv4 cv5 cv6 cv7 cvf ltu lnu ltv lnv
  refine (HCL.out _ f102).mono ?_
  rintro e Y3 ⟨rfl, hb3⟩
  replace ku := kept_on ku hb3
  replace kv := kept_on kv hb3
  replace kp := kept_on kp hb3
  have d3 := f102.trans (hb3.mono f102.size)
  clear hb3 f102 HCL
  go_wp2_with fail
  obtain ⟨Z103, hZ103⟩ : ∃ W, W = Y3.alloc (.cells (cellsU xs xhh xh xp xhq xq xhf xf) 23) := ⟨_, rfl⟩
  rw [← hZ103]
  replace ku := kept_alloc (o' := .cells (cellsU xs xhh xh xp xhq xq xhf xf) 23) ku
  rw [← hZ103] at ku
  replace kv := kept_alloc (o' := .cells (cellsU xs xhh xh xp xhq xq xhf xf) 23) kv
  rw [← hZ103] at kv
  replace kp := kept_alloc (o' := .cells (cellsU xs xhh xh xp xhq xq xhf xf) 23) kp
  rw [← hZ103] at kp
  have kl := lnewU Y3 (.cells (cellsU xs xhh xh xp xhq xq xhf xf) 23)
  rw [← hZ103] at kl
  have f103 : Below w.heap.size w Z103 := by rw [hZ103]; exact d3.alloc d3.size _
  clear hZ103 d3
  refine (HCQ.out _ f103).mono ?_
  rintro e Y4 ⟨rfl, hb4⟩
  replace ku := kept_on ku hb4
  replace kv := kept_on kv hb4
  replace kp := kept_on kp hb4
  replace kl := kept_on kl hb4
  have d4 := f103.trans (hb4.mono f103.size)
  clear hb4 f103 HCQ
  obtain ⟨cu0, cu1, cu2, cu3, cu4, cu5, cu6, cu7, cuf⟩ := cells_8 ku
  have ltu := kept_lt ku
  have lnu := kept_ltn ku
  obtain ⟨cv0, cv1, cv2, cv3, cv4, cv5, cv6, cv7, cvf⟩ := cells_8 kv
  have ltv := kept_lt kv
  have lnv := kept_ltn kv
  go_wp2_with fail
  obtain ⟨Z104, hZ104⟩ : ∃ W, W = Y4.alloc (.cells (cellsU ps phh ph pp phq pq phf pf) 23) := ⟨_, rfl⟩
  rw [← hZ104]
  replace ku := kept_alloc (o' := .cells (cellsU ps phh ph pp phq pq phf pf) 23) ku
  rw [← hZ104] at ku
  replace kv := kept_alloc (o' := .cells (cellsU ps phh ph pp phq pq phf pf) 23) kv
  rw [← hZ104] at kv
  replace kp := kept_alloc (o' := .cells (cellsU ps phh ph pp phq pq phf pf) 23) kp
  rw [← hZ104] at kp
  replace kl := kept_alloc (o' := .cells (cellsU ps phh ph pp phq pq phf pf) 23) kl
  rw [← hZ104] at kl
  have kP := lnewU Y4 (.cells (cellsU ps phh ph pp phq pq phf pf) 23)
  rw [← hZ104] at kP
  have f104 : Below w.heap.size w Z104 := by rw [hZ104]; exact d4.alloc d4.size _
  clear hZ104 d4
  clear cu0 cu1 cu2 cu3 cu4 cu5 cu6 cu7 cuf cv0 cv1 cv2 cv3 cv4 cv5 cv6 cv7 cvf ltu lnu ltv lnv
  refine (HCM.out _ f104).mono ?_
  rintro e Y5 ⟨rfl, hb5⟩
  replace ku := kept_on ku hb5
  replace kv := kept_on kv hb5
  replace kp := kept_on kp hb5
  replace kl := kept_on kl hb5
  replace kP := kept_on kP hb5
  have d5 := f104.trans (hb5.mono f104.size)
  clear hb5 f104 HCM
  obtain ⟨cu0, cu1, cu2, cu3, cu4, cu5, cu6, cu7, cuf⟩ := cells_8 ku
  have ltu := kept_lt ku
  have lnu := kept_ltn ku
  go_wp2_with fail
  obtain ⟨Z105, hZ105⟩ : ∃ W, W = Y5.alloc (.cells (cellsU xs xhh xh xp xhq xq xhf xf) 23) := ⟨_, rfl⟩
  rw [← hZ105]
  replace ku := kept_alloc (o' := .cells (cellsU xs xhh xh xp xhq xq xhf xf) 23) ku
  rw [← hZ105] at ku
  replace kv := kept_alloc (o' := .cells (cellsU xs xhh xh xp xhq xq xhf xf) 23) kv
  rw [← hZ105] at kv
  replace kp := kept_alloc (o' := .cells (cellsU xs xhh xh xp xhq xq xhf xf) 23) kp
  rw [← hZ105] at kp
  replace kl := kept_alloc (o' := .cells (cellsU xs xhh xh xp xhq xq xhf xf) 23) kl
  rw [← hZ105] at kl
  replace kP := kept_alloc (o' := .cells (cellsU xs xhh xh xp xhq xq xhf xf) 23) kP
  rw [← hZ105] at kP
  have kL := lnewU Y5 (.cells (cellsU xs xhh xh xp xhq xq xhf xf) 23)
  rw [← hZ105] at kL
  have f105 : Below w.heap.size w Z105 := by rw [hZ105]; exact d5.alloc d5.size _
  clear hZ105 d5
  clear cu0 cu1 cu2 cu3 cu4 cu5 cu6 cu7 cuf ltu lnu
  refine (HCK.out _ f105).mono ?_
  rintro e Y6 ⟨rfl, hb6⟩
  replace ku := kept_on ku hb6
  replace kv := kept_on kv hb6
  replace kp := kept_on kp hb6
  replace kl := kept_on kl hb6
  replace kP := kept_on kP hb6
  replace kL := kept_on kL hb6
  have d6 := f105.trans (hb6.mono f105.size)
  clear hb6 f105 HCK
  go_wp2_with fail
  refine (HCA.out _ d6).mono ?_
  rintro e Y7 ⟨rfl, hb7⟩
  replace ku := kept_on ku hb7
  replace kv := kept_on kv hb7
  replace kp := kept_on kp hb7
  replace kl := kept_on kl hb7
  replace kP := kept_on kP hb7
  replace kL := kept_on kL hb7
  have d7 := d6.trans (hb7.mono d6.size)
  clear hb7 d6 HCA
  obtain ⟨cu0, cu1, cu2, cu3, cu4, cu5, cu6, cu7, cuf⟩ := cells_8 ku
  have ltu := kept_lt ku
  have lnu := kept_ltn ku
  go_wp2_with fail
  clear cu0 cu1 cu2 cu3 cu4 cu5 cu6 cu7 cuf ltu lnu
  refine (HCC.out _ d7).mono ?_
  rintro e Y8 ⟨rfl, hb8⟩
  replace ku := kept_on ku hb8
  replace kv := kept_on kv hb8
  replace kp := kept_on kp hb8
  replace kl := kept_on kl hb8
  replace kP := kept_on kP hb8
  replace kL := kept_on kL hb8
  have d8 := d7.trans (hb8.mono d7.size)
  clear hb8 d7 HCC
  obtain ⟨cu0, cu1, cu2, cu3, cu4, cu5, cu6, cu7, cuf⟩ := cells_8 ku
  have ltu := kept_lt ku
  have lnu := kept_ltn ku
  go_wp2_with fail
  clear cu0 cu1 cu2 cu3 cu4 cu5 cu6 cu7 cuf ltu lnu
  refine (HCT.out _ d8).mono ?_
  rintro e Y9 ⟨rfl, hb9⟩
  replace ku := kept_on ku hb9
  replace kv := kept_on kv hb9
  replace kp := kept_on kp hb9
  replace kl := kept_on kl hb9
  replace kP := kept_on kP hb9
  replace kL := kept_on kL hb9
  have d9 := d8.trans (hb9.mono d8.size)
  clear hb9 d8 HCT
  obtain ⟨cp0, cp1, cp2, cp3, cp4, cp5, cp6, cp7, cpf⟩ := cells_8 kp
  have ltp := kept_lt kp
  have lnp := kept_ltn kp
  obtain ⟨cl0, cl1, cl2, cl3, cl4, cl5, cl6, cl7, clf⟩ := cells_8 kl
  have ltl := kept_lt kl
  have lnl := kept_ltn kl
  obtain ⟨cP0, cP1, cP2, cP3, cP4, cP5, cP6, cP7, cPf⟩ := cells_8 kP
  have ltP := kept_lt kP
  have lnP := kept_ltn kP
  obtain ⟨cL0, cL1, cL2, cL3, cL4, cL5, cL6, cL7, cLf⟩ := cells_8 kL
  have ltL := kept_lt kL
  have lnL := kept_ltn kL
  go_wp2_with fail
  go_ret
  exact ⟨rfl, d9⟩
set_option maxHeartbeats 8000000 in
set_option maxRecDepth 100000 in
theorem says_no (us uh up uq uf vs vh vp vq vf ps ph pp pq pf xs xh xp xq xf s : ByteArray) (uhh uhq uhf vhh vhq vhf phh phq phf xhh xhq xhf : Bool) (n0 n1 n2 : Nat) (hn0 : n0 ≠ 0) (w : World)
    (CR : ∀ W, Below w.heap.size w W → Calls Tryd.prog 8 #[.agg (cellsU us uhh uh up uhq uq uhf uf)] W fun e w' => e = .returned (.tuple #[.string E0, .int .i64 (n0 : Int)]) ∧ Below W.heap.size W w')
    (CP : ∀ W, Below w.heap.size w W → Calls Tryd.prog 9 #[.string s] W fun e w' => e = .returned (.tuple #[.agg (cellsU ps phh ph pp phq pq phf pf), .int .i64 (n1 : Int)]) ∧ Below W.heap.size W w')
    (CL : ∀ W, Below w.heap.size w W → Calls Tryd.prog 10 #[.agg (cellsU us uhh uh up uhq uq uhf uf), .agg (cellsU vs vhh vh vp vhq vq vhf vf)] W fun e w' => e = .returned (.tuple #[.agg (cellsU xs xhh xh xp xhq xq xhf xf), .int .i64 (n2 : Int)]) ∧ Below W.heap.size W w')
    (CQ : ∀ W, Below w.heap.size w W → Calls Tryd.prog 11 #[.string s] W fun e w' => e = .returned (.tuple #[.agg (cellsU ps phh ph pp phq pq phf pf), .int .i64 (n1 : Int)]) ∧ Below W.heap.size W w')
    (CM : ∀ W, Below w.heap.size w W → Calls Tryd.prog 12 #[.agg (cellsU us uhh uh up uhq uq uhf uf), .agg (cellsU vs vhh vh vp vhq vq vhf vf)] W fun e w' => e = .returned (.tuple #[.agg (cellsU xs xhh xh xp xhq xq xhf xf), .int .i64 (n2 : Int)]) ∧ Below W.heap.size W w')
    (CK : ∀ W, Below w.heap.size w W → Calls Tryd.prog 13 #[.agg (cellsU us uhh uh up uhq uq uhf uf)] W fun e w' => e = .returned (.int .i64 (n0 : Int)) ∧ Below W.heap.size W w')
    (CA : ∀ W, Below w.heap.size w W → Calls Tryd.prog 14 #[] W fun e w' => e = .returned (.bool true) ∧ Below W.heap.size W w')
    (CC : ∀ W, Below w.heap.size w W → Calls Tryd.prog 15 #[.agg (cellsU us uhh uh up uhq uq uhf uf)] W fun e w' => e = .returned (.int .i64 (n0 : Int)) ∧ Below W.heap.size W w')
    : Calls Tryd.prog 3 #[.agg (cellsU us uhh uh up uhq uq uhf uf), .agg (cellsU vs vhh vh vp vhq vq vhf vf), .string s] w fun e w' => e = .returned (.bool true) ∧ Below w.heap.size w w' := by
  have HCR : Hid (∀ W, Below w.heap.size w W → _) := CR
  clear CR
  have HCP : Hid (∀ W, Below w.heap.size w W → _) := CP
  clear CP
  have HCL : Hid (∀ W, Below w.heap.size w W → _) := CL
  clear CL
  have HCQ : Hid (∀ W, Below w.heap.size w W → _) := CQ
  clear CQ
  have HCM : Hid (∀ W, Below w.heap.size w W → _) := CM
  clear CM
  have HCK : Hid (∀ W, Below w.heap.size w W → _) := CK
  clear CK
  have HCA : Hid (∀ W, Below w.heap.size w W → _) := CA
  clear CA
  have HCC : Hid (∀ W, Below w.heap.size w W → _) := CC
  clear CC
  have hz0 : ¬ (n0 : Int) = 0 := by omega
  have k0 := two_new w 23 (cellsU us uhh uh up uhq uq uhf uf) (cellsU vs vhh vh vp vhq vq vhf vf)
  go_enter Tryd.func3, Tryd.ntmps3
  go_wp2_with fail
  obtain ⟨W0, hW0⟩ : ∃ W, W = (w.alloc (.cells (cellsU us uhh uh up uhq uq uhf uf) 23)).alloc (.cells (cellsU vs vhh vh vp vhq vq vhf vf) 23) := ⟨_, rfl⟩
  rw [← hW0] at k0
  rw [← hW0]
  clear hW0
  obtain ⟨b0, ku, kv⟩ := k0
  obtain ⟨cu0, cu1, cu2, cu3, cu4, cu5, cu6, cu7, cuf⟩ := cells_8 ku
  have ltu := kept_lt ku
  have lnu := kept_ltn ku
  go_wp2_with fail
  clear cu0 cu1 cu2 cu3 cu4 cu5 cu6 cu7 cuf ltu lnu
  refine (HCR.out _ b0).mono ?_
  rintro e Y1 ⟨rfl, hb1⟩
  replace ku := kept_on ku hb1
  replace kv := kept_on kv hb1
  have d1 := b0.trans (hb1.mono b0.size)
  clear hb1 b0 HCR
  go_wp2_with fail
  refine (HCP.out _ d1).mono ?_
  rintro e Y2 ⟨rfl, hb2⟩
  replace ku := kept_on ku hb2
  replace kv := kept_on kv hb2
  have d2 := d1.trans (hb2.mono d1.size)
  clear hb2 d1 HCP
  obtain ⟨cu0, cu1, cu2, cu3, cu4, cu5, cu6, cu7, cuf⟩ := cells_8 ku
  have ltu := kept_lt ku
  have lnu := kept_ltn ku
  obtain ⟨cv0, cv1, cv2, cv3, cv4, cv5, cv6, cv7, cvf⟩ := cells_8 kv
  have ltv := kept_lt kv
  have lnv := kept_ltn kv
  go_wp2_with fail
  obtain ⟨Z102, hZ102⟩ : ∃ W, W = Y2.alloc (.cells (cellsU ps phh ph pp phq pq phf pf) 23) := ⟨_, rfl⟩
  rw [← hZ102]
  replace ku := kept_alloc (o' := .cells (cellsU ps phh ph pp phq pq phf pf) 23) ku
  rw [← hZ102] at ku
  replace kv := kept_alloc (o' := .cells (cellsU ps phh ph pp phq pq phf pf) 23) kv
  rw [← hZ102] at kv
  have kp := lnewU Y2 (.cells (cellsU ps phh ph pp phq pq phf pf) 23)
  rw [← hZ102] at kp
  have f102 : Below w.heap.size w Z102 := by rw [hZ102]; exact d2.alloc d2.size _
  clear hZ102 d2
  clear cu0 cu1 cu2 cu3 cu4 cu5 cu6 cu7 cuf cv0 cv1 cv2 cv3 cv4 cv5 cv6 cv7 cvf ltu lnu ltv lnv
  refine (HCL.out _ f102).mono ?_
  rintro e Y3 ⟨rfl, hb3⟩
  replace ku := kept_on ku hb3
  replace kv := kept_on kv hb3
  replace kp := kept_on kp hb3
  have d3 := f102.trans (hb3.mono f102.size)
  clear hb3 f102 HCL
  go_wp2_with fail
  obtain ⟨Z103, hZ103⟩ : ∃ W, W = Y3.alloc (.cells (cellsU xs xhh xh xp xhq xq xhf xf) 23) := ⟨_, rfl⟩
  rw [← hZ103]
  replace ku := kept_alloc (o' := .cells (cellsU xs xhh xh xp xhq xq xhf xf) 23) ku
  rw [← hZ103] at ku
  replace kv := kept_alloc (o' := .cells (cellsU xs xhh xh xp xhq xq xhf xf) 23) kv
  rw [← hZ103] at kv
  replace kp := kept_alloc (o' := .cells (cellsU xs xhh xh xp xhq xq xhf xf) 23) kp
  rw [← hZ103] at kp
  have kl := lnewU Y3 (.cells (cellsU xs xhh xh xp xhq xq xhf xf) 23)
  rw [← hZ103] at kl
  have f103 : Below w.heap.size w Z103 := by rw [hZ103]; exact d3.alloc d3.size _
  clear hZ103 d3
  refine (HCQ.out _ f103).mono ?_
  rintro e Y4 ⟨rfl, hb4⟩
  replace ku := kept_on ku hb4
  replace kv := kept_on kv hb4
  replace kp := kept_on kp hb4
  replace kl := kept_on kl hb4
  have d4 := f103.trans (hb4.mono f103.size)
  clear hb4 f103 HCQ
  obtain ⟨cu0, cu1, cu2, cu3, cu4, cu5, cu6, cu7, cuf⟩ := cells_8 ku
  have ltu := kept_lt ku
  have lnu := kept_ltn ku
  obtain ⟨cv0, cv1, cv2, cv3, cv4, cv5, cv6, cv7, cvf⟩ := cells_8 kv
  have ltv := kept_lt kv
  have lnv := kept_ltn kv
  go_wp2_with fail
  obtain ⟨Z104, hZ104⟩ : ∃ W, W = Y4.alloc (.cells (cellsU ps phh ph pp phq pq phf pf) 23) := ⟨_, rfl⟩
  rw [← hZ104]
  replace ku := kept_alloc (o' := .cells (cellsU ps phh ph pp phq pq phf pf) 23) ku
  rw [← hZ104] at ku
  replace kv := kept_alloc (o' := .cells (cellsU ps phh ph pp phq pq phf pf) 23) kv
  rw [← hZ104] at kv
  replace kp := kept_alloc (o' := .cells (cellsU ps phh ph pp phq pq phf pf) 23) kp
  rw [← hZ104] at kp
  replace kl := kept_alloc (o' := .cells (cellsU ps phh ph pp phq pq phf pf) 23) kl
  rw [← hZ104] at kl
  have kP := lnewU Y4 (.cells (cellsU ps phh ph pp phq pq phf pf) 23)
  rw [← hZ104] at kP
  have f104 : Below w.heap.size w Z104 := by rw [hZ104]; exact d4.alloc d4.size _
  clear hZ104 d4
  clear cu0 cu1 cu2 cu3 cu4 cu5 cu6 cu7 cuf cv0 cv1 cv2 cv3 cv4 cv5 cv6 cv7 cvf ltu lnu ltv lnv
  refine (HCM.out _ f104).mono ?_
  rintro e Y5 ⟨rfl, hb5⟩
  replace ku := kept_on ku hb5
  replace kv := kept_on kv hb5
  replace kp := kept_on kp hb5
  replace kl := kept_on kl hb5
  replace kP := kept_on kP hb5
  have d5 := f104.trans (hb5.mono f104.size)
  clear hb5 f104 HCM
  obtain ⟨cu0, cu1, cu2, cu3, cu4, cu5, cu6, cu7, cuf⟩ := cells_8 ku
  have ltu := kept_lt ku
  have lnu := kept_ltn ku
  go_wp2_with fail
  obtain ⟨Z105, hZ105⟩ : ∃ W, W = Y5.alloc (.cells (cellsU xs xhh xh xp xhq xq xhf xf) 23) := ⟨_, rfl⟩
  rw [← hZ105]
  replace ku := kept_alloc (o' := .cells (cellsU xs xhh xh xp xhq xq xhf xf) 23) ku
  rw [← hZ105] at ku
  replace kv := kept_alloc (o' := .cells (cellsU xs xhh xh xp xhq xq xhf xf) 23) kv
  rw [← hZ105] at kv
  replace kp := kept_alloc (o' := .cells (cellsU xs xhh xh xp xhq xq xhf xf) 23) kp
  rw [← hZ105] at kp
  replace kl := kept_alloc (o' := .cells (cellsU xs xhh xh xp xhq xq xhf xf) 23) kl
  rw [← hZ105] at kl
  replace kP := kept_alloc (o' := .cells (cellsU xs xhh xh xp xhq xq xhf xf) 23) kP
  rw [← hZ105] at kP
  have kL := lnewU Y5 (.cells (cellsU xs xhh xh xp xhq xq xhf xf) 23)
  rw [← hZ105] at kL
  have f105 : Below w.heap.size w Z105 := by rw [hZ105]; exact d5.alloc d5.size _
  clear hZ105 d5
  clear cu0 cu1 cu2 cu3 cu4 cu5 cu6 cu7 cuf ltu lnu
  refine (HCK.out _ f105).mono ?_
  rintro e Y6 ⟨rfl, hb6⟩
  replace ku := kept_on ku hb6
  replace kv := kept_on kv hb6
  replace kp := kept_on kp hb6
  replace kl := kept_on kl hb6
  replace kP := kept_on kP hb6
  replace kL := kept_on kL hb6
  have d6 := f105.trans (hb6.mono f105.size)
  clear hb6 f105 HCK
  go_wp2_with fail
  refine (HCA.out _ d6).mono ?_
  rintro e Y7 ⟨rfl, hb7⟩
  replace ku := kept_on ku hb7
  replace kv := kept_on kv hb7
  replace kp := kept_on kp hb7
  replace kl := kept_on kl hb7
  replace kP := kept_on kP hb7
  replace kL := kept_on kL hb7
  have d7 := d6.trans (hb7.mono d6.size)
  clear hb7 d6 HCA
  obtain ⟨cu0, cu1, cu2, cu3, cu4, cu5, cu6, cu7, cuf⟩ := cells_8 ku
  have ltu := kept_lt ku
  have lnu := kept_ltn ku
  go_wp2_with fail
  clear cu0 cu1 cu2 cu3 cu4 cu5 cu6 cu7 cuf ltu lnu
  refine (HCC.out _ d7).mono ?_
  rintro e Y8 ⟨rfl, hb8⟩
  replace ku := kept_on ku hb8
  replace kv := kept_on kv hb8
  replace kp := kept_on kp hb8
  replace kl := kept_on kl hb8
  replace kP := kept_on kP hb8
  replace kL := kept_on kL hb8
  have d8 := d7.trans (hb8.mono d7.size)
  clear hb8 d7 HCC
  obtain ⟨cp0, cp1, cp2, cp3, cp4, cp5, cp6, cp7, cpf⟩ := cells_8 kp
  have ltp := kept_lt kp
  have lnp := kept_ltn kp
  obtain ⟨cl0, cl1, cl2, cl3, cl4, cl5, cl6, cl7, clf⟩ := cells_8 kl
  have ltl := kept_lt kl
  have lnl := kept_ltn kl
  obtain ⟨cP0, cP1, cP2, cP3, cP4, cP5, cP6, cP7, cPf⟩ := cells_8 kP
  have ltP := kept_lt kP
  have lnP := kept_ltn kP
  obtain ⟨cL0, cL1, cL2, cL3, cL4, cL5, cL6, cL7, cLf⟩ := cells_8 kL
  have ltL := kept_lt kL
  have lnL := kept_ltn kL
  go_wp2_with fail
  go_ret
  exact ⟨ret_bool (show ((n0 : Int) != 0) = true by simpa using hz0), d8⟩
end Go.Proofs.YtnfidloiediflabDoor
