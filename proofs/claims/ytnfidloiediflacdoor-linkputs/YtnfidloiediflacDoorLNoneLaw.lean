/- LinkNone's walk: it answers true; nothing that was there is changed. -/
import Derived.Test.YtnfidloiediflacDoorLNoneP
namespace Go.Proofs.YtnfidloiediflacDoor
open Go.RowKit

theorem info_strL : (Tryd.prog.info? 9).map (fun i => (i.zero, i.size, i.bytes)) = some (some (.string ⟨#[]⟩), 1, 16) := by kernel_rfl
theorem made_str (n : Nat) : (madeCells #[Value.string ⟨#[]⟩] n).toList = List.replicate n (.string ⟨#[]⟩) := by
  apply List.ext_getElem?
  intro i
  have h : ∀ x, [Value.string ⟨#[]⟩][x % 1]?.getD default = .string ⟨#[]⟩ := fun x => by rw [Nat.mod_one]; rfl
  simp [madeCells, h]
  by_cases hi : i < n
  · rw [List.getElem?_range hi, List.getElem?_replicate, if_pos hi]; rfl
  · rw [List.getElem?_eq_none (by simp; omega), List.getElem?_replicate, if_neg hi]; rfl
theorem srow_made {w : World} {B g n : Nat} (h : w.ownsRow B 9 1 (.slice (some ⟨g, 0, none⟩) n n) n (madeCells #[Value.string ⟨#[]⟩] n).toList) : TxRow w (some ⟨g, 0, none⟩) (List.replicate n ⟨#[]⟩) := by
  rw [made_str] at h
  intro hne
  refine ⟨g, 0, rfl, fun i hi => ?_⟩
  rw [List.length_replicate] at hi
  rw [Nat.zero_add, h.cellAt i (by omega)]
  simp [hi, List.getD_eq_getElem?_getD]
theorem equal_bytes (p1 p2 : Option Addr) (n c d : Nat) (L : List UInt8) (en : n = L.length) (w : World) (hn : n ≤ maxLen) (h1 : BRow w p1 L) (h2 : BRow w p2 L) :
    Calls Tryd.prog 9 #[.slice p1 n c, .slice p2 n d] w fun e w' => e = .returned (.bool true) ∧ ∃ q, w' = w.drewN q := by
  subst en
  refine (equalBytes p1 p2 L.length L.length c d (nums L) (nums L) w hn hn (brow_row h1) (brow_row h2)).mono ?_
  rintro e w' ⟨rfl, q, rfl⟩
  exact ⟨by simp, q, rfl⟩
set_option maxHeartbeats 8000000 in
set_option maxRecDepth 100000 in
/-- Where Find finds an error. -/
theorem none_err (q q2 : Option Addr) (n c n2 c2 : Nat) (b : List UInt8) (en : n = b.length) (w : World) (HE : LEnv w) (hr : BRow w q b) (hq : q = none → n = 0 ∧ c = 0) (hf : findP lowT b = none) :
    Calls Tryd.prog 4 #[.slice q n c, .slice q2 n2 c2] w fun e w' => e = .returned (.bool true) ∧ Below w.heap.size w w' := by
  have CF := find_any w HE q n c b en w (Below.refl _ _) hr hq
  rw [hf] at CF
  have CF' : Hid (Calls Tryd.prog 5 #[.slice q n c] w fun e w' => Below w.heap.size w w' ∧ e = .returned (.tuple #[.slice none 0 0, .int .i64 2])) := CF
  have CL : Hid (∀ W, Below w.heap.size w W → Calls Tryd.prog 6 #[] W fun e w' => e = .returned (.bool true) ∧ Below W.heap.size W w') := fun W h => linked_any w HE W h
  clear CF hf HE hr hq en
  go_enter Tryd.func4, Tryd.ntmps4
  go_wp2_with fail
  refine CF'.out.mono ?_
  rintro e w1 ⟨hb1, rfl⟩
  clear CF'
  go_wp2_with fail
  refine (CL.out _ hb1).mono ?_
  rintro e w2 ⟨rfl, hb2⟩
  have hbw2 := hb1.trans (hb2.mono hb1.size)
  clear hb1 hb2
  go_wp2_with fail
  refine (CL.out _ hbw2).mono ?_
  rintro e w3 ⟨rfl, hb3⟩
  have hbw3 := hbw2.trans (hb3.mono hbw2.size)
  clear hbw2 hb3 CL
  go_wp2_with fail
  go_ret
  exact ⟨rfl, hbw3⟩
set_option maxHeartbeats 16000000 in
set_option maxRecDepth 100000 in
theorem none_some (q q2 : Option Addr) (n c n2 c2 : Nat) (b d : List UInt8) (en : n = b.length) (en2 : n2 = d.length) (w : World) (HE : LEnv w) (hr : BRow w q b) (hr2 : BRow w q2 d) (hq : q = none → n = 0 ∧ c = 0) (hq2 : q2 = none → n2 = 0 ∧ c2 = 0) (hnc : n ≤ c) (hcm : c ≤ maxLen) (hn2 : n2 ≤ 140737488351232)
    (l : List LK) (hf : findP lowT b = some l) :
    Calls Tryd.prog 4 #[.slice q n c, .slice q2 n2 c2] w fun e w' => e = .returned (.bool true) ∧ Below w.heap.size w w' := by
  obtain ⟨i0, hi, hz0, hz1, hz2⟩ := info_parts info_strL
  obtain ⟨_, hl60, h4⟩ := find_ord lowT b l hf
  have hn4 : n ≤ 4000 := by omega
  have CF := find_any w HE q n c b en w (Below.refl _ _) hr hq
  rw [hf] at CF
  have CF' : Hid (Calls Tryd.prog 5 #[.slice q n c] w fun e w' => Below w.heap.size w w' ∧ ∃ v, e = .returned (.tuple #[v, .int .i64 0]) ∧ w'.ownsRow w.heap.size 32 3 v l.length (lv b.length l)) := CF
  have CL : Hid (∀ W, Below w.heap.size w W → Calls Tryd.prog 6 #[] W fun e w' => e = .returned (.bool true) ∧ Below W.heap.size W w') := fun W h => linked_any w HE W h
  have CC : Hid (∀ W, Below w.heap.size w W → Calls Tryd.prog 8 #[.slice q n c, .int .u8 60] W fun e w' => e = .returned (.bool (b.contains 60)) ∧ w' = W) := fun W h => contains_any q n c b en 60 60 rfl W (by omega) (hr.below h)
  have HLZ : Hid (b.contains 60 = false → l.length = 0) := fun h => by
    have h1 := find_noL b h h4
    rw [hf] at h1
    cases h1
    rfl
  have CP : Hid (∀ a W, Below w.heap.size w W → TxRow W a (List.replicate l.length ⟨#[]⟩) → Calls Tryd.prog 7 #[.slice q n c, .slice a l.length l.length] W fun e w' => Below W.heap.size W w' ∧ ∃ p c', e = .returned (.tuple #[.slice p n c', .int .i64 0]) ∧ n ≤ c' ∧ c' ≤ maxLen ∧ BRow w' p b) := fun a W h hs => by
    have h1 := put_any w HE q n c b en hnc hcm a l.length l.length (List.replicate l.length ⟨#[]⟩) (by simp) (by unfold maxLen; omega) (fun t ht => by rw [List.eq_of_mem_replicate ht]; decide) W h (hr.below h) hq hs
    rw [put_noL b l hf (tls (List.replicate l.length ⟨#[]⟩)) (by simp [tls])] at h1
    refine h1.mono ?_
    rintro e w' ⟨g1, g2⟩
    rcases g2 with ⟨g3, _⟩ | ⟨_, v, rfl, g4⟩
    · exact absurd rfl g3
    · obtain ⟨p, c', rfl, k1, k2, _, k3⟩ := owned_row g4
      simp only at *
      exact ⟨g1, p, c', by rw [en], by rw [en]; exact k1, k2, k3⟩
  have CE : Hid (∀ p c' W, BRow W p b → Below w.heap.size w W → Calls Tryd.prog 9 #[.slice p n c', .slice q n c] W fun e w' => e = .returned (.bool true) ∧ ∃ q, w' = W.drewN q) := fun p c' W h1 h2 => equal_bytes p q n c' c b en W (by unfold maxLen; omega) h1 (hr.below h2)
  have HR : Hid (BRow w q b) := hr
  have HR2 : Hid (BRow w q2 d) := hr2
  have HQ : Hid (q = none → n = 0 ∧ c = 0) := hq
  have HQ2 : Hid (q2 = none → n2 = 0 ∧ c2 = 0) := hq2
  have HEN : Hid (n = b.length ∧ n2 = d.length) := ⟨en, en2⟩
  have HEV : Hid (LEnv w) := HE
  clear CF hf hr hr2 hq hq2 en en2 HE hcm
  have HBL : Hid (b.length ≤ 4000) := h4
  clear h4
  go_enter Tryd.func4, Tryd.ntmps4
  go_wp2_with fail
  refine CF'.out.mono ?_
  rintro e w1 ⟨hb1, v1, rfl, own1⟩
  obtain ⟨a1, c1, rfl, h1a, h1b, _, _⟩ := owned_links own1
  clear CF' own1
  go_wp2_with fail
  refine (CL.out _ hb1).mono ?_
  rintro e w2 ⟨rfl, hb2⟩
  have hbw2 := hb1.trans (hb2.mono hb1.size)
  clear hb1 hb2 CL
  go_wp2_with fail
  refine (CC.out _ hbw2).mono ?_
  rintro e w3 ⟨rfl, hw3⟩
  have hw4 := hw3.symm
  subst hw4
  clear hw3
  have hs2 := hbw2.size
  have hll : l.length ≤ 60 := hl60
  cases hct : b.contains 60 with
  | true =>
    rw [hct] at CC
    clear HLZ HR2 HQ2
    generalize l.length = nl at *
    go_wp2_with (at_make; refine wpList_make_full _ rfl _ _ 23 rfl w.heap.size 9 i0 (.string ⟨#[]⟩) 1 Tryd.underlying23 hi hz0 hz1 .i64 .i64 _ _ nl rfl rfl rfl rfl (by rw [hz2]; omega) (by unfold maxLen; omega) hs2 ?_)
    intro w4 own4 hg4
    have hb4 : Below w2.heap.size w2 w4 := (Below.refl _ _).grown hg4 (Nat.le_refl _) (fun k hk => by cases hk)
    have hbw4 := hbw2.trans (hb4.mono hs2)
    have HS4 := srow_made own4
    clear own4 hg4 hb4
    go_wp2_with fail
    refine (CP.out _ _ hbw4 HS4).mono ?_
    rintro e w5 ⟨hb5, p5, c5, rfl, h5a, h5b, hr5⟩
    have hbw5 := hbw4.trans (hb5.mono hbw4.size)
    have HR5 : Hid (BRow w5 p5 b) := hr5
    clear hb5 hr5 HS4 CP hbw4
    go_wp2_with fail
    refine (CE.out p5 c5 w5 HR5.out hbw5).mono ?_
    rintro e w6 ⟨rfl, n6, rfl⟩
    have hbw6 := below_many hbw5 n6
    have HR6 : Hid (BRow (w5.drewN n6) p5 b) := HR5.out
    clear hbw5 HR5
    generalize w5.drewN n6 = w6 at *
    go_wp2_with fail
    refine (CC.out _ hbw6).mono ?_
    rintro e w7 ⟨rfl, hw7⟩
    have hw8 := hw7.symm
    subst hw8
    go_wp2_with fail
    refine (CE.out p5 c5 _ HR6.out hbw6).mono ?_
    rintro e w8 ⟨rfl, n8, rfl⟩
    have hbw8 := below_many hbw6 n8
    clear hbw6
    go_wp2_with fail
    go_ret
    exact ⟨rfl, hbw8⟩
  | false =>
    have hl0 := HLZ.out hct
    rw [hct] at CC
    rw [hl0] at CP h1a ⊢
    have HCT : Hid (b.contains 60 = false) := hct
    clear HLZ hl0 hct hl60 hll
    go_wp2_with (at_make; refine wpList_make_full _ rfl _ _ 23 rfl w.heap.size 9 i0 (.string ⟨#[]⟩) 1 Tryd.underlying23 hi hz0 hz1 .i64 .i64 _ _ 0 rfl rfl rfl rfl (by rw [hz2]; omega) (by unfold maxLen; omega) hs2 ?_)
    intro w4 own4 hg4
    have hb4 : Below w2.heap.size w2 w4 := (Below.refl _ _).grown hg4 (Nat.le_refl _) (fun k hk => by cases hk)
    have hbw4 := hbw2.trans (hb4.mono hs2)
    clear own4 hg4 hb4
    go_wp2_with fail
    refine (CP.out _ _ hbw4 (fun h => absurd rfl h)).mono ?_
    rintro e w5 ⟨hb5, p5, c5, rfl, h5a, h5b, hr5⟩
    have hbw5 := hbw4.trans (hb5.mono hbw4.size)
    have HR5 : Hid (BRow w5 p5 b) := hr5
    clear hb5 hr5 CP hbw4
    go_wp2_with fail
    refine (CE.out p5 c5 w5 HR5.out hbw5).mono ?_
    rintro e w6 ⟨rfl, n6, rfl⟩
    have hbw6 := below_many hbw5 n6
    clear hbw5 HR5
    generalize w5.drewN n6 = w6 at *
    go_wp2_with fail
    refine (CC.out _ hbw6).mono ?_
    rintro e w7 ⟨rfl, hw7⟩
    have hw8 := hw7.symm
    subst hw8
    clear CC CE hbw2 hs2 hw7
    have hs6 := hbw6.size
    have hba : Below w6.heap.size w6 (w6.alloc (.cells #[.slice q n c, .slice q2 n2 c2] 22)) := (Below.refl _ _).alloc (Nat.le_refl _) _
    have hbwa := hbw6.trans (hba.mono hs6)
    have CO : Hid (Calls Tryd.prog 10 #[.slice (some ⟨w6.heap.size, 0, none⟩) 2 2] (w6.alloc (.cells #[.slice q n c, .slice q2 n2 c2] 22)) fun e w' => Below (w6.alloc (.cells #[.slice q n c, .slice q2 n2 c2] 22)).heap.size (w6.alloc (.cells #[.slice q n c, .slice q2 n2 c2] 22)) w' ∧ ∃ p' c', e = .returned (.slice p' (n + n2) c') ∧ n + n2 ≤ c' ∧ c' ≤ maxLen ∧ BRow w' p' (b ++ d) ∧ (p' = none → n + n2 = 0 ∧ c' = 0)) :=
      lconcat_two w6.heap.size q q2 n n2 c c2 b d HEN.out.1 HEN.out.2 _ (by simp) (by simp) (HR.out.below hbwa) (HR2.out.below hbwa) HQ.out HQ2.out (by omega)
    go_wp2_with fail
    refine CO.out.mono ?_
    rintro e w7 ⟨hb7, p7, c7, rfl, h7a, h7b, hr7, h7n⟩
    have hbw7 := hbwa.trans (hb7.mono hbwa.size)
    have HR7 : Hid (BRow w7 p7 (b ++ d)) := hr7
    clear CO hb7 hr7 hba hbwa hs6 hbw6
    have hlen7 : n + n2 = (b ++ d).length := by rw [List.length_append, ← HEN.out.1, ← HEN.out.2]
    have CX := find_any w HEV.out p7 (n + n2) c7 (b ++ d) hlen7 w7 hbw7 HR7.out h7n
    have HFB := find_behind b d HCT.out
    have CY : Hid (∀ W, Below w.heap.size w W → Calls Tryd.prog 5 #[.slice q2 n2 c2] W fun e w' => FindPost W d.length (findP lowT d) e w') := fun W h => find_any w HEV.out q2 n2 c2 d HEN.out.2 W h (HR2.out.below h) HQ2.out
    cases hX : findP lowT (b ++ d) with
    | none =>
      rw [hX] at CX
      have CX' : Hid (Calls Tryd.prog 5 #[.slice p7 (n + n2) c7] w7 fun e w' => Below w7.heap.size w7 w' ∧ e = .returned (.tuple #[.slice none 0 0, .int .i64 2])) := CX
      have CY' : Hid (∀ W, Below w.heap.size w W → Calls Tryd.prog 5 #[.slice q2 n2 c2] W fun e w' => Below W.heap.size W w' ∧ ∃ (v : Value) (k : Int), e = .returned (.tuple #[v, .int .i64 k])) := fun W h => by
        refine (CY.out W h).mono ?_
        rintro e w' ⟨g1, g2⟩
        cases hy : findP lowT d with
        | none => rw [hy] at g2; exact ⟨g1, _, _, g2⟩
        | some y => rw [hy] at g2; obtain ⟨v, rfl, _⟩ := g2; exact ⟨g1, _, _, rfl⟩
      clear CX CY hX HFB hlen7
      go_wp2_with fail
      refine CX'.out.mono ?_
      rintro e w8 ⟨hb8, rfl⟩
      have hbw8 := hbw7.trans (hb8.mono hbw7.size)
      clear CX' hb8 hbw7
      go_wp2_with fail
      refine (CY'.out _ hbw8).mono ?_
      rintro e w9 ⟨hb9, v9, k9, rfl⟩
      have hbw9 := hbw8.trans (hb9.mono hbw8.size)
      clear CY' hb9 hbw8
      go_wp2_with fail
      go_ret
      exact ⟨rfl, hbw9⟩
    | some m =>
      rw [hX] at CX HFB
      have hY : findP lowT d = some m := by
        split at HFB
        · cases HFB
        · exact HFB.symm
      have CX' : Hid (Calls Tryd.prog 5 #[.slice p7 (n + n2) c7] w7 fun e w' => Below w7.heap.size w7 w' ∧ ∃ v, e = .returned (.tuple #[v, .int .i64 0]) ∧ w'.ownsRow w7.heap.size 32 3 v m.length (lv (n + n2) m)) := by rw [hlen7] at CX ⊢; exact CX
      have CY' : Hid (∀ W, Below w.heap.size w W → Calls Tryd.prog 5 #[.slice q2 n2 c2] W fun e w' => Below W.heap.size W w' ∧ ∃ v, e = .returned (.tuple #[v, .int .i64 0]) ∧ w'.ownsRow W.heap.size 32 3 v m.length (lv n2 m)) := fun W h => by
        have := CY.out W h
        rw [hY, ← HEN.out.2] at this
        exact this
      obtain ⟨hoX, hm60, h4X⟩ := find_ord lowT d m hY
      have hleX : ∀ x ∈ m, x.1 ≤ n2 := by
        have h1 : ∀ (l : List LK) (N k : Nat), Ord N k l → ∀ x ∈ l, x.1 ≤ N := by
          intro l N
          induction l with
          | nil => intro k _ x hx; cases hx
          | cons y l ih =>
            intro k ho x hx
            rcases List.mem_cons.1 hx with rfl | hx
            · exact ho.1
            · exact ih _ ho.2.2.2 x hx
        rw [HEN.out.2]
        exact h1 m d.length 0 hoX
      have HLE : Hid (∀ x ∈ m, x.1 ≤ n2) := hleX
      have HOX : Hid (Ord d.length 0 m) := hoX
      have HDX : Hid (d.length ≤ 4000) := h4X
      have hn2s : n2 ≤ 4000 := by rw [HEN.out.2]; exact h4X
      clear CX CY hX HFB hlen7 hY hoX h4X hleX
      go_wp2_with fail
      refine CX'.out.mono ?_
      rintro e w8 ⟨hb8, v8, rfl, own8⟩
      obtain ⟨a8, c8, rfl, h8a, h8b, _, hk8⟩ := owned_links own8
      have HK8 : Hid (KRow w8 a8 (n + n2) m) := hk8
      have hbw8 := hbw7.trans (hb8.mono hbw7.size)
      clear CX' hb8 hbw7 own8 hk8
      go_wp2_with fail
      refine (CY'.out _ hbw8).mono ?_
      rintro e w9 ⟨hb9, v9, rfl, own9⟩
      obtain ⟨a9, c9, rfl, h9a, h9b, h9n, _⟩ := owned_links own9
      have HO9 : Hid (w9.ownsRow w8.heap.size 32 3 (.slice a9 m.length c9) m.length (mv (n + n2) n2 0 m)) := by unfold Hid; rw [mv_zero]; exact own9
      have HB9 : Hid (Below w8.heap.size w8 w9) := hb9
      have hs8 := hbw8.size
      clear CY' own9
      go_wp2_with fail
      go_loopg [82] (m.length + 1) (fun gk iv wr => ∃ k : Nat, iv = .int .i64 k ∧ k ≤ m.length ∧ m.length < k + gk ∧ Hid (wr.ownsRow w8.heap.size 32 3 (.slice a9 m.length c9) m.length (mv (n + n2) n2 k m)) ∧ Hid (Below w8.heap.size w8 wr))
      case atStart => exact ⟨0, rfl, Nat.zero_le _, by omega, HO9, HB9⟩
      case round =>
        obtain ⟨k, rfl, hk, hfew, HO, HB⟩ := hrel
        clear HO9 HB9 hb9
        by_cases hlt : k < m.length
        · have hne : ∃ g9, a9 = some ⟨g9, 0, none⟩ := by
            rcases HO.out.2 with ⟨h1, h2⟩ | ⟨g, cap, cur, h1, _⟩
            · omega
            · injection h1 with h1 _ _; exact ⟨g, h1⟩
          obtain ⟨g9, rfl⟩ := hne
          have hcA := mv_cells (n + n2) n2 k m hlt
          have d0 : wr.cell? ⟨g9, k * 3, none⟩ = some (.int .i64 ((n2 - (m.getD k (0, [])).1 : Nat) : Int)) := (HO.out.cellAt (k * 3) (by omega)).trans hcA.1
          have d1 : wr.cell? ⟨g9, k * 3 + 1, none⟩ = some (.int .i64 ((n2 - (m.getD k (0, [])).1 + (m.getD k (0, [])).2.length : Nat) : Int)) := (HO.out.cellAt (k * 3 + 1) (by omega)).trans hcA.2
          have f0 := HO.out.frozenAt (k * 3)
          have f1 := HO.out.frozenAt (k * 3 + 1)
          have hxm : m.getD k (0, []) ∈ m := by rw [List.getD_eq_getElem?_getD, List.getElem?_eq_getElem hlt]; exact List.getElem_mem hlt
          have hx1 := HLE.out _ hxm
          have HST : Hid (∀ (f t : Int), f = ((n2 - (m.getD k (0, [])).1 : Nat) : Int) + (n : Int) → t = ((n2 - (m.getD k (0, [])).1 + (m.getD k (0, [])).2.length : Nat) : Int) + (n : Int) → ((wr.setCell ⟨g9, k * 3, none⟩ (.int .i64 f)).setCell ⟨g9, k * 3 + 1, none⟩ (.int .i64 t)).ownsRow w8.heap.size 32 3 (.slice (some ⟨g9, 0, none⟩) m.length c9) m.length (mv (n + n2) n2 (k + 1) m)) := fun f t hf ht => by
            have st1 := (HO.out.stored (k * 3) (.int .i64 f)).1
            have st2 := (st1.stored (k * 3 + 1) (.int .i64 t)).1
            rw [mv_set (n + n2) n2 k m hlt _ rfl f t (by omega) (by omega)] at st2
            exact st2
          have hrl : (m.getD k (0, [])).2.length ≤ 4000 := by
            have h1 : ∀ (l : List LK) (N k : Nat), Ord N k l → ∀ x ∈ l, x.2.length ≤ N := by
              intro l N
              induction l with
              | nil => intro k _ x hx; cases hx
              | cons y l ih =>
                intro k ho x hx
                rcases List.mem_cons.1 hx with rfl | hx
                · exact Nat.le_trans ho.2.2.1 ho.1
                · exact ih _ ho.2.2.2 x hx
            exact Nat.le_trans (h1 m _ _ HOX.out _ hxm) HDX.out
          have hg9 : w8.heap.size ≤ g9 := (HO.out.lt g9 rfl).1
          obtain ⟨F, hF⟩ : ∃ F, F = n2 - (m.getD k (0, [])).1 := ⟨_, rfl⟩
          obtain ⟨E, hE⟩ : ∃ E, E = F + (m.getD k (0, [])).2.length := ⟨_, rfl⟩
          rw [← hF] at d0 d1 HST
          rw [← hE] at d1 HST
          have hFs : F ≤ 4000 := by omega
          have hEs : E ≤ 8000 := by omega
          have hkm : (k : Int) < (m.length : Int) := by omega
          have HBR : Hid (Below w8.heap.size w8 wr) := HB.out
          clear hcA hxm hx1 hF hE hrl HB HO
          have hw1 : IntKind.i64.wrap ((F : Int) + (n : Int)) = (F : Int) + (n : Int) := by rw [IntKind.wrap_i64]; omega
          have hw2 : IntKind.i64.wrap ((E : Int) + (n : Int)) = (E : Int) + (n : Int) := by rw [IntKind.wrap_i64]; omega
          have hw3 : IntKind.i64.wrap ((k : Int) + 1) = ((k + 1 : Nat) : Int) := by rw [IntKind.wrap_i64]; omega
          have HNX := HST.out _ _ rfl rfl
          have HNX' : Hid (_) := HNX
          clear HST HNX
          go_wp2_with fail
          go_roundg (gk - 1)
          case measure => omega
          case rel => exact ⟨k + 1, by go_num, by omega, by omega, HNX', ((HBR.out).setCell hg9 _).setCell hg9 _⟩
        · have hkm : k = m.length := by omega
          have HF : Hid (wr.ownsRow w8.heap.size 32 3 (.slice a9 m.length c9) m.length (lv (n + n2) m)) := by
            unfold Hid
            have := HO.out
            rw [hkm, mv_all] at this
            exact this
          have CE2 : Hid (Calls Tryd.prog 11 #[.slice a8 m.length c8, .slice a9 m.length c9] wr fun e w' => e = .returned (.bool true) ∧ ∃ q, w' = wr.drewN q) := by
            obtain ⟨a, cc, hv, _, _, _, hkk⟩ := owned_links HF.out
            injection hv with hv _ _
            subst hv
            have h := equalLinks a8 a9 m.length m.length c8 c9 (m.map (t3 (n + n2))) (m.map (t3 (n + n2))) wr (by omega) (by omega) (HK8.out.below HB.out).t3 hkk.t3
            refine h.mono ?_
            rintro e w' ⟨rfl, q, rfl⟩
            exact ⟨by simp, q, rfl⟩
          have hkn : ¬ (k : Int) < (m.length : Int) := by omega
          have hbwr : Below w.heap.size w wr := hbw8.trans (HB.out.mono hs8)
          clear HO HF HB hkm
          go_wp2_with fail
          refine CE2.out.mono ?_
          rintro e w10 ⟨rfl, n10, rfl⟩
          have hbw10 := below_many hbwr n10
          clear CE2 hbwr
          go_wp2_with fail
          go_ret
          exact ⟨rfl, hbw10⟩
end Go.Proofs.YtnfidloiediflacDoor
