/- LinkPuts' walk: it answers true; nothing that was there is changed. -/
import Derived.Test.YtnfidloiediflacDoorLNoneLaw
import Derived.Test.YtnfidloiediflacDoorLPutsP
import Derived.Laws.CopyOwn
namespace Go.Proofs.YtnfidloiediflacDoor
open Go.RowKit

/-- So many texts, out of others; what lacks is empty. -/
def fitB (n : Nat) (ts : List ByteArray) : List ByteArray := ts.take n ++ List.replicate (n - ts.length) ⟨#[]⟩
theorem fitB_length (n : Nat) (ts : List ByteArray) : (fitB n ts).length = n := by
  unfold fitB
  rw [List.length_append, List.length_take, List.length_replicate]
  omega
theorem fitB_size (n : Nat) (ts : List ByteArray) (h : ∀ t ∈ ts, t.size ≤ maxLen) : ∀ t ∈ fitB n ts, t.size ≤ maxLen := by
  intro t ht
  rcases List.mem_append.1 ht with ht | ht
  · exact h t (List.mem_of_mem_take ht)
  · rw [List.eq_of_mem_replicate ht]; decide
theorem fit_splice (n : Nat) (ts : List ByteArray) : splice (List.replicate n (Value.string ⟨#[]⟩)) 0 ((ts.take n).map Value.string) = (fitB n ts).map Value.string := by
  unfold splice fitB
  rw [List.map_append, List.map_replicate, List.take_zero, List.nil_append, List.length_map, List.length_take, Nat.zero_add, List.drop_replicate]
  congr 2
  omega
theorem fit_row {w : World} {g n : Nat} {ts : List ByteArray} (h : w.heap[g]? = some (.cells ((fitB n ts).map Value.string).toArray 9 (0, 0))) : TxRow w (some ⟨g, 0, none⟩) (fitB n ts) := by
  intro _
  refine ⟨g, 0, rfl, fun i hi => ?_⟩
  rw [Nat.zero_add]
  simp [World.cell?, h, List.getD_eq_getElem?_getD, List.getElem?_eq_getElem hi]
theorem putP_err (b : List UInt8) (l : List LK) (ts : List (List UInt8)) (hf : findP lowT b = some l) (hl : ts.length = l.length) (he : (putP lowT b ts).2 ≠ 0) : (putP lowT b ts).2 = 1 ∨ (putP lowT b ts).2 = 2 := by
  unfold putP at he ⊢
  rw [hf] at he ⊢
  simp only at he ⊢
  rw [if_neg (by omega)] at he ⊢
  split
  · exact .inl rfl
  · rename_i h1
    rw [if_neg h1] at he
    split
    · exact .inr rfl
    · rename_i h2
      rw [if_neg h2] at he
      exact absurd rfl he
theorem putP_ok (b : List UInt8) (l : List LK) (ts : List (List UInt8)) (hf : findP lowT b = some l) (hl : ts.length = l.length) (he : (putP lowT b ts).2 = 0) : (putP lowT b ts).1 = fillP l ts b ∧ ts.all plainT = true ∧ (fillP l ts b).length ≤ 4000 := by
  unfold putP at he ⊢
  rw [hf] at he ⊢
  simp only at he ⊢
  rw [if_neg (by omega)] at he ⊢
  split at he
  · cases he
  · rename_i h1
    rw [if_neg h1]
    split at he
    · cases he
    · rename_i h2
      rw [if_neg h2]
      exact ⟨rfl, by simpa using h1, by omega⟩
set_option maxHeartbeats 8000000 in
set_option maxRecDepth 100000 in
/-- Where Find finds an error. -/
theorem puts_err (q a2 : Option Addr) (n c n2 c2 : Nat) (b : List UInt8) (en : n = b.length) (w : World) (HE : LEnv w) (hr : BRow w q b) (hq : q = none → n = 0 ∧ c = 0) (hf : findP lowT b = none) :
    Calls Tryd.prog 3 #[.slice q n c, .slice a2 n2 c2] w fun e w' => e = .returned (.bool true) ∧ Below w.heap.size w w' := by
  have CF := find_any w HE q n c b en w (Below.refl _ _) hr hq
  rw [hf] at CF
  have CF' : Hid (Calls Tryd.prog 5 #[.slice q n c] w fun e w' => Below w.heap.size w w' ∧ e = .returned (.tuple #[.slice none 0 0, .int .i64 2])) := CF
  have CL : Hid (∀ W, Below w.heap.size w W → Calls Tryd.prog 6 #[] W fun e w' => e = .returned (.bool true) ∧ Below W.heap.size W w') := fun W h => linked_any w HE W h
  clear CF hf HE hr hq en
  go_enter Tryd.func3, Tryd.ntmps3
  go_wp2_with fail
  refine CF'.out.mono ?_
  rintro e w1 ⟨hb1, rfl⟩
  clear CF'
  go_wp2_with fail
  refine (CL.out _ hb1).mono ?_
  rintro e w2 ⟨rfl, hb2⟩
  have hbw2 := hb1.trans (hb2.mono hb1.size)
  clear hb1 hb2
  go_wp2_with fail
  refine (CL.out _ hbw2).mono ?_
  rintro e w3 ⟨rfl, hb3⟩
  have hbw3 := hbw2.trans (hb3.mono hbw2.size)
  clear hbw2 hb3 CL
  go_wp2_with fail
  go_ret
  exact ⟨rfl, hbw3⟩
set_option maxHeartbeats 16000000 in
set_option maxRecDepth 100000 in
theorem puts_some (q a2 : Option Addr) (n c n2 c2 : Nat) (b : List UInt8) (ts : List ByteArray) (en : n = b.length) (et : n2 = ts.length) (w : World) (HE : LEnv w) (hr : BRow w q b) (hs : TxRow w a2 ts) (hts : ∀ t ∈ ts, t.size ≤ maxLen) (hq : q = none → n = 0 ∧ c = 0) (hnc : n ≤ c) (hcm : c ≤ maxLen)
    (l : List LK) (hf : findP lowT b = some l) :
    Calls Tryd.prog 3 #[.slice q n c, .slice a2 n2 c2] w fun e w' => e = .returned (.bool true) ∧ Below w.heap.size w w' := by
  obtain ⟨i0, hi, hz0, hz1, hz2⟩ := info_parts info_strL
  have hsz1 : (Tryd.prog.info? 9).map (·.size) = some 1 := by kernel_rfl
  obtain ⟨_, hl60, h4⟩ := find_ord lowT b l hf
  have hn4 : n ≤ 4000 := by omega
  have CF := find_any w HE q n c b en w (Below.refl _ _) hr hq
  rw [hf] at CF
  have CF' : Hid (Calls Tryd.prog 5 #[.slice q n c] w fun e w' => Below w.heap.size w w' ∧ ∃ v, e = .returned (.tuple #[v, .int .i64 0]) ∧ w'.ownsRow w.heap.size 32 3 v l.length (lv b.length l)) := CF
  have CL : Hid (∀ W, Below w.heap.size w W → Calls Tryd.prog 6 #[] W fun e w' => e = .returned (.bool true) ∧ Below W.heap.size W w') := fun W h => linked_any w HE W h
  have CP : Hid (∀ a W, Below w.heap.size w W → TxRow W a (fitB l.length ts) → Calls Tryd.prog 7 #[.slice q n c, .slice a l.length l.length] W fun e w' => PutPost W (putP lowT b (tls (fitB l.length ts))) e w') := fun a W h hs =>
    put_any w HE q n c b en hnc hcm a l.length l.length (fitB l.length ts) (fitB_length _ _).symm (by unfold maxLen; omega) (fitB_size _ _ hts) W h (hr.below h) hq hs
  have HPE : Hid ((putP lowT b (tls (fitB l.length ts))).2 ≠ 0 → (putP lowT b (tls (fitB l.length ts))).2 = 1 ∨ (putP lowT b (tls (fitB l.length ts))).2 = 2) := putP_err b l _ hf (by simp [tls, fitB_length])
  have HPO : Hid ((putP lowT b (tls (fitB l.length ts))).2 = 0 → (putP lowT b (tls (fitB l.length ts))).1 = fillP l (tls (fitB l.length ts)) b ∧ (tls (fitB l.length ts)).all plainT = true ∧ (fillP l (tls (fitB l.length ts)) b).length ≤ 4000) := putP_ok b l _ hf (by simp [tls, fitB_length])
  have HTX : Hid (TxRow w a2 ts) := hs
  have HFI : Hid (findP lowT b = some l) := hf
  have HR : Hid (BRow w q b) := hr
  have HQ : Hid (q = none → n = 0 ∧ c = 0) := hq
  have HEN : Hid (n = b.length ∧ n2 = ts.length) := ⟨en, et⟩
  have HEV : Hid (LEnv w) := HE
  have HNN : Hid (b.length ≤ 4000) := h4
  have HCN : Hid (n ≤ c ∧ c ≤ maxLen) := ⟨hnc, hcm⟩
  clear CF hf hr hq en et HE h4 hs hts
  go_enter Tryd.func3, Tryd.ntmps3
  go_wp2_with fail
  refine CF'.out.mono ?_
  rintro e w1 ⟨hb1, v1, rfl, own1⟩
  obtain ⟨a1, c1, rfl, h1a, h1b, h1n, hk1⟩ := owned_links own1
  have HK1 : Hid (KRow w1 a1 b.length l) := hk1
  clear CF' own1 hk1
  go_wp2_with fail
  refine (CL.out _ hb1).mono ?_
  rintro e w2 ⟨rfl, hb2⟩
  have hbw2 := hb1.trans (hb2.mono hb1.size)
  have HK2 : Hid (KRow w2 a1 b.length l) := HK1.out.below hb2
  clear hb1 hb2 CL HK1
  have hs2 := hbw2.size
  obtain ⟨nl, hnl⟩ : ∃ nl, l.length = nl := ⟨_, rfl⟩
  have HNL : Hid (l.length = nl) := hnl
  rw [hnl] at CP HPE HPO hl60 h1a h1n ⊢
  clear hnl
  go_wp2_with (at_make; refine wpList_make_full _ rfl _ _ 23 rfl w.heap.size 9 i0 (.string ⟨#[]⟩) 1 Tryd.underlying23 hi hz0 hz1 .i64 .i64 _ _ nl rfl rfl rfl rfl (by rw [hz2]; omega) (by unfold maxLen; omega) hs2 ?_)
  intro w4 own4 hg4
  have hb4 : Below w2.heap.size w2 w4 := (Below.refl _ _).grown hg4 (Nat.le_refl _) (fun k hk => by cases hk)
  have hh4 : w4.heap[w2.heap.size]? = some (.cells (List.replicate nl (Value.string ⟨#[]⟩)).toArray 9 (0, 0)) := by
    rcases own4.2 with ⟨h1, _⟩ | ⟨g, cap, cur, h1, _, h3, h4, h5, h6, h7⟩
    · cases h1
    · injection h1 with h1 h2 h3'
      injection h1 with h1
      injection h1 with h1 _
      subst h1
      rw [made_str] at h7
      have hcc : cur = (List.replicate nl (Value.string ⟨#[]⟩)).toArray := by
        apply Array.ext'
        rw [← h7, List.take_of_length_le (by rw [Array.length_toList, h6, h3']; omega)]
      rw [h3, hcc]
  clear own4 hg4
  go_wp2_with (refine wpList_copy_splice rfl (.tmp 29) (.tmp 30) 23 23 rfl 9 Tryd.underlying23 hsz1 _ _ _ _ _ _ rfl rfl w2.heap.size 0 (List.replicate nl (Value.string ⟨#[]⟩)) 9 hh4 ((ts.take nl).map Value.string) ?k1 ?k2 ?k3 ?k4 w2.heap.size w2 hb4 (Nat.le_refl _) ?_)
  case k1 => rw [List.length_map, List.length_take, HEN.out.2]; exact Nat.min_comm _ _
  case k2 =>
    intro hpos
    obtain ⟨bt, ot, e2, hct⟩ := HTX.out (fun e => by rw [e] at hpos; simp at hpos)
    refine ⟨⟨bt, ot, none⟩, e2, fun j v hj => ?_⟩
    have hjt : j < nl ∧ j < ts.length := by
      have := (List.getElem?_eq_some_iff.1 hj).1
      simp only [List.length_take, List.length_map] at this
      omega
    have h1 := hct j hjt.2
    have hblt := World.block_lt_of_cell? w _ h1
    rw [Addr.add_lit, ((hbw2.trans (hb4.mono hs2)).cell (p := ⟨bt, ot + j, none⟩) hblt).trans h1]
    rw [List.getElem?_take_of_lt hjt.1, List.getElem?_map, List.getElem?_eq_getElem hjt.2] at hj
    rw [← hj]
    simp [List.getD_eq_getElem?_getD, List.getElem?_eq_getElem hjt.2]
  case k3 => rw [List.length_map, List.length_take, List.length_replicate]; omega
  case k4 =>
    intro v hv
    obtain ⟨t, _, rfl⟩ := List.mem_map.1 hv
    rfl
  intro w5 HH5 hb5
  have HX5 : Hid (TxRow w5 (some ⟨w2.heap.size, 0, none⟩) (fitB nl ts)) := by
    have h1 := HH5.out
    have h2 := fit_splice nl ts
    have h3 : w5.heap[w2.heap.size]? = some (.cells ((fitB nl ts).map Value.string).toArray 9 (0, 0)) := by
      rw [← h2]
      simpa using h1
    exact fit_row h3
  have hbw5 := hbw2.trans (hb5.mono hs2)
  have HK5 : Hid (KRow w5 a1 b.length l) := HK2.out.below hb5
  clear HH5 hb5 hb4 hh4 HK2 HTX hbw2
  generalize hgf : w2.heap.size = gf at *
  clear hgf
  have HFL : Hid ((fitB nl ts).length = nl) := fitB_length nl ts
  generalize fitB nl ts = fit at *
  go_wp2_with fail
  refine (CP.out _ _ hbw5 HX5.out).mono ?_
  rintro e w6 ⟨hb6, hd⟩
  have hbw6 := hbw5.trans (hb6.mono hbw5.size)
  clear CP
  rcases hd with ⟨he, rfl⟩ | ⟨he, v6, rfl, own6⟩
  · have h12 := HPE.out he
    generalize (putP lowT b (tls fit)).2 = er at *
    have her : ¬ (er : Int) = 0 := by omega
    clear HPE HPO hb6 HK5 HX5 hbw5
    rcases h12 with rfl | rfl
    · go_wp2_with fail
      go_ret
      exact ⟨rfl, hbw6⟩
    · go_wp2_with fail
      go_ret
      exact ⟨rfl, hbw6⟩
  · obtain ⟨ho1, ho2, ho3⟩ := HPO.out he
    rw [ho1] at own6
    obtain ⟨ss, hss1, hss2, hss3, hss4⟩ := puts_plain lowT b l (tls fit) HFI.out (by simp [tls, HFL.out, HNL.out]) ho2 ho3
    obtain ⟨d, hd⟩ : ∃ d, d = fillP l (tls fit) b := ⟨_, rfl⟩
    rw [← hd] at own6 hss3 hss4 ho3
    obtain ⟨p6, c6, rfl, h6a, h6b, h6n, hr6⟩ := owned_row own6
    obtain ⟨m, hm⟩ : ∃ m, m = leftsS (repl ss (tls fit)) 0 := ⟨_, rfl⟩
    rw [← hm] at hss4
    have hml : m.length = nl := by rw [hm, repl_lefts ss (tls fit) 0 0, ← hss2, HNL.out]
    have HA0 : Hid (PutsAt b d l m (tls fit) 0 0 0 ss) := ⟨Nat.zero_le _, Nat.zero_le _, by rw [List.drop_zero]; exact hss1, by rw [List.drop_zero, List.drop_zero]; exact hss3, by rw [List.drop_zero]; exact hss2, by rw [List.drop_zero, List.drop_zero]; exact hm⟩
    have HALL : Hid ((tls fit).all plainT = true) := ho2
    have HLF : Hid (∀ x ∈ l, 1 ≤ x.1) := findP_left lowT b l HFI.out
    have HMF : Hid (∀ x ∈ m, 1 ≤ x.1) := findP_left lowT d m hss4
    have HR6 : Hid (BRow w6 p6 d) := hr6
    obtain ⟨nd, hnd⟩ : ∃ nd, d.length = nd := ⟨_, rfl⟩
    have HND : Hid (d.length = nd) := hnd
    rw [hnd] at h6a h6n ho3 ⊢
    have CG := find_any w HEV.out p6 nd c6 d hnd.symm w6 hbw6 hr6 h6n
    rw [hss4, hnd] at CG
    have CG' : Hid (Calls Tryd.prog 5 #[.slice p6 nd c6] w6 fun e w' => Below w6.heap.size w6 w' ∧ ∃ v, e = .returned (.tuple #[v, .int .i64 0]) ∧ w'.ownsRow w6.heap.size 32 3 v m.length (lv nd m)) := CG
    have HK6 : Hid (KRow w6 a1 b.length l) := HK5.out.below hb6
    have HX6 : Hid (TxRow w6 (some ⟨gf, 0, none⟩) fit) := HX5.out.below hb6
    rw [hml] at CG'
    have HML : Hid (m.length = nl) := hml
    clear CG HPE HPO ho1 ho2 hss1 hss2 hss3 hss4 hm hml hnd hd own6 hr6 hb6 he HK5 HX5 hbw5 HFI
    go_wp2_with fail
    refine CG'.out.mono ?_
    rintro e w7 ⟨hb7, v7, rfl, own7⟩
    have own7' : w7.ownsRow w6.heap.size 32 3 v7 m.length (lv nd m) := by rw [HML.out]; exact own7
    obtain ⟨a7, c7, rfl, h7a, h7b, h7n, hk7⟩ := owned_links own7'
    rw [HML.out] at h7a h7n ⊢
    have HK7 : Hid (KRow w7 a7 nd m) := hk7
    have HK1 : Hid (KRow w7 a1 n l) := by unfold Hid; rw [HEN.out.1]; exact HK6.out.below hb7
    have HX7 : Hid (TxRow w7 (some ⟨gf, 0, none⟩) fit) := HX6.out.below hb7
    have hbw7 := hbw6.trans (hb7.mono hbw6.size)
    have HR7 : Hid (BRow w7 p6 d) := HR6.out.below hb7
    have HB7 : Hid (BRow w7 q b) := HR.out.below hbw7
    clear CG' own7 own7' hk7 HK6 HX6 hb7 hbw6 HR6 HR
    have hcm' : c ≤ 9223372036854775807 := by have := HCN.out.2; unfold maxLen at this; omega
    have hc6' : c6 ≤ 9223372036854775807 := by unfold maxLen at h6b; omega
    have hbl : Hid (b.length = n) := HEN.out.1.symm
    go_wp2_with fail
    go_loopg [10, 11, 62] (nl + 1) (fun gk xv yv iv wr => ∃ (i x y qn : Nat) (ss : List SG), xv = .int .i64 x ∧ yv = .int .i64 y ∧ iv = .int .i64 i ∧ i ≤ nl ∧ nl < i + gk ∧ wr = w7.drewN qn ∧ Hid (PutsAt b d l m (tls fit) i x y ss))
    case atStart => exact ⟨0, 0, 0, 0, ss, rfl, rfl, rfl, Nat.zero_le _, by omega, rfl, HA0⟩
    case round =>
      obtain ⟨i, x, y, qn, ss, rfl, rfl, rfl, hil, hfew, rfl, HJ⟩ := hrel
      clear HA0
      have hxb : x ≤ n := by rw [← hbl.out]; exact HJ.out.xl
      have hyd : y ≤ nd := by rw [← HND.out]; exact HJ.out.yl
      by_cases hlt : i < nl
      · have hi1 : i < l.length := by rw [HNL.out]; exact hlt
        have hi2 : i < m.length := by rw [HML.out]; exact hlt
        have hi3 : i < fit.length := by rw [HFL.out]; exact hlt
        obtain ⟨ss1, HS, HN⟩ := puts_step HJ.out HALL.out hi1 hi2 (by simp [tls]; exact hi3)
        have htg : (tls fit).getD i [] = (fit.getD i ⟨#[]⟩).data.toList := by simp [tls, List.getD_eq_getElem?_getD, List.getElem?_eq_getElem hi3]
        rw [htg] at HS
        obtain ⟨bl, e1, hcl⟩ := HK1.out (fun e => by rw [e] at hi1; simp at hi1)
        obtain ⟨bm, e2, hcm⟩ := HK7.out (fun e => by rw [e] at hi2; simp at hi2)
        obtain ⟨bt, ot, e3, hct⟩ := HX7.out (fun e => by rw [e] at hi3; simp at hi3)
        obtain ⟨rfl, rfl⟩ : gf = bt ∧ 0 = ot := by injection e3 with e3; injection e3 with h1 h2; exact ⟨h1, h2⟩
        subst e1; subst e2
        obtain ⟨k0, k1, k2⟩ := hcl i hi1
        obtain ⟨j0, j1, j2⟩ := hcm i hi2
        have kt := hct i hi3
        rw [Nat.zero_add] at kt
        have hx1 : 1 ≤ (l.getD i (0, [])).1 := HLF.out _ (by rw [List.getD_eq_getElem?_getD, List.getElem?_eq_getElem hi1]; exact List.getElem_mem hi1)
        have hy1 : 1 ≤ (m.getD i (0, [])).1 := HMF.out _ (by rw [List.getD_eq_getElem?_getD, List.getElem?_eq_getElem hi2]; exact List.getElem_mem hi2)
        rw [hbl.out, HND.out] at HN
        have HSf1 := HS.f1
        have HSf2 := HS.f2
        have HSe1 := HS.e1
        have HSe2 := HS.e2
        have HSr1 := HS.r1
        have HSr2 := HS.r2
        have HSs := HS.same
        have HSt := HS.text
        rw [hbl.out] at HSf1 HSe1 HSs
        rw [HND.out] at HSf2 HSe2 HSs
        have HNX : Hid (PutsAt b d l m (tls fit) (i + 1) (n - (l.getD i (0, [])).1 + (l.getD i (0, [])).2.length) (nd - (m.getD i (0, [])).1 + (m.getD i (0, [])).2.length) ss1) := HN
        clear HS HN htg hcl hcm hct HJ e3
        generalize l.getD i (0, []) = xk at *
        generalize m.getD i (0, []) = yk at *
        generalize fit.getD i ⟨#[]⟩ = T at *
        obtain ⟨lf, raw⟩ := xk
        obtain ⟨mf, raw2⟩ := yk
        simp only at *
        obtain ⟨F, hF⟩ : ∃ F, F = n - lf := ⟨_, rfl⟩
        obtain ⟨E, hE⟩ : ∃ E, E = F + raw.length := ⟨_, rfl⟩
        obtain ⟨G, hG⟩ : ∃ G, G = nd - mf := ⟨_, rfl⟩
        obtain ⟨I, hI⟩ : ∃ I, I = G + raw2.length := ⟨_, rfl⟩
        rw [← hF] at k0 k1 HSf1 HSs HNX
        rw [← hG] at j0 j1 HSf2 HSs HNX
        rw [← hE] at k1 HNX
        rw [← hI] at j1 HNX
        have hFn : F < n := by omega
        have hGn : G < nd := by omega
        have hEF : F ≤ E := by omega
        have hEn : E ≤ n := by omega
        have hIn : I ≤ nd := by omega
        obtain ⟨bq, oq, eq1, _⟩ := HB7.out (fun e => by have := hbl.out; rw [e] at this; simp at this; omega)
        obtain ⟨bd, od, eq2, _⟩ := HR7.out (fun e => by have := HND.out; rw [e] at this; simp at this; omega)
        have hP1 := HB7.out.part bq oq eq1 x (F - x)
        have hP2 := HR7.out.part bd od eq2 y (G - y)
        subst eq1; subst eq2
        obtain ⟨LT, hLT⟩ : ∃ LT, LT = (b.drop x).take (F - x) := ⟨_, rfl⟩
        have hl1 : F - x = LT.length := by rw [hLT, List.length_take, List.length_drop, hbl.out]; omega
        rw [← hLT] at hP1 HSs
        rw [← HSs] at hP2
        have hl2 : G - y = LT.length := by
          rw [HSs, List.length_take, List.length_drop, HND.out]; omega
        have hcv1 : ∀ k, (convert 22 9 (.slice (some ⟨bq, oq + x, none⟩) (F - x) (c - x))).run Tryd.prog (w7.drewN k) = .ok (.string (lba LT)) (w7.drewN k) := fun k => conv_bytes (w7.drewN k) _ _ _ LT hl1 hP1 (fun h => by cases h)
        have hcv2 : ∀ k, (convert 22 9 (.slice (some ⟨bd, od + y, none⟩) (G - y) (c6 - y))).run Tryd.prog (w7.drewN k) = .ok (.string (lba LT)) (w7.drewN k) := fun k => conv_bytes (w7.drewN k) _ _ _ LT hl2 hP2 (fun h => by cases h)
        generalize lba LT = LB at *
        have hxF : (x : Int) ≤ (F : Int) := by omega
        have hFc : (F : Int) ≤ (c : Int) := by have := HCN.out.1; omega
        have hFc' : F ≤ c := by have := HCN.out.1; omega
        have hxc : x < c := by omega
        have hyG : (y : Int) ≤ (G : Int) := by omega
        have hGc : (G : Int) ≤ (c6 : Int) := by omega
        have hGc' : G ≤ c6 := by omega
        have hyc : y < c6 := by omega
        have hFE : ¬ (E : Int) < (F : Int) := by omega
        have hini : (i : Int) < (nl : Int) := by omega
        have hwi : IntKind.i64.wrap ((i : Int) + 1) = ((i + 1 : Nat) : Int) := by rw [IntKind.wrap_i64]; omega
        clear hP1 hP2 hl1 hl2 hLT HSs hF hE hG hI HSe1 HSe2 HSr1 HSr2 hx1 hy1
        by_cases hTe : T.data.toList = []
        · have hTz : T.toList.isEmpty = true := by rw [ByteArray.toList_eq, hTe]; rfl
          rw [if_pos hTe] at HSt
          rw [HSt] at j2
          generalize lba (unamp raw) = TX at *
          clear HSt hTe
          go_wp2_with fail
          go_quiet (fail)
          go_wp2_with fail
          go_quiet (fail)
          go_wp2_with fail
          go_roundg (gk - 1)
          case measure => omega
          case rel => exact ⟨i + 1, E, I, _, ss1, rfl, rfl, by go_num, by omega, by omega, rfl, HNX⟩
        · have hTz : T.toList.isEmpty = false := by
            rw [ByteArray.toList_eq]
            cases hh : T.data.toList with
            | nil => exact absurd hh hTe
            | cons z Z => rfl
          rw [if_neg hTe] at HSt
          rw [HSt, show lba T.data.toList = T from rfl] at j2
          clear HSt hTe
          go_wp2_with fail
          go_quiet (fail)
          go_wp2_with fail
          go_quiet (fail)
          go_wp2_with fail
          go_roundg (gk - 1)
          case measure => omega
          case rel => exact ⟨i + 1, E, I, _, ss1, rfl, rfl, by go_num, by omega, by omega, rfl, HNX⟩
      · have hin : i = nl := by omega
        have HSM : Hid (b.drop x = d.drop y) := puts_end HJ.out (by rw [HNL.out]; omega)
        have hnini : ¬ (i : Int) < (nl : Int) := by omega
        have HLX : Hid ((b.drop x).length = n - x) := by unfold Hid; rw [List.length_drop, hbl.out]
        have HLY : Hid ((d.drop y).length = nd - y) := by unfold Hid; rw [List.length_drop, HND.out]
        have hxc : x ≤ c := by have := HCN.out.1; omega
        have hyc : y ≤ c6 := by omega
        have hncc := HCN.out.1
        have hxi : (x : Int) ≤ (n : Int) := by omega
        have hyi : (y : Int) ≤ (nd : Int) := by omega
        clear HJ hin
        obtain ⟨LB, hLB⟩ : ∃ LB, LB = lba (b.drop x) := ⟨_, rfl⟩
        have HLB : Hid (LB = lba (b.drop x)) := hLB
        have HLB2 : Hid (LB = lba (d.drop y)) := by unfold Hid; rw [hLB, HSM.out]
        have HB9 : Hid (BRow w7 q (b.drop 0)) := HB7.out
        have HR9 : Hid (BRow w7 p6 (d.drop 0)) := HR7.out
        clear hLB HSM
        cases q with
        | none =>
          obtain ⟨h0, hc0⟩ := HQ.out rfl
          have hx0 : x = 0 := by omega
          subst h0 hc0 hx0
          have f1 : ∀ k, (convert 22 9 (.slice none 0 0)).run Tryd.prog (w7.drewN k) = .ok (.string LB) (w7.drewN k) := fun k => by rw [HLB.out]; exact conv_bytes (w7.drewN k) none 0 0 (b.drop 0) (by rw [HLX.out]) HB9.out (fun _ => ⟨rfl, rfl⟩)
          cases p6 with
          | none =>
            obtain ⟨g0, gc0⟩ := h6n rfl
            have hy0 : y = 0 := by omega
            subst g0 gc0 hy0
            have f2 : ∀ k, (convert 22 9 (.slice none 0 0)).run Tryd.prog (w7.drewN k) = .ok (.string LB) (w7.drewN k) := fun k => by rw [HLB2.out]; exact conv_bytes (w7.drewN k) none 0 0 (d.drop 0) (by rw [HLY.out]) HR9.out (fun _ => ⟨rfl, rfl⟩)
            go_wp2_with fail
            go_quiet (fail)
            go_wp2_with fail
            go_ret
            exact ⟨rfl, below_many (below_many hbw7 _) _⟩
          | some ap =>
            by_cases hyl : y < c6
            · have hyne : ¬ c6 = y := by omega
              have f2 : ∀ k, (convert 22 9 (.slice (some (ap.add y)) (nd - y) (c6 - y))).run Tryd.prog (w7.drewN k) = .ok (.string LB) (w7.drewN k) := fun k => by rw [HLB2.out]; exact conv_bytes (w7.drewN k) _ _ _ (d.drop y) HLY.out.symm (brow_drop HR7.out y) (fun h => by cases h)
              go_wp2_with fail
              go_quiet (fail)
              go_wp2_with fail
              go_ret
              exact ⟨rfl, below_many (below_many hbw7 _) _⟩
            · clear hyi
              have f2 : ∀ k, (convert 22 9 (.slice (some ap) 0 0)).run Tryd.prog (w7.drewN k) = .ok (.string LB) (w7.drewN k) := fun k => by
                rw [HLB2.out]
                exact conv_bytes (w7.drewN k) _ _ _ (d.drop y) (by rw [HLY.out]; omega) (fun hne => absurd (List.length_eq_zero_iff.1 (by rw [HLY.out]; omega)) hne) (fun h => by cases h)
              have hyn : nd = y := by omega
              have hycc : c6 = y := by omega
              subst hyn
              subst hycc
              go_wp2_with fail
              go_quiet (fail)
              go_wp2_with fail
              go_ret
              exact ⟨rfl, below_many (below_many hbw7 _) _⟩
        | some aq =>
          by_cases hxl : x < c
          · have hxne : ¬ c = x := by omega
            have f1 : ∀ k, (convert 22 9 (.slice (some (aq.add x)) (n - x) (c - x))).run Tryd.prog (w7.drewN k) = .ok (.string LB) (w7.drewN k) := fun k => by rw [HLB.out]; exact conv_bytes (w7.drewN k) _ _ _ (b.drop x) HLX.out.symm (brow_drop HB7.out x) (fun h => by cases h)
            cases p6 with
            | none =>
              obtain ⟨g0, gc0⟩ := h6n rfl
              have hy0 : y = 0 := by omega
              subst g0 gc0 hy0
              have f2 : ∀ k, (convert 22 9 (.slice none 0 0)).run Tryd.prog (w7.drewN k) = .ok (.string LB) (w7.drewN k) := fun k => by rw [HLB2.out]; exact conv_bytes (w7.drewN k) none 0 0 (d.drop 0) (by rw [HLY.out]) HR9.out (fun _ => ⟨rfl, rfl⟩)
              go_wp2_with fail
              go_quiet (fail)
              go_wp2_with fail
              go_ret
              exact ⟨rfl, below_many (below_many hbw7 _) _⟩
            | some ap =>
              by_cases hyl : y < c6
              · have hyne : ¬ c6 = y := by omega
                have f2 : ∀ k, (convert 22 9 (.slice (some (ap.add y)) (nd - y) (c6 - y))).run Tryd.prog (w7.drewN k) = .ok (.string LB) (w7.drewN k) := fun k => by rw [HLB2.out]; exact conv_bytes (w7.drewN k) _ _ _ (d.drop y) HLY.out.symm (brow_drop HR7.out y) (fun h => by cases h)
                go_wp2_with fail
                go_quiet (fail)
                go_wp2_with fail
                go_ret
                exact ⟨rfl, below_many (below_many hbw7 _) _⟩
              · clear hyi
                have f2 : ∀ k, (convert 22 9 (.slice (some ap) 0 0)).run Tryd.prog (w7.drewN k) = .ok (.string LB) (w7.drewN k) := fun k => by
                  rw [HLB2.out]
                  exact conv_bytes (w7.drewN k) _ _ _ (d.drop y) (by rw [HLY.out]; omega) (fun hne => absurd (List.length_eq_zero_iff.1 (by rw [HLY.out]; omega)) hne) (fun h => by cases h)
                have hyn : nd = y := by omega
                have hycc : c6 = y := by omega
                subst hyn
                subst hycc
                go_wp2_with fail
                go_quiet (fail)
                go_wp2_with fail
                go_ret
                exact ⟨rfl, below_many (below_many hbw7 _) _⟩
          · clear hxi
            have f1 : ∀ k, (convert 22 9 (.slice (some aq) 0 0)).run Tryd.prog (w7.drewN k) = .ok (.string LB) (w7.drewN k) := fun k => by
              rw [HLB.out]
              exact conv_bytes (w7.drewN k) _ _ _ (b.drop x) (by rw [HLX.out]; omega) (fun hne => absurd (List.length_eq_zero_iff.1 (by rw [HLX.out]; omega)) hne) (fun h => by cases h)
            have hxn : n = x := by omega
            have hxcc : c = x := by omega
            subst hxn
            subst hxcc
            cases p6 with
            | none =>
              obtain ⟨g0, gc0⟩ := h6n rfl
              have hy0 : y = 0 := by omega
              subst g0 gc0 hy0
              have f2 : ∀ k, (convert 22 9 (.slice none 0 0)).run Tryd.prog (w7.drewN k) = .ok (.string LB) (w7.drewN k) := fun k => by rw [HLB2.out]; exact conv_bytes (w7.drewN k) none 0 0 (d.drop 0) (by rw [HLY.out]) HR9.out (fun _ => ⟨rfl, rfl⟩)
              go_wp2_with fail
              go_quiet (fail)
              go_wp2_with fail
              go_ret
              exact ⟨rfl, below_many (below_many hbw7 _) _⟩
            | some ap =>
              by_cases hyl : y < c6
              · have hyne : ¬ c6 = y := by omega
                have f2 : ∀ k, (convert 22 9 (.slice (some (ap.add y)) (nd - y) (c6 - y))).run Tryd.prog (w7.drewN k) = .ok (.string LB) (w7.drewN k) := fun k => by rw [HLB2.out]; exact conv_bytes (w7.drewN k) _ _ _ (d.drop y) HLY.out.symm (brow_drop HR7.out y) (fun h => by cases h)
                go_wp2_with fail
                go_quiet (fail)
                go_wp2_with fail
                go_ret
                exact ⟨rfl, below_many (below_many hbw7 _) _⟩
              · clear hyi
                have f2 : ∀ k, (convert 22 9 (.slice (some ap) 0 0)).run Tryd.prog (w7.drewN k) = .ok (.string LB) (w7.drewN k) := fun k => by
                  rw [HLB2.out]
                  exact conv_bytes (w7.drewN k) _ _ _ (d.drop y) (by rw [HLY.out]; omega) (fun hne => absurd (List.length_eq_zero_iff.1 (by rw [HLY.out]; omega)) hne) (fun h => by cases h)
                have hyn : nd = y := by omega
                have hycc : c6 = y := by omega
                subst hyn
                subst hycc
                go_wp2_with fail
                go_quiet (fail)
                go_wp2_with fail
                go_ret
                exact ⟨rfl, below_many (below_many hbw7 _) _⟩
end Go.Proofs.YtnfidloiediflacDoor
