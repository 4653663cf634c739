/- 'append' of one number to numbers that the call owns: where the row lies then. No function of the program. -/
import Derived.Test.YtehiaenicfmpbaaDoorXpartsaysupto9
import Derived.Test.YtehiaenicfmpbaaDoorXpartsaysupto12
import Derived.Lib.AppendZeros
namespace Go.Proofs.YtehiaenicfmpbaaDoor
open Go.RowKit

theorem append_one (w : World) (base g n cap : Nat) (xs : List Value) (hown : w.ownsRow base 3 1 (.slice (some ⟨g, 0, none⟩) n cap) n xs) (ad : Addr) (z : Int)
    (hc : ∀ j u, [Value.int .i64 z][j]? = some u → w.cell? (ad.add j) = some u) (hn : n ≤ 100000) (hbase : base ≤ w.heap.size) :
    ∃ g' c' w', (∀ ty, (Builtin.append_ #[68, 68] ty #[.slice (some ⟨g, 0, none⟩) n cap, .slice (some ad) 1 1]).run Tryd.prog w = .ok (.slice (some ⟨g', 0, none⟩) (n + 1) c') w') ∧ w'.ownsRow base 3 1 (.slice (some ⟨g', 0, none⟩) (n + 1) c') (n + 1) (xs ++ [.int .i64 z]) ∧ w.grownBy w' (some g) ∧ (g' = g ∨ w.heap.size ≤ g') := by
  obtain ⟨i0, hi, hz0, hz1, hz2⟩ := info_parts info_int
  have h1c : ∀ u ∈ [Value.int .i64 z], u.oneCell' = true := one_int z
  have own := fun ty => run_append_own (P := Tryd.prog) w base 68 ty 3 i0 (.int .i64 0) 1 8 Tryd.underlying68 hi hz0 hz1 hz2 rfl (by decide) (.slice (some ⟨g, 0, none⟩) n cap) n xs hown ad 1 1 [.int .i64 z] rfl hc h1c (by unfold maxLen; omega) (by omega) hbase
  have ho := hown
  rcases hown.2 with ⟨h, _⟩ | ⟨g2, cap2, cur, e2, hbg, hg, hnc, hcm, hcs, htake⟩
  · simp at h
  · simp only [Value.slice.injEq, Option.some.injEq, Addr.mk.injEq, and_true, true_and] at e2
    obtain ⟨rfl, rfl⟩ := e2
    by_cases hroom : n + 1 ≤ cap
    · have hr2 := fun ty => run_append_room (P := Tryd.prog) w 68 ty 3 i0 Tryd.underlying68 hi g n cap cur hg ad 1 1 [.int .i64 z] (by rw [hz1]; rfl) hc h1c hroom (by rw [hz1, hcs]; simp; omega)
      obtain ⟨v', w', hr, h2, h3, _⟩ := own 0
      have h4 := hr.symm.trans (hr2 0)
      injection h4 with hv hw
      subst hv hw
      exact ⟨g, cap, _, hr2, h2, h3, .inl rfl⟩
    · have holds : ∀ j u, xs[j]? = some u → w.cell? ((⟨g, 0, none⟩ : Addr).add j) = some u := ho.cells (g := g) rfl
      have hr2 := fun ty => run_append_grow (P := Tryd.prog) w 68 ty 3 i0 (.int .i64 0) Tryd.underlying68 hi hz0 ⟨g, 0, none⟩ n cap xs (by rw [hz1]; exact hown.1) holds ad 1 1 [.int .i64 z] (by rw [hz1]; rfl) hc (by omega) (by omega) (by rw [hz2]; exact growslice_fits (by omega) (by omega))
      obtain ⟨v', w', hr, h2, h3, _⟩ := own 0
      have h4 := hr.symm.trans (hr2 0)
      injection h4 with hv hw
      subst hv hw
      exact ⟨_, _, _, hr2, h2, h3, .inr (Nat.le_refl _)⟩
end Go.Proofs.YtehiaenicfmpbaaDoor

/- The reference's InWhich: of each part, depth first, the number of the one that it is in; nothing that was there is changed. Condition: the part lies there, and it is not deeper, nor are they more, than that. -/
namespace Go.Proofs.YtehiaenicfmpbaaDoor
open Go.RowKit

def inOf (x : PT × Option Nat) : Int := (abs 0 (-1) x).2
theorem inOf_sub (n : Nat) (x : PT × Option Nat) : inOf (sub n x) = if inOf x < 0 then 0 else inOf x + (n : Int) := by
  obtain ⟨x, j⟩ := x
  cases j with
  | none => simp [inOf, abs, sub]
  | some j => simp [inOf, abs, sub]; omega
theorem inOf_ge (x : PT × Option Nat) : -1 ≤ inOf x := by
  obtain ⟨x, j⟩ := x
  cases j with
  | none => simp [inOf, abs]
  | some j => show (-1 : Int) ≤ ((0 + j : Nat) : Int); omega
theorem grow_snoc (f : Nat) (acc : List (PT × Option Nat)) (l : List PT) (k : Nat) (h : k < l.length) : grow f acc (l.take (k + 1)) = grow f acc (l.take k) ++ (tree f (l.getD k pt0)).map (sub (grow f acc (l.take k)).length) := by
  rw [List.take_add_one, List.getElem?_eq_getElem h, List.getD_eq_getElem?_getD, List.getElem?_eq_getElem h]
  unfold grow
  rw [List.foldl_append]
  rfl
theorem grow_part (f : Nat) (acc : List (PT × Option Nat)) (l : List PT) (k : Nat) : (grow f acc (l.take k)).length ≤ (grow f acc l).length := by
  conv => rhs; rw [← List.take_append_drop k l]
  have : grow f acc (l.take k ++ l.drop k) = grow f (grow f acc (l.take k)) (l.drop k) := by unfold grow; rw [List.foldl_append]
  rw [this]
  exact grow_le f _ _

theorem grow_mem (f : Nat) (acc : List (PT × Option Nat)) (l : List PT) (k : Nat) : ∀ x ∈ grow f acc (l.take k), x ∈ grow f acc l := by
  have gen : ∀ (ks : List PT) (acc : List (PT × Option Nat)), ∀ x ∈ acc, x ∈ grow f acc ks := by
    intro ks
    induction ks with
    | nil => intro acc x hx; exact hx
    | cons y ks ih => intro acc x hx; rw [grow_cons]; exact ih _ x (List.mem_append.2 (.inl hx))
  intro x hx
  have : grow f acc l = grow f (grow f acc (l.take k)) (l.drop k) := by
    conv => lhs; rw [← List.take_append_drop k l]
    unfold grow; rw [List.foldl_append]
  rw [this]
  exact gen _ _ x hx

def WhichPost (l : List Int) (w : World) (e : Ending) (w' : World) : Prop :=
  ∃ g c, e = .returned (.slice (some ⟨g, 0, none⟩) l.length c) ∧ Below w.heap.size w w' ∧ w'.ownsRow w.heap.size 3 1 (.slice (some ⟨g, 0, none⟩) l.length c) l.length (izv l)

set_option maxHeartbeats 2000000 in
set_option maxRecDepth 100000 in
/-- The reference's InWhich. -/
theorem which_any : ∀ (f F : Nat) (p : PT) (pb : Option Addr) (cb : Nat) (pk : Option Addr) (ck : Nat) (w : World), lev f p = true → (tree f p).length ≤ 1000 → (∀ x ∈ tree f p, inOf x ≤ 1000) → PHeld w F p pb cb pk ck →
    Calls Tryd.prog 69 #[.agg #[.string p.ty, .string p.cs, .string p.id, .string p.loc, .int .i64 p.how, .slice pb p.body.length cb, .slice pk p.kids.length ck]] w
      fun e w' => WhichPost ((tree f p).map inOf) w e w' := by
  intro f
  induction f with
  | zero => intro F p pb cb pk ck w hl; rw [lev] at hl; cases hl
  | succ f ih =>
    intro F p pb cb pk ck w hl h1000 hsm hH
    rw [lev_succ, List.all_eq_true] at hl
    have HR : Hid (tree (f + 1) p = grow f [(p, none)] p.kids) := tree_grow f p
    rw [tree_grow] at h1000 hsm
    obtain ⟨i0, hi, hz0, hz1, hz2⟩ := info_parts info_int
    obtain ⟨w1, hw1⟩ : ∃ w1, w.alloc (.cells #[.string p.ty, .string p.cs, .string p.id, .string p.loc, .int .i64 p.how, .slice pb p.body.length cb, .slice pk p.kids.length ck] 65) = w1 := ⟨_, rfl⟩
    have hb1 : Below w.heap.size w w1 := by rw [← hw1]; exact (Below.refl _ _).alloc (Nat.le_refl _) _
    have hs1 : w1.heap.size = w.heap.size + 1 := by rw [← hw1]; simp
    have y6 : w1.cell? ⟨w.heap.size, 6, none⟩ = some (.slice pk p.kids.length ck) := by rw [← hw1]; simp
    have HX6 : Hid (∀ w', Below w1.heap.size w1 w' → w'.cell? ⟨w.heap.size, 6, none⟩ = some (.slice pk p.kids.length ck)) := fun w' hb => (hb.cell (World.block_lt_of_cell? w1 _ y6)).trans y6
    have HO0 : Hid ((w1.alloc (.cells #[.int .i64 (-1)] 3)).ownsRow w1.heap.size 3 1 (.slice (some ⟨w.heap.size + 1, 0, none⟩) 1 1) 1 (izv ([(p, none)].map inOf))) := by
      have := World.ownsRow_lit (base := w1.heap.size) (e := 3) (size := 1) w1 #[.int .i64 (-1)] 1 (Nat.le_refl _) (by decide) rfl
      rw [hs1] at this
      rw [hs1]
      exact this
    have hb1a : Below w1.heap.size w1 (w1.alloc (.cells #[.int .i64 (-1)] 3)) := (Below.refl _ _).alloc (Nat.le_refl _) _
    have y6a := HX6.out _ hb1a
    have HKP : Hid (p.kids ≠ [] → ∃ F' b o, pk = some ⟨b, o, none⟩ ∧ ∀ i, i < p.kids.length → PAt w1 F' b (o + i * 7) (p.kids.getD i pt0)) := fun hne => by
      have hk : KAt w F pk p.kids := hH.2.2.2.2
      cases F with
      | zero => exact absurd hk hne
      | succ F' =>
        obtain ⟨b, o, e1, e2⟩ := hk.each hne
        exact ⟨F', b, o, e1, fun i hi => (e2 i hi).below hb1⟩
    have hkl : p.kids.length ≤ 9223372036854775807 := by have := hH.1.2.2.2.2.2.2.2; unfold maxLen at this; exact this
    have IH : Hid (∀ (F : Nat) (k : PT) (pb : Option Addr) (cb : Nat) (pk : Option Addr) (ck : Nat) (w : World), k ∈ p.kids → (tree f k).length ≤ 1000 → (∀ x ∈ tree f k, inOf x ≤ 1000) → PHeld w F k pb cb pk ck →
      Calls Tryd.prog 69 #[.agg #[.string k.ty, .string k.cs, .string k.id, .string k.loc, .int .i64 k.how, .slice pb k.body.length cb, .slice pk k.kids.length ck]] w fun e w' => WhichPost ((tree f k).map inOf) w e w') := fun F k pb cb pk ck w hk h1 h2 h3 => ih F k pb cb pk ck w (hl k hk) h1 h2 h3
    have HLe : Hid ((grow f [(p, none)] p.kids).length ≤ 1000) := h1000
    have HSm : Hid (∀ x ∈ grow f [(p, none)] p.kids, inOf x ≤ 1000) := hsm
    obtain ⟨n, hn⟩ : ∃ n, p.kids.length = n := ⟨_, rfl⟩
    have HN : Hid (p.kids.length = n) := hn
    rw [hn] at y6 y6a HX6 HKP hkl hw1
    simp only [hn]
    clear hn ih hH hl h1000 hsm
    generalize hT : tree (f + 1) p = RES at *
    generalize p.body.length = nb at *
    go_enter Tryd.func69, Tryd.ntmps69
    go_wp2_with fail
    go_loopw [3, 13] (fun ov iv wr => ∃ (k m g c : Nat) (A : List (PT × Option Nat)), k ≤ n ∧ iv = .int .i64 k ∧ ov = .slice (some ⟨g, 0, none⟩) m c ∧ Below w1.heap.size w1 wr ∧ Hid (wr.ownsRow w1.heap.size 3 1 (.slice (some ⟨g, 0, none⟩) m c) m (izv (A.map inOf))) ∧ Hid (A = grow f [(p, none)] (p.kids.take k)) ∧ Hid (A.length = m)) (fun _ iv _ => n - (intOf iv).toNat)
    case atStart => exact ⟨0, 1, w.heap.size + 1, 1, [(p, none)], Nat.zero_le _, rfl, rfl, hb1a, HO0, rfl, rfl⟩
    case round =>
      obtain ⟨k, m, g, c, A, hk, rfl, rfl, hbr, HO, HA, HAl⟩ := hrel
      have hsr := hbr.size
      by_cases hlt : k < n
      · have hlz : (k : Int) < (n : Int) := by omega
        have hne : p.kids ≠ [] := fun e => by have := HN.out; rw [e] at this; simp at this; omega
        obtain ⟨F', bp, op, rfl, hPp⟩ := HKP.out hne
        have hkP : k < p.kids.length := by rw [HN.out]; exact hlt
        have HP1 := (hPp k hlt).below hbr
        have hG := grow_snoc f [(p, none)] p.kids k hkP
        have hle := grow_part f [(p, none)] p.kids (k + 1)
        have hsub : ∀ x ∈ grow f [(p, none)] (p.kids.take (k + 1)), inOf x ≤ 1000 := fun x hx => HSm.out x (grow_mem f [(p, none)] p.kids (k + 1) x hx)
        rw [← HA.out, HAl.out] at hG
        rw [hG] at hle hsub
        have hmem : p.kids.getD k pt0 ∈ p.kids := by simp [List.getD_eq_getElem?_getD, List.getElem?_eq_getElem hkP]
        obtain ⟨P1, hP1⟩ : ∃ P1, p.kids.getD k pt0 = P1 := ⟨_, rfl⟩
        rw [hP1] at HP1 hG hle hsub hmem
        obtain ⟨a1, a2, a3, a4, hC1, hH1⟩ := HP1
        obtain ⟨T, hTT⟩ : ∃ T, tree f P1 = T := ⟨_, rfl⟩
        rw [hTT] at hG hle hsub
        rw [List.length_append, List.length_map, HAl.out] at hle
        have hmT : m + T.length ≤ 1000 := Nat.le_trans hle HLe.out
        have hTs : ∀ x ∈ T, inOf x ≤ 1000 := fun x hx => by
          have := hsub (sub m x) (List.mem_append.2 (.inr (List.mem_map.2 ⟨x, hx, rfl⟩)))
          rw [inOf_sub] at this
          split at this <;> omega
        have IH1 : Hid (∀ w', Below wr.heap.size wr w' → Calls Tryd.prog 69 #[.agg #[.string P1.ty, .string P1.cs, .string P1.id, .string P1.loc, .int .i64 P1.how, .slice a1 P1.body.length a2, .slice a3 P1.kids.length a4]] w' fun e w'' => WhichPost (T.map inOf) w' e w'') := fun w' hb => by
          have := IH.out F' P1 a1 a2 a3 a4 w' hmem (by rw [hTT]; omega) (by rw [hTT]; exact hTs) (hH1.below hb)
          rwa [hTT] at this
        obtain ⟨d0, d1, d2, d3, d4, d5, d6⟩ := hC1
        have hbB : bp < wr.heap.size := World.block_lt_of_cell? wr _ d0
        have HG : Hid (grow f [(p, none)] (p.kids.take (k + 1)) = A ++ T.map (sub m)) := hG
        have HTs : Hid (∀ x ∈ T, inOf x ≤ 1000) := hTs
        obtain ⟨mt, hmt⟩ : ∃ mt, T.length = mt := ⟨_, rfl⟩
        have HMT : Hid (T.length = mt) := hmt
        rw [hmt] at hmT
        clear hPp hP1 hH1 HKP hG hle hsub hmem hTT hTs hmt
        obtain ⟨pt1, pc1, pi1, pl1, ph1, pb1, pk1⟩ := P1
        simp only at d0 d1 d2 d3 d4 d5 d6 IH1
        generalize pb1.length = m1 at *
        generalize pk1.length = m2 at *
        have hgl := (HO.out.lt g rfl).2
        have hba := (Below.refl wr.heap.size wr).alloc (Nat.le_refl _) (.cells #[.string pt1, .string pc1, .string pi1, .string pl1, .int .i64 ph1, .slice a1 m1 a2, .slice a3 m2 a4] 65)
        go_wp2_with fail
        refine (IH1.out _ hba).mono ?_
        rintro e w3 ⟨g2, c2, rfl, hb3, hv3⟩
        have hbel3 : Below w1.heap.size w1 w3 := hbr.trans ((hba.trans (hb3.mono (by simp))).mono hsr)
        have HV : Hid (w3.ownsRow 0 3 1 (.slice (some ⟨g2, 0, none⟩) mt c2) mt (izv (T.map inOf))) := by
          have := owns_weaken hv3 (Nat.zero_le _)
          rw [List.length_map, HMT.out] at this
          exact this
        have HO3 : Hid (w3.ownsRow w1.heap.size 3 1 (.slice (some ⟨g, 0, none⟩) m c) m (izv (A.map inOf))) := ownsRow_below (HO.out.alloc _) hb3
        have HNE : Hid (g ≠ g2) := by
          have h1 := (hv3.lt g2 rfl).1
          simp at h1
          unfold Hid
          omega
        simp only [List.length_map, HMT.out]
        clear IH1 hv3 hb3 HO hba d0 d1 d2 d3 d4 d5 d6
        go_wp2_with fail
        go_loopw [3, 22] (fun ov iv ws => ∃ (j g' c' : Nat), j ≤ mt ∧ iv = .int .i64 j ∧ ov = .slice (some ⟨g', 0, none⟩) (m + j) c' ∧ Below w1.heap.size w1 ws ∧ Hid (ws.ownsRow w1.heap.size 3 1 (.slice (some ⟨g', 0, none⟩) (m + j) c') (m + j) (izv (A.map inOf ++ (T.take j).map fun x => inOf (sub m x)))) ∧ Hid (ws.ownsRow 0 3 1 (.slice (some ⟨g2, 0, none⟩) mt c2) mt (izv (T.map inOf))) ∧ Hid (g' ≠ g2)) (fun _ iv _ => mt - (intOf iv).toNat)
        case atStart => exact ⟨0, g, c, Nat.zero_le _, rfl, rfl, hbel3, by unfold Hid; rw [List.take_zero, List.map_nil, List.append_nil]; exact HO3.out, HV, HNE⟩
        case round =>
          obtain ⟨j, g', c', hj, rfl, rfl, hbs, HOs, HVs, HNEs⟩ := hrel
          have hss := hbs.size
          by_cases hlt2 : j < mt
          · have hlz2 : (j : Int) < (mt : Int) := by omega
            have hjT : j < T.length := by rw [HMT.out]; exact hlt2
            obtain ⟨v, hv⟩ : ∃ v, inOf T[j] = v := ⟨_, rfl⟩
            have cj : wr.cell? ⟨g2, j, none⟩ = some (.int .i64 v) := by
              rw [HVs.out.cellAt j (by omega), izv, List.getElem?_map, List.getElem?_map, List.getElem?_eq_getElem hjT]
              simp [hv]
            have v1 : -1 ≤ v := by rw [← hv]; exact inOf_ge _
            have v2 : v ≤ 1000 := by rw [← hv]; exact HTs.out _ (List.getElem_mem hjT)
            have hg2 := (HVs.out.lt g2 rfl).2
            have HTk : Hid ((T.take (j + 1)).map (fun x => inOf (sub m x)) = (T.take j).map (fun x => inOf (sub m x)) ++ [if v < 0 then 0 else v + (m : Int)]) := by
              unfold Hid
              rw [List.take_add_one, List.getElem?_eq_getElem hjT, List.map_append]
              congr 1
              show [inOf (sub m T[j])] = _
              rw [inOf_sub, hv]
            clear hv
            by_cases hv0 : v < 0
            · obtain ⟨g9, c9, w9, hrun, hown9, hg9, hwhere⟩ := append_one (wr.alloc (.cells #[.int .i64 0] 3)) w1.heap.size g' (m + j) c' _ (HOs.out.alloc _) ⟨wr.heap.size, 0, none⟩ 0 (cell_lone _ _ _ _ rfl) (by omega) (by simp; omega)
              have hb9 : Below w1.heap.size w1 w9 := (hbs.alloc hss _).grown hg9 (by simp; omega) (fun q hq => (HOs.out.lt q hq).1)
              have R9 : Hid (w9.ownsRow w1.heap.size 3 1 (.slice (some ⟨g9, 0, none⟩) (m + (j + 1)) c9) (m + (j + 1)) (izv (A.map inOf ++ (T.take (j + 1)).map fun x => inOf (sub m x)))) := by
                unfold Hid
                rw [HTk.out, if_pos hv0, ← List.append_assoc]
                simpa [izv, Nat.add_assoc] using hown9
              have HV9 : Hid (w9.ownsRow 0 3 1 (.slice (some ⟨g2, 0, none⟩) mt c2) mt (izv (T.map inOf))) := (HVs.out.alloc _).kept hg9 (.inr (by simp only [Value.ownBlock, ne_eq, Option.some.injEq]; exact fun e => HNEs.out e.symm))
              have HNE9 : Hid (g9 ≠ g2) := by
                unfold Hid
                rcases hwhere with h | h
                · rw [h]; exact HNEs.out
                · simp at h; omega
              clear hown9 hg9 hwhere HOs HVs HNEs HTk
              go_wp2_with (at_builtin; refine Lib.wpList_append_run _ rfl (.tmp 28) (.tmp 29) 68 68 rfl _ _ rfl rfl _ _ (hrun _) ?_)
              clear hrun
              go_wp2_with fail
              go_roundw
              case rel => exact ⟨j + 1, g9, c9, by omega, by go_num, rfl, hb9, R9, HV9, HNE9⟩
              case measure => simp [intOf]; omega
            · have hv0z : ¬ v < 0 := hv0
              obtain ⟨g9, c9, w9, hrun, hown9, hg9, hwhere⟩ := append_one (wr.alloc (.cells #[.int .i64 (v + (m : Int))] 3)) w1.heap.size g' (m + j) c' _ (HOs.out.alloc _) ⟨wr.heap.size, 0, none⟩ (v + (m : Int)) (cell_lone _ _ _ _ rfl) (by omega) (by simp; omega)
              have hb9 : Below w1.heap.size w1 w9 := (hbs.alloc hss _).grown hg9 (by simp; omega) (fun q hq => (HOs.out.lt q hq).1)
              have R9 : Hid (w9.ownsRow w1.heap.size 3 1 (.slice (some ⟨g9, 0, none⟩) (m + (j + 1)) c9) (m + (j + 1)) (izv (A.map inOf ++ (T.take (j + 1)).map fun x => inOf (sub m x)))) := by
                unfold Hid
                rw [HTk.out, if_neg hv0, ← List.append_assoc]
                simpa [izv, Nat.add_assoc] using hown9
              have HV9 : Hid (w9.ownsRow 0 3 1 (.slice (some ⟨g2, 0, none⟩) mt c2) mt (izv (T.map inOf))) := (HVs.out.alloc _).kept hg9 (.inr (by simp only [Value.ownBlock, ne_eq, Option.some.injEq]; exact fun e => HNEs.out e.symm))
              have HNE9 : Hid (g9 ≠ g2) := by
                unfold Hid
                rcases hwhere with h | h
                · rw [h]; exact HNEs.out
                · simp at h; omega
              clear hown9 hg9 hwhere HOs HVs HNEs HTk
              go_wp2_with (at_builtin; refine Lib.wpList_append_run _ rfl (.tmp 31) (.tmp 35) 68 68 rfl _ _ rfl rfl _ _ (hrun _) ?_)
              clear hrun
              go_wp2_with fail
              go_roundw
              case rel => exact ⟨j + 1, g9, c9, by omega, by go_num, rfl, hb9, R9, HV9, HNE9⟩
              case measure => simp [intOf]; omega
          · have hlz2 : ¬ ((j : Int) < (mt : Int)) := by omega
            obtain rfl : j = mt := by omega
            have R9 : Hid (wr.ownsRow w1.heap.size 3 1 (.slice (some ⟨g', 0, none⟩) (m + j) c') (m + j) (izv ((A ++ T.map (sub m)).map inOf))) := by
              have h := HOs.out
              rw [List.take_of_length_le (by rw [HMT.out]; omega)] at h
              unfold Hid
              rw [List.map_append, List.map_map]
              exact h
            have HL9 : Hid ((A ++ T.map (sub m)).length = m + j) := by unfold Hid; rw [List.length_append, List.length_map, HAl.out, HMT.out]
            clear HOs HVs HNEs
            go_wp2_with fail
            go_roundw
            case rel => exact ⟨k + 1, m + j, g', c', A ++ T.map (sub m), by omega, by go_num, rfl, hbs, R9, HG.out.symm, HL9⟩
            case measure => simp [intOf]; omega
      · have hlz : ¬ ((k : Int) < (n : Int)) := by omega
        have HRA : Hid (A = RES) := by unfold Hid; rw [HA.out, List.take_of_length_le (by rw [HN.out]; omega), HR.out]
        have HL2 : Hid ((RES.map inOf).length = m) := by unfold Hid; rw [List.length_map, ← HRA.out]; exact HAl.out
        have HO2 : Hid (wr.ownsRow w.heap.size 3 1 (.slice (some ⟨g, 0, none⟩) m c) m (izv (RES.map inOf))) := by unfold Hid; rw [← HRA.out]; exact owns_weaken HO.out hb1.size
        clear HKP IH HO HA
        go_wp2_with fail
        go_ret
        refine ⟨g, c, ?_, hb1.trans (hbr.mono hb1.size), ?_⟩
        · rw [HL2.out]; rfl
        · rw [HL2.out]; exact HO2.out
end Go.Proofs.YtehiaenicfmpbaaDoor
