/- part.All: what the plain function says; nothing that was there is changed. Condition: the part lies there. -/
import Derived.Test.YtehiaenicfmpbaaDoorXpartsaysupto8
import Derived.Test.YtehiaenicfmpbaaDoorXpartsaysupto2
namespace Go.Proofs.YtehiaenicfmpbaaDoor
open Go.RowKit

theorem owns_apart {w : World} {B1 e1 s1 n1 B2 e2 s2 n2 : Nat} {v1 v2 : Value} {x1 x2 : List Value} (h1 : w.ownsRow B1 e1 s1 v1 n1 x1) (h2 : w.ownsRow B2 e2 s2 v2 n2 x2) (hne : e1 ≠ e2) : v1.ownBlock = none ∨ v1.ownBlock ≠ v2.ownBlock := by
  rcases h1.2 with ⟨rfl, _⟩ | ⟨g, cap, cur, rfl, _, hg, _⟩
  · exact .inl rfl
  · rcases h2.2 with ⟨rfl, _⟩ | ⟨g', cap', cur', rfl, _, hg', _⟩
    · exact .inr (by simp [Value.ownBlock])
    · refine .inr fun e => ?_
      simp only [Value.ownBlock, Option.some.injEq] at e
      subst e
      rw [hg] at hg'
      injection hg' with hg'
      injection hg' with _ h _
      exact hne h

theorem owns_set {w : World} {B e s n : Nat} {v : Value} {xs : List Value} (h : w.ownsRow B e s v n xs) (a : Addr) (u : Value) (ha : a.block < B) : (w.setCell a u).ownsRow B e s v n xs := by
  refine ⟨h.1, ?_⟩
  rcases h.2 with h | ⟨g, cap, cur, e1, e2, e3, r⟩
  · exact .inl h
  · exact .inr ⟨g, cap, cur, e1, e2, by rw [heap_setCell_other w a g u (by omega)]; exact e3, r⟩

theorem set_other {w : World} {b i j : Nat} {v : Value} (h : i ≠ j) : (w.setCell ⟨b, i, none⟩ v).cell? ⟨b, j, none⟩ = w.cell? ⟨b, j, none⟩ := World.cell?_setCell_other _ _ _ _ (fun e => h (congrArg Addr.off e))

/-- bytes.Clone. -/
theorem bclone_any (pb : Option Addr) (body : List UInt8) (n cb : Nat) (en : n = body.length) (w : World) (hr : BRow w pb body) (hn : n ≤ 140737488355328) :
    Calls Tryd.prog 122 #[.slice pb n cb] w fun e w' => ∃ q c, e = .returned (.slice q n c) ∧ w'.ownsRow w.heap.size 5 1 (.slice q n c) n (bv body) ∧ Below w.heap.size w w' := by
  subst en
  cases pb with
  | none =>
    have h0 : body = [] := by
      cases hb : body with
      | nil => rfl
      | cons a l => obtain ⟨b, o, e, _⟩ := hr (by rw [hb]; simp); cases e
    subst h0
    refine (Tryd.bytes_Clone_nil 0 cb w).mono ?_
    rintro e w' ⟨rfl, rfl⟩
    exact ⟨none, 0, rfl, World.ownsRow_nil _ _ _ _, Below.refl _ _⟩
  | some a =>
    refine (Tryd.bytes_Clone_at a body.length cb (body.map fun c => ((c.toNat : Nat) : Int)) w (by simp) hn (fun i hi => ?_)).mono ?_
    · obtain ⟨b, o, e, hc⟩ := hr (fun h => by rw [h] at hi; simp at hi)
      obtain rfl := Option.some.inj e
      have := hc i hi
      rw [Addr.add_lit, this]
      simp [List.getD_eq_getElem?_getD, List.getElem?_eq_getElem hi]
    · rintro e w' ⟨v, rfl, hown, _, hb⟩
      obtain ⟨q, c, rfl⟩ := owned_slice hown
      refine ⟨q, c, rfl, ?_, hb⟩
      rw [List.map_map] at hown
      exact hown

/-- Parts without parts, as they lie in memory that the call owns: where their bodies lie. -/
abbrev PY := PT × Option Addr × Nat
def pav (Y : List PY) : List Value := Y.flatMap fun y => [.string y.1.ty, .string y.1.cs, .string y.1.id, .string y.1.loc, .int .i64 y.1.how, .slice y.2.1 y.1.body.length y.2.2, .slice none 0 0]
theorem pav_snoc (Y : List PY) (y : PY) : pav (Y ++ [y]) = pav Y ++ [.string y.1.ty, .string y.1.cs, .string y.1.id, .string y.1.loc, .int .i64 y.1.how, .slice y.2.1 y.1.body.length y.2.2, .slice none 0 0] := by simp [pav]
theorem pa_at (Y : List PY) (k : Nat) (y : PY) (h : Y[k]? = some y) (j : Nat) (v : Value) (hj : [Value.string y.1.ty, .string y.1.cs, .string y.1.id, .string y.1.loc, .int .i64 y.1.how, .slice y.2.1 y.1.body.length y.2.2, .slice none 0 0][j]? = some v) : (pav Y)[k * 7 + j]? = some v := by
  induction Y generalizing k with
  | nil => simp at h
  | cons z Y ih =>
    have hj7 : j < 7 := by have := (List.getElem?_eq_some_iff.1 hj).1; simpa using this
    show ([Value.string z.1.ty, .string z.1.cs, .string z.1.id, .string z.1.loc, .int .i64 z.1.how, .slice z.2.1 z.1.body.length z.2.2, .slice none 0 0] ++ pav Y)[k * 7 + j]? = some v
    cases k with
    | zero =>
      obtain rfl := Option.some.inj h
      rw [List.getElem?_append_left (by simp; omega), Nat.zero_mul, Nat.zero_add]
      exact hj
    | succ k =>
      rw [List.getElem?_append_right (by simp; omega)]
      have := ih k (by simpa using h)
      rw [← this]
      congr 1
      simp
      omega
/-- All that hangs at them is owned, too. -/
def Bodies (w : World) (B : Nat) (Y : List PY) : Prop := ∀ y ∈ Y, y.1.kids = [] ∧ PLen y.1 ∧ w.ownsRow B 5 1 (.slice y.2.1 y.1.body.length y.2.2) y.1.body.length (bv y.1.body)

theorem owned_parts {w : World} {B : Nat} {v : Value} {Y : List PY} (h : w.ownsRow B 65 7 v Y.length (pav Y)) (hb : Bodies w B Y) : ∃ p c, v = .slice p Y.length c ∧ Y.length ≤ c ∧ c ≤ maxLen ∧ (p = none → Y.length = 0 ∧ c = 0) ∧ KAt w 1 p (Y.map (·.1)) := by
  have h' := h
  rcases h.2 with ⟨rfl, h0⟩ | ⟨g, cap, cur, rfl, hg, hh, hnc, hcp, hcs, htake⟩
  · refine ⟨none, 0, by rw [h0], by omega, by decide, fun _ => ⟨h0, rfl⟩, ?_⟩
    rw [List.length_eq_zero_iff.1 h0]
    exact KAt.nil _ _ _
  · refine ⟨some ⟨g, 0, none⟩, cap, rfl, hnc, hcp, fun e => (by cases e), KAt.mk fun i hi => ?_⟩
    have hi' : i < Y.length := by simpa using hi
    have hy : Y[i]? = some Y[i] := List.getElem?_eq_getElem hi'
    have e : (Y.map (·.1)).getD i pt0 = Y[i].1 := by simp [List.getD_eq_getElem?_getD, hi']
    obtain ⟨k0, k1, k2⟩ := hb Y[i] (List.getElem_mem hi')
    obtain ⟨q, c, e2, k3, k4, k5, k6⟩ := owned_row k2
    injection e2 with e3 e4 e5
    rw [e]
    have cell : ∀ j v, [Value.string Y[i].1.ty, .string Y[i].1.cs, .string Y[i].1.id, .string Y[i].1.loc, .int .i64 Y[i].1.how, .slice Y[i].2.1 Y[i].1.body.length Y[i].2.2, .slice none 0 0][j]? = some v → j < 7 → w.cell? ⟨g, 0 + i * 7 + j, none⟩ = some v := fun j v hj h7 => by
      rw [h'.cellAt (0 + i * 7 + j) (by omega), Nat.zero_add]
      exact pa_at Y i Y[i] hy j v hj
    refine ⟨Y[i].2.1, Y[i].2.2, none, 0, ⟨cell 0 _ rfl (by omega), cell 1 _ rfl (by omega), cell 2 _ rfl (by omega), cell 3 _ rfl (by omega), cell 4 _ rfl (by omega), cell 5 _ rfl (by omega), by rw [k0]; exact cell 6 _ rfl (by omega)⟩, k1, ?_, ?_, ?_, ?_⟩
    · rw [e5]; exact ⟨k3, k4, fun h => (k5 (e3 ▸ h)).2⟩
    · rw [e3]; exact k6
    · rw [k0]; exact ⟨Nat.le_refl _, by decide, fun _ => rfl⟩
    · exact k0

def AllPost (w : World) (r : Nat × List (PT × Int)) (e : Ending) (w' : World) : Prop :=
  Below w.heap.size w w' ∧ (r.1 ≠ 0 → e = .returned (.tuple #[.slice none 0 0, .int .i64 (r.1 : Int)])) ∧
  (r.1 = 0 → ∃ q c, e = .returned (.tuple #[.slice q r.2.length c, .int .i64 0]) ∧ r.2.length ≤ c ∧ c ≤ maxLen ∧ (q = none → c = 0) ∧ KAt w' 1 q (r.2.map fun x => x.1.alone))

theorem info_part : (Tryd.prog.info? 65).map (fun i => (i.zero, i.size, i.bytes)) = some (some (.agg #[.string ⟨#[]⟩, .string ⟨#[]⟩, .string ⟨#[]⟩, .string ⟨#[]⟩, .int .i64 0, .slice none 0 0, .slice none 0 0]), 7, 120) := by kernel_rfl

theorem cell_seven (w : World) (c : List Value) (t : TypeId) (b : Nat) (hb : b = w.heap.size) : ∀ j x, c[j]? = some x → (w.alloc (.cells c.toArray t)).cell? ((⟨b, 0, none⟩ : Addr).add j) = some x := by
  subst hb
  intro j x hj
  rw [Addr.add_lit, Nat.zero_add]
  simp [hj]

/-- What a block of seven that was made holds behind calls. -/
theorem made_seven {w w1 : World} {t : TypeId} {a b c d e f g : Value} (hb : Below (w.alloc (.cells #[a, b, c, d, e, f, g] t)).heap.size (w.alloc (.cells #[a, b, c, d, e, f, g] t)) w1) (k : Nat) (hk : k = w.heap.size) :
    w1.cell? ⟨k, 0, none⟩ = some a ∧ w1.cell? ⟨k, 1, none⟩ = some b ∧ w1.cell? ⟨k, 2, none⟩ = some c ∧ w1.cell? ⟨k, 3, none⟩ = some d ∧ w1.cell? ⟨k, 4, none⟩ = some e ∧ w1.cell? ⟨k, 5, none⟩ = some f ∧ w1.cell? ⟨k, 6, none⟩ = some g ∧
      w1.frozen? ⟨k, 5, none⟩ = false ∧ w1.frozen? ⟨k, 6, none⟩ = false ∧ k < w1.heap.size ∧ Below w.heap.size w w1 := by
  subst hk
  have hs := hb.size
  rw [World.size_alloc] at hs
  refine ⟨?_, ?_, ?_, ?_, ?_, ?_, ?_, ?_, ?_, by omega, ((Below.refl _ _).alloc (Nat.le_refl _) _).trans (hb.mono (by simp))⟩
  · rw [hb.cell (p := ⟨w.heap.size, 0, none⟩) (by simp)]; simp
  · rw [hb.cell (p := ⟨w.heap.size, 1, none⟩) (by simp)]; simp
  · rw [hb.cell (p := ⟨w.heap.size, 2, none⟩) (by simp)]; simp
  · rw [hb.cell (p := ⟨w.heap.size, 3, none⟩) (by simp)]; simp
  · rw [hb.cell (p := ⟨w.heap.size, 4, none⟩) (by simp)]; simp
  · rw [hb.cell (p := ⟨w.heap.size, 5, none⟩) (by simp)]; simp
  · rw [hb.cell (p := ⟨w.heap.size, 6, none⟩) (by simp)]; simp
  · rw [hb.frozen (p := ⟨w.heap.size, 5, none⟩) (by simp)]; simp
  · rw [hb.frozen (p := ⟨w.heap.size, 6, none⟩) (by simp)]; simp

theorem firstBad_each : ∀ (L : List (PT × Int)), firstBad L = 0 → ∀ x ∈ L, chkA x.1 = 0
  | [], _, x, hx => by cases hx
  | y :: L, h, x, hx => by
    rw [firstBad] at h
    split at h
    · rename_i h0
      rcases List.mem_cons.1 hx with e | e
      · subst e; exact h0
      · exact firstBad_each L h x e
    · rename_i h0; exact absurd h h0
theorem placesP_each (p : PT) : ∀ x ∈ (placesP p).2, chkA x.1 = 0 := by
  unfold placesP
  cases hp : put 4 [] p 1 (-1) with
  | none => intro x hx; cases hx
  | some L =>
    simp only
    by_cases hb : firstBad L = 0
    · rw [if_pos hb]; exact firstBad_each L hb
    · rw [if_neg hb]; intro x hx; cases hx
theorem chkA_body (p : PT) (h : chkA p = 0) : p.body.length ≤ 4000 := by
  unfold chkA at h
  split at h
  · cases h
  · split at h
    · cases h
    · split at h
      · cases h
      · omega

set_option maxHeartbeats 2000000 in
set_option maxRecDepth 100000 in
/-- part.All. -/
theorem all_any (p : PT) (pb : Option Addr) (cb : Nat) (pk : Option Addr) (ck F : Nat) (w : World) (hH : PHeld w F p pb cb pk ck) :
    Calls Tryd.prog 53 #[.agg #[.string p.ty, .string p.cs, .string p.id, .string p.loc, .int .i64 p.how, .slice pb p.body.length cb, .slice pk p.kids.length ck]] w fun e w' => AllPost w (placesP p) e w' := by
  have CC : Hid (∀ w', Below w.heap.size w w' → Calls Tryd.prog 121 #[.agg #[.string p.ty, .string p.cs, .string p.id, .string p.loc, .int .i64 p.how, .slice pb p.body.length cb, .slice pk p.kids.length ck]] w' fun e w'' => CheckedPost w' (placesP p) e w'') := fun w' hb => checked_any p pb cb pk ck F w' (hH.below hb)
  have hfew := placesP_few p
  have HCh : Hid (∀ x ∈ (placesP p).2, chkA x.1 = 0) := placesP_each p
  generalize placesP p = R at *
  clear hH
  obtain ⟨i0, hi, hz0, hz1, hz2⟩ := info_parts info_part
  go_enter Tryd.func53, Tryd.ntmps53
  go_wp2_with fail
  refine (CC.out _ ((Below.refl _ _).alloc (Nat.le_refl _) _)).mono ?_
  rintro e w1 ⟨hb1, h1, h2⟩
  have hbel1 := ((Below.refl _ w).alloc (Nat.le_refl _) _).trans (hb1.mono (by simp))
  by_cases hr : R.1 = 0
  · obtain ⟨q, c, X, rfl, hown, hX⟩ := h2 hr
    have HR0 : Hid (R.1 = 0) := hr
    clear h1 h2 hr CC hb1
    obtain ⟨n, hn⟩ : ∃ n, R.2.length = n := ⟨_, rfl⟩
    have HN : Hid (R.2.length = n) := hn
    rw [hn] at hown hfew
    simp only [hn]
    have HE : Hid (∀ k, k < n → ∃ (g : Nat) (b o : Nat) (y : PT × Int), q = some ⟨g, 0, none⟩ ∧ R.2[k]? = some y ∧ w1.cell? ⟨g, k * 2, none⟩ = some (.pointer (some ⟨b, o, none⟩)) ∧ w1.cell? ⟨g, k * 2 + 1, none⟩ = some (.int .i64 y.2) ∧ ∃ f, PAt w1 f b o y.1) := fun k hk => place_each hown hX hn.symm k hk
    clear hown hX hn
    go_wp2_with fail
    go_loopw [6, 20] (fun ov iv wr => ∃ (k : Nat) (q6 : Option Addr) (n6 c6 : Nat) (Y : List PY), k ≤ n ∧ iv = .int .i64 k ∧ ov = .slice q6 n6 c6 ∧ Below w1.heap.size w1 wr ∧ Hid (wr.ownsRow w1.heap.size 65 7 (.slice q6 n6 c6) k (pav Y)) ∧ Hid (Bodies wr w1.heap.size Y) ∧ Hid (Y.map (·.1) = (R.2.take k).map fun x => x.1.alone)) (fun _ iv _ => n - (intOf iv).toNat)
    case atStart => exact ⟨0, none, 0, 0, [], Nat.zero_le _, rfl, rfl, Below.refl _ _, World.ownsRow_nil _ _ _ _, (fun y hy => by cases hy), rfl⟩
    case round =>
      obtain ⟨k, q6, n6, c6, Y, hk, rfl, rfl, hbr, HO, HB, HY⟩ := hrel
      have hsr := hbr.size
      by_cases hlt : k < n
      · have hlz : (k : Int) < (n : Int) := by omega
        obtain ⟨g, b, o, y, rfl, hy, hc1, hc2, f, hPy⟩ := HE.out k hlt
        have hcr1 := (hbr.cell (World.block_lt_of_cell? w1 _ hc1)).trans hc1
        have hcr2 := (hbr.cell (World.block_lt_of_cell? w1 _ hc2)).trans hc2
        have h4000 : y.1.body.length ≤ 4000 := chkA_body _ (HCh.out y (List.mem_of_getElem? hy))
        have HT : Hid ((R.2.take (k + 1)).map (fun x => x.1.alone) = (R.2.take k).map (fun x => x.1.alone) ++ [y.1.alone]) := by
          unfold Hid
          rw [List.take_add_one, hy]
          simp
        obtain ⟨pb2, cb2, pk2, ck2, hC, hH⟩ := hPy.below hbr
        have HLen : Hid (PLen y.1) := hH.1
        have HBody : Hid (∀ w', Below wr.heap.size wr w' → BRow w' pb2 y.1.body) := fun w' hb => hH.2.2.1.under hb
        clear hc1 hc2 HE hy hPy hH HCh
        obtain ⟨z, hz⟩ : ∃ z, y.2 = z := ⟨_, rfl⟩
        rw [hz] at hcr2
        clear hz
        obtain ⟨⟨ty, cs, id, loc, how, body, kids⟩, iny⟩ := y
        obtain ⟨d0, d1, d2, d3, d4, d5, d6⟩ := hC
        simp only at d0 d1 d2 d3 d4 d5 d6 h4000 HBody
        obtain ⟨nb, hnb⟩ : ∃ nb, body.length = nb := ⟨_, rfl⟩
        have HNB : Hid (nb = body.length) := hnb.symm
        have CB : Hid (∀ w', Below wr.heap.size wr w' → Calls Tryd.prog 122 #[.slice pb2 nb cb2] w' fun e w'' => ∃ q c, e = .returned (.slice q nb c) ∧ w''.ownsRow w'.heap.size 5 1 (.slice q nb c) nb (bv body) ∧ Below w'.heap.size w' w'') := fun w' hb => bclone_any pb2 body nb cb2 hnb.symm w' (HBody.out w' hb) (by omega)
        rw [hnb] at d5 h4000
        obtain ⟨nk, hnk⟩ : ∃ nk, kids.length = nk := ⟨_, rfl⟩
        rw [hnk] at d6
        clear hnb hnk HBody
        have hbB : b < wr.heap.size := World.block_lt_of_cell? wr _ d0
        have hbA : Below wr.heap.size wr ((wr.alloc (.cells #[Value.pointer (some ⟨b, o, none⟩), .int .i64 z] 143)).alloc (.cells #[Value.string ty, .string cs, .string id, .string loc, .int .i64 how, .slice pb2 nb cb2, .slice pk2 nk ck2] 65)) := ((Below.refl _ _).alloc (Nat.le_refl _) _).alloc (by simp) _
        go_wp2_with fail
        refine (CB.out _ hbA).mono ?_
        rintro e w2 ⟨qb, cc, rfl, hob, hb2⟩
        obtain ⟨m0, m1, m2, m3, m4, m5, m6, m7, m8, m9, m10⟩ := made_seven hb2 (wr.heap.size + 1) (by simp)
        have hbW2 : Below wr.heap.size wr w2 := hbA.trans (hb2.mono (by simp; omega))
        have hbW4 : Below wr.heap.size wr ((w2.setCell ⟨wr.heap.size + 1, 5, none⟩ (.slice qb nb cc)).setCell ⟨wr.heap.size + 1, 6, none⟩ (.slice none 0 0)) := (hbW2.setCell (by simp) _).setCell (by simp) _
        have hown4 := ownsRow_below HO.out hbW4
        have hob4 : ((w2.setCell ⟨wr.heap.size + 1, 5, none⟩ (.slice qb nb cc)).setCell ⟨wr.heap.size + 1, 6, none⟩ (.slice none 0 0)).ownsRow w1.heap.size 5 1 (.slice qb nb cc) nb (bv body) :=
          owns_weaken (owns_set (owns_set hob _ _ (by simp)) _ _ (by simp)) (by simp; omega)
        have hs2 : w1.heap.size ≤ w2.heap.size := Nat.le_trans hsr hbW2.size
        obtain ⟨w4, hw4⟩ : ∃ w4, (w2.setCell ⟨wr.heap.size + 1, 5, none⟩ (.slice qb nb cc)).setCell ⟨wr.heap.size + 1, 6, none⟩ (.slice none 0 0) = w4 := ⟨_, rfl⟩
        have hs4 : w4.heap.size = w2.heap.size := by rw [← hw4]; simp
        have k0 : w4.cell? ⟨wr.heap.size + 1, 0, none⟩ = some (.string ty) := by rw [← hw4, set_other (i := 6) (j := 0) (by decide), set_other (i := 5) (j := 0) (by decide)]; exact m0
        have k1 : w4.cell? ⟨wr.heap.size + 1, 1, none⟩ = some (.string cs) := by rw [← hw4, set_other (i := 6) (j := 1) (by decide), set_other (i := 5) (j := 1) (by decide)]; exact m1
        have k2 : w4.cell? ⟨wr.heap.size + 1, 2, none⟩ = some (.string id) := by rw [← hw4, set_other (i := 6) (j := 2) (by decide), set_other (i := 5) (j := 2) (by decide)]; exact m2
        have k3 : w4.cell? ⟨wr.heap.size + 1, 3, none⟩ = some (.string loc) := by rw [← hw4, set_other (i := 6) (j := 3) (by decide), set_other (i := 5) (j := 3) (by decide)]; exact m3
        have k4 : w4.cell? ⟨wr.heap.size + 1, 4, none⟩ = some (.int .i64 how) := by rw [← hw4, set_other (i := 6) (j := 4) (by decide), set_other (i := 5) (j := 4) (by decide)]; exact m4
        have k5 : w4.cell? ⟨wr.heap.size + 1, 5, none⟩ = some (.slice qb nb cc) := by rw [← hw4, set_other (i := 6) (j := 5) (by decide)]; exact World.cell?_setCell_same _ _ _ m5
        have k6 : w4.cell? ⟨wr.heap.size + 1, 6, none⟩ = some (.slice none 0 0) := by rw [← hw4]; exact World.cell?_setCell_same _ _ _ ((set_other (i := 5) (j := 6) (by decide)).trans m6)
        have HB4 : Hid (Bodies w4 w1.heap.size Y) := fun y hy => ⟨(HB.out y hy).1, (HB.out y hy).2.1, by rw [← hw4]; exact ownsRow_below (HB.out y hy).2.2 hbW4⟩
        have HOb4 : Hid (w4.ownsRow w1.heap.size 5 1 (.slice qb nb cc) nb (bv body)) := by unfold Hid; rw [← hw4]; exact hob4
        have HO4 : Hid (w4.ownsRow w1.heap.size 65 7 (.slice q6 n6 c6) k (pav Y)) := by unfold Hid; rw [← hw4]; exact hown4
        have HbW4 : Hid (Below wr.heap.size wr w4) := by unfold Hid; rw [← hw4]; exact hbW4
        clear hob hob4 hown4 hbW4 HB HO hb2 m10 hbA CB d0 d1 d2 d3 d4 d5 d6 hcr1 hcr2
        go_wp2_with (at_builtin; refine wpList_append_own _ rfl (.tmp 33) (.tmp 35) 63 rfl w1.heap.size 65 i0 (.agg #[.string ⟨#[]⟩, .string ⟨#[]⟩, .string ⟨#[]⟩, .string ⟨#[]⟩, .int .i64 0, .slice none 0 0, .slice none 0 0]) 7 120 Tryd.underlying63 hi hz0 hz1 hz2 rfl (by decide) _ _ _ rfl (HO4.out.alloc _) ⟨w2.heap.size, 0, none⟩ 1 1 [.string ty, .string cs, .string id, .string loc, .int .i64 how, .slice qb nb cc, .slice none 0 0] rfl rfl ?c1 ?c2 ?c3 ?c4 ?c5 ?_)
        case c1 => exact cell_seven _ [_, _, _, _, _, _, _] _ _ hs4.symm
        case c2 => intro u hu; simp at hu; rcases hu with rfl | rfl | rfl | rfl | rfl | rfl | rfl <;> rfl
        case c3 => unfold maxLen; omega
        case c4 => omega
        case c5 => simp; omega
        intro v9 w9 hown9 hg9 _
        have hb49 : Below w1.heap.size w1 w4 := hbr.trans (HbW4.out.mono hsr)
        have hb9 : Below w1.heap.size w1 w9 := (hb49.alloc hb49.size _).grown hg9 (by simp; omega) (fun j hj => (HO4.out.lt j hj).1)
        have keep : ∀ {n : Nat} {v : Value} {xs : List Value}, w4.ownsRow w1.heap.size 5 1 v n xs → w9.ownsRow w1.heap.size 5 1 v n xs := fun h => (h.alloc _).kept hg9 (owns_apart h HO4.out (by decide))
        have R9 : Hid (w9.ownsRow w1.heap.size 65 7 v9 (k + 1) (pav (Y ++ [(⟨ty, cs, id, loc, how, body, []⟩, qb, cc)]))) := by unfold Hid; rw [pav_snoc, ← HNB.out]; exact hown9
        have HB9 : Hid (Bodies w9 w1.heap.size (Y ++ [(⟨ty, cs, id, loc, how, body, []⟩, qb, cc)])) := fun y hy => by
          rcases List.mem_append.1 hy with h | h
          · exact ⟨(HB4.out y h).1, (HB4.out y h).2.1, keep (HB4.out y h).2.2⟩
          · obtain rfl := List.mem_singleton.1 h
            obtain ⟨l0, l1, l2, l3, l4, l5, l6, _⟩ := HLen.out
            refine ⟨rfl, ⟨l0, l1, l2, l3, l4, l5, l6, Nat.zero_le _⟩, ?_⟩
            simp only [← HNB.out]
            exact keep HOb4.out
        have HY9 : Hid ((Y ++ [((⟨ty, cs, id, loc, how, body, []⟩, qb, cc) : PY)]).map (·.1) = (R.2.take (k + 1)).map fun x => x.1.alone) := by unfold Hid; rw [HT.out, List.map_append, HY.out]; rfl
        clear hown9 hg9 HO4 HT HB4 HOb4 keep
        obtain ⟨q9, c9, rfl⟩ := owned_slice R9.out
        go_wp2_with fail
        go_roundw
        case rel => exact ⟨k + 1, q9, k + 1, c9, _, by omega, by go_num, rfl, hb9, R9, HB9, HY9⟩
        case measure => simp [intOf]; omega
      · have hlz : ¬ ((k : Int) < (n : Int)) := by omega
        obtain rfl : k = n := by omega
        have hYl : Y.length = k := by
          have := congrArg List.length HY.out
          rw [List.length_map, List.length_map, List.length_take, HN.out] at this
          omega
        have R9 : wr.ownsRow w1.heap.size 65 7 (.slice q6 n6 c6) Y.length (pav Y) := by rw [hYl]; exact HO.out
        obtain ⟨q9, c9, e9, hle, hcm, hnil, hrow⟩ := owned_parts R9 HB.out
        injection e9 with e1 e2 e3
        subst e1 e2 e3
        rw [HY.out, List.take_of_length_le (by rw [HN.out]; omega)] at hrow
        rw [hYl] at hle hnil ⊢
        have HRow : Hid (KAt wr 1 q6 (R.2.map fun x => x.1.alone)) := hrow
        clear hrow R9 HE HO HB HY hYl
        go_wp2_with fail
        go_ret2
        refine ⟨hbel1.trans (hbr.mono hbel1.size), fun h => absurd HR0.out h, fun _ => ⟨q6, c6, ?_, ?_, hcm, fun h => (hnil h).2, HRow.out⟩⟩
        · simp only [HN.out]; rfl
        · rw [HN.out]; exact hle
  · obtain rfl := h1 hr
    clear h1 h2 CC
    have hrz : (((R.1 : Nat) : Int) == 0) = false := by rw [beq_eq_false_iff_ne]; omega
    obtain ⟨r, hrr⟩ : ∃ r, R.1 = r := ⟨_, rfl⟩
    have HR : Hid (R.1 = r) := hrr
    rw [hrr] at hrz hr
    simp only [hrr]
    clear hrr
    go_wp2_with fail
    go_ret2
    exact ⟨hbel1, fun _ => by rw [HR.out]; rfl, fun h => absurd (HR.out.symm.trans h) hr⟩
end Go.Proofs.YtehiaenicfmpbaaDoor

/- Two lists of numbers that agree everywhere are one. No program. -/
namespace Go.Proofs.YtehiaenicfmpbaaDoor
open Go.RowKit

theorem eq_of_getD {xs ys : List Int} {n : Nat} (hx : xs.length = n) (hy : ys.length = n) (h : ∀ j, j < n → xs.getD j 0 = ys.getD j 0) : xs = ys := by
  apply List.ext_getElem (by omega)
  intro i h1 h2
  have := h i (by omega)
  simpa [List.getD_eq_getElem?_getD, List.getElem?_eq_getElem h1, List.getElem?_eq_getElem h2] using this
end Go.Proofs.YtehiaenicfmpbaaDoor

/- slices.Equal at []byte answers whether the two lists of numbers are one; the world is as it was but for draws. Conditions: the cells of both lie there. -/
namespace Go.Proofs.YtehiaenicfmpbaaDoor
open Go.RowKit

set_option maxHeartbeats 1000000 in
theorem equalBytes (p1 p2 : Option Addr) (n m c d : Nat) (xs ys : List Int) (w : World) (hn : n ≤ maxLen) (hm : m ≤ maxLen) (h1 : Row .u8 w p1 n xs) (h2 : Row .u8 w p2 m ys) :
    Calls Tryd.prog 14 #[.slice p1 n c, .slice p2 m d] w fun e w' => e = .returned (.bool (decide (xs = ys))) ∧ ∃ q, w' = w.drewN q := by
  unfold maxLen at hn hm
  obtain ⟨hx, r1⟩ := h1
  obtain ⟨hy, r2⟩ := h2
  by_cases hnm : n = m
  · subst hnm
    by_cases h0 : n = 0
    · subst h0
      have exy : xs = ys := by rw [List.eq_nil_of_length_eq_zero hx, List.eq_nil_of_length_eq_zero hy]
      have hfin : decide (xs = ys) = true := by simp [exy]
      rw [hfin]
      clear r1 r2 exy hfin hx hy
      go_enter Tryd.func14, Tryd.ntmps14
      go_wp2
      refine wp_loop_rounds 1 ?_
      rw [rounds_succ]
      go_wp2
      go_ret
      exact ⟨rfl, 0, rfl⟩
    · obtain ⟨b1, o1, rfl, k1⟩ := r1 h0
      obtain ⟨b2, o2, rfl, k2⟩ := r2 h0
      clear r1 r2
      go_enter Tryd.func14, Tryd.ntmps14
      go_wp2
      go_loopg [13] n (fun g s13 wr => ∃ k q : Nat, k ≤ n ∧ n - k ≤ g ∧ s13 = .int .i64 k ∧ wr = w.drewN q ∧ ∀ j, j < k → xs.getD j 0 = ys.getD j 0)
      case atStart => exact ⟨0, 0, Nat.zero_le _, by omega, rfl, rfl, fun j hj => absurd hj (Nat.not_lt_zero _)⟩
      case round =>
        obtain ⟨k, q, hk, hg, rfl, rfl, heq⟩ := hrel
        by_cases hlt : k < n
        · have g1 : w.cell? ⟨b1, o1 + k, none⟩ = some (.int .u8 (xs.getD k 0)) := k1 k hlt
          have g2 : w.cell? ⟨b2, o2 + k, none⟩ = some (.int .u8 (ys.getD k 0)) := k2 k hlt
          have A : Hid (∀ j, j < k → xs.getD j 0 = ys.getD j 0) := heq
          clear heq k1 k2
          generalize hxk : xs.getD k 0 = x at g1
          generalize hyk : ys.getD k 0 = y at g2
          have B : Hid (xs.getD k 0 = x ∧ ys.getD k 0 = y) := ⟨hxk, hyk⟩
          clear hxk hyk
          by_cases hxy : x = y
          · subst hxy
            go_wp2_with fail
            go_quiet (fail)
            go_wp2
            go_roundg (n - (k + 1))
            case measure => omega
            case rel =>
              refine ⟨k + 1, q + nq, by omega, by omega, by go_num, rfl, fun j hj => ?_⟩
              by_cases e : j = k
              · subst e
                rw [B.out.1, B.out.2]
              · exact A.out j (by omega)
          · go_wp2_with fail
            go_quiet (fail)
            go_wp2
            go_ret
            refine ⟨ret_bool ?_, q + nq, World.drewN_drewN _ _ _⟩
            symm
            rw [decide_eq_false_iff_not]
            intro e
            apply hxy
            rw [← B.out.1, ← B.out.2, e]
        · have : k = n := by omega
          subst this
          have hfin : Hid (decide (xs = ys) = true) := by simp [Hid, eq_of_getD hx hy heq]
          clear k1 k2 heq
          go_wp2
          go_ret
          exact ⟨ret_bool hfin.out.symm, q, rfl⟩
  · have hnm' : ¬ (n : Int) = (m : Int) := by omega
    have hfin : decide (xs = ys) = false := by
      rw [decide_eq_false_iff_not]
      intro e
      apply hnm
      rw [← hx, ← hy, e]
    rw [hfin]
    clear r1 r2 hfin
    go_enter Tryd.func14, Tryd.ntmps14
    go_wp2
    go_ret
    exact ⟨rfl, 0, rfl⟩
end Go.Proofs.YtehiaenicfmpbaaDoor
