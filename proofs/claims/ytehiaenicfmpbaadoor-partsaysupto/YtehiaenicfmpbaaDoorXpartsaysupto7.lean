/- part.checked, part.Check: what the plain function says; nothing that was there is changed. Condition: the part lies there. -/
import Derived.Test.YtehiaenicfmpbaaDoorXpartsaysupto4
import Derived.Test.YtehiaenicfmpbaaDoorXpartsaysupto6
namespace Go.Proofs.YtehiaenicfmpbaaDoor
open Go.RowKit

theorem PLs.below {w w' : World} {X : List PX} {L : List (PT × Int)} (h : PLs w X L) (hb : Below w.heap.size w w') : PLs w' X L :=
  ⟨h.1, fun i x q hx hq => by
    obtain ⟨e, f, hp⟩ := h.2 i x q hx hq
    exact ⟨e, f, hp.below hb⟩⟩
theorem owns_weaken {w : World} {B B' e s n : Nat} {v : Value} {xs : List Value} (h : w.ownsRow B e s v n xs) (hB : B' ≤ B) : w.ownsRow B' e s v n xs := by
  refine ⟨h.1, ?_⟩
  rcases h.2 with h | ⟨g, cap, cur, e1, e2, r⟩
  · exact .inl h
  · exact .inr ⟨g, cap, cur, e1, by omega, r⟩

/-- A part that was put into memory of its own. -/
theorem boxed {w : World} {F : Nat} {p : PT} {pb : Option Addr} {cb : Nat} {pk : Option Addr} {ck : Nat} (h : PHeld w F p pb cb pk ck) (t : TypeId) (c : Array Value) (hc : c = #[.string p.ty, .string p.cs, .string p.id, .string p.loc, .int .i64 p.how, .slice pb p.body.length cb, .slice pk p.kids.length ck]) :
    PAt (w.alloc (.cells c t)) F w.heap.size 0 p := by
  subst hc
  refine ⟨pb, cb, pk, ck, ⟨?_, ?_, ?_, ?_, ?_, ?_, ?_⟩, h.below ((Below.refl _ _).alloc (Nat.le_refl _) _)⟩ <;> simp

def CheckedPost (w : World) (r : Nat × List (PT × Int)) (e : Ending) (w' : World) : Prop :=
  Below w.heap.size w w' ∧ (r.1 ≠ 0 → e = .returned (.tuple #[.slice none 0 0, .int .i64 (r.1 : Int)])) ∧
  (r.1 = 0 → ∃ q c X, e = .returned (.tuple #[.slice q r.2.length c, .int .i64 0]) ∧ w'.ownsRow w.heap.size 143 2 (.slice q r.2.length c) r.2.length (plv X) ∧ PLs w' X r.2)

theorem placesP_none (p : PT) (h : put 4 [] p 1 (-1) = none) : placesP p = (2, []) := by unfold placesP; rw [h]
theorem placesP_bad (p : PT) (L : List (PT × Int)) (h : put 4 [] p 1 (-1) = some L) (hb : firstBad L ≠ 0) : placesP p = (firstBad L, []) := by unfold placesP; rw [h]; simp only; rw [if_neg hb]
theorem placesP_ok (p : PT) (L : List (PT × Int)) (h : put 4 [] p 1 (-1) = some L) (hb : firstBad L = 0) : placesP p = (0, L) := by unfold placesP; rw [h]; simp only; rw [if_pos hb]

theorem pl_at (X : List PX) (k : Nat) (x : PX) (h : X[k]? = some x) : (plv X)[k * 2]? = some (.pointer (some ⟨x.1.1, x.1.2, none⟩)) ∧ (plv X)[k * 2 + 1]? = some (.int .i64 x.2) := by
  induction X generalizing k with
  | nil => simp at h
  | cons y X ih =>
    cases k with
    | zero => obtain rfl := Option.some.inj h; exact ⟨rfl, rfl⟩
    | succ k =>
      have := ih k (by simpa using h)
      rw [show (k + 1) * 2 = k * 2 + 2 from by omega]
      exact this

theorem firstBad_stop (L : List (PT × Int)) (k : Nat) (q : PT × Int) (h : L[k]? = some q) (hb : firstBad (L.drop k) = firstBad L) (hq : chkA q.1 ≠ 0) : firstBad L = chkA q.1 := by
  obtain ⟨hk, e⟩ := List.getElem?_eq_some_iff.1 h
  rw [← hb, List.drop_eq_getElem_cons hk, e, firstBad, if_neg hq]
theorem firstBad_on (L : List (PT × Int)) (k : Nat) (q : PT × Int) (h : L[k]? = some q) (hb : firstBad (L.drop k) = firstBad L) (hq : chkA q.1 = 0) : firstBad (L.drop (k + 1)) = firstBad L := by
  obtain ⟨hk, e⟩ := List.getElem?_eq_some_iff.1 h
  rw [← hb, List.drop_eq_getElem_cons hk, e, firstBad, if_pos hq]

set_option maxHeartbeats 1000000 in
set_option maxRecDepth 100000 in
/-- part.checked. -/
theorem checked_any (p : PT) (pb : Option Addr) (cb : Nat) (pk : Option Addr) (ck F : Nat) (w : World) (hH : PHeld w F p pb cb pk ck) :
    Calls Tryd.prog 121 #[.agg #[.string p.ty, .string p.cs, .string p.id, .string p.loc, .int .i64 p.how, .slice pb p.body.length cb, .slice pk p.kids.length ck]] w fun e w' => CheckedPost w (placesP p) e w' := by
  obtain ⟨c0, hc0⟩ : ∃ c0, c0 = #[Value.string p.ty, .string p.cs, .string p.id, .string p.loc, .int .i64 p.how, .slice pb p.body.length cb, .slice pk p.kids.length ck] := ⟨_, rfl⟩
  have hPA := boxed hH 65 _ hc0
  obtain ⟨w0, hw0⟩ : ∃ w0, w.alloc (.cells c0 65) = w0 := ⟨_, rfl⟩
  have hbw : Below w.heap.size w w0 := by rw [← hw0]; exact (Below.refl _ _).alloc (Nat.le_refl _) _
  rw [hw0] at hPA
  have CA : Hid (Calls Tryd.prog 163 #[.slice none 0 0, .pointer (some ⟨w.heap.size, 0, none⟩), .int .i64 1, .int .i64 (-1)] w0 fun e w' => PlacesPost w0 (put 4 [] p 1 (-1)) e w') :=
    places_any w0 3 F (.slice none 0 0) [] [] w.heap.size 0 p 1 1 (-1) w0 (by omega) (by omega) rfl (by simp) (Below.refl _ _) (World.ownsRow_nil _ _ _ _) (PLs.nil _) hPA
  have hw0' : w.alloc (.cells #[Value.string p.ty, .string p.cs, .string p.id, .string p.loc, .int .i64 p.how, .slice pb p.body.length cb, .slice pk p.kids.length ck] 65) = w0 := by rw [← hc0]; exact hw0
  clear hPA hH hw0 hc0
  cases hput : put 4 [] p 1 (-1) with
  | none =>
    have HR : Hid (placesP p = (2, [])) := placesP_none p hput
    rw [hput] at CA
    clear hput
    go_enter Tryd.func121, Tryd.ntmps121
    go_wp2_with fail
    refine CA.out.mono ?_
    rintro e w1 ⟨hb1, rfl⟩
    go_wp2_with fail
    go_ret2
    show CheckedPost _ _ _ _
    rw [HR.out]
    exact ⟨hbw.trans (hb1.mono hbw.size), fun _ => rfl, fun h => by cases h⟩
  | some L =>
    have HRb : Hid (firstBad L ≠ 0 → placesP p = (firstBad L, [])) := placesP_bad p L hput
    have HRo : Hid (firstBad L = 0 → placesP p = (0, L)) := placesP_ok p L hput
    have hL12 := (put_length 4 [] L p 1 (-1) (by simp) hput).2
    rw [hput] at CA
    clear hput
    generalize placesP p = RES at *
    go_enter Tryd.func121, Tryd.ntmps121
    go_wp2_with fail
    refine CA.out.mono ?_
    rintro e w1 ⟨hb1, v1, X, rfl, hown, hX⟩
    obtain ⟨q, c, rfl⟩ := owned_slice hown
    have hbel1 := hbw.trans (hb1.mono hbw.size)
    have hXn : X.length = L.length := hX.1
    have hX1 : PLs w1 X L := hX.below hb1
    obtain ⟨n, hn⟩ : ∃ n, L.length = n := ⟨_, rfl⟩
    rw [hn] at hown hXn hL12
    have HN : Hid (L.length = n) := hn
    simp only [hn]
    have HEach : Hid (∀ k, k < n → ∃ (g : Nat) (x : PX) (y : PT × Int), q = some ⟨g, 0, none⟩ ∧ X[k]? = some x ∧ L[k]? = some y ∧ w1.cell? ⟨g, k * 2, none⟩ = some (.pointer (some ⟨x.1.1, x.1.2, none⟩)) ∧ w1.cell? ⟨g, k * 2 + 1, none⟩ = some (.int .i64 x.2) ∧ x.2 = y.2 ∧ ∃ f, PAt w1 f x.1.1 x.1.2 y.1) := fun k hk => by
      rcases hown.2 with ⟨h1, h2⟩ | ⟨g, cap, cur, h1, _⟩
      · omega
      · injection h1 with h1
        subst h1
        have hkX : k < X.length := by omega
        have hkL : k < L.length := by omega
        have e1 := pl_at X k X[k] (List.getElem?_eq_getElem hkX)
        refine ⟨g, X[k], L[k], rfl, List.getElem?_eq_getElem hkX, List.getElem?_eq_getElem hkL, ?_, ?_, hX1.2 k X[k] L[k] (List.getElem?_eq_getElem hkX) (List.getElem?_eq_getElem hkL)⟩
        · rw [hown.cellAt (k * 2) (by omega), e1.1]
        · rw [hown.cellAt (k * 2 + 1) (by omega), e1.2]
    have HOwn : Hid (w1.ownsRow w.heap.size 143 2 (.slice q n c) n (plv X)) := owns_weaken hown hbw.size
    have HX1 : Hid (PLs w1 X L) := hX1
    clear hown hX hX1 CA hb1 hn hXn
    go_wp2_with fail
    go_loopw [17] (fun iv wr => ∃ k : Nat, k ≤ n ∧ iv = .int .i64 k ∧ Below w1.heap.size w1 wr ∧ Hid (firstBad (L.drop k) = firstBad L)) (fun iv _ => n - (intOf iv).toNat)
    case atStart => exact ⟨0, Nat.zero_le _, rfl, Below.refl _ _, rfl⟩
    case round =>
      obtain ⟨k, hk, rfl, hbr, HK⟩ := hrel
      have hsr := hbr.size
      by_cases hlt : k < n
      · have hlz : (k : Int) < (n : Int) := by omega
        obtain ⟨g, x, y, rfl, hx, hy, hc1, hc2, hxy, f, hPy⟩ := HEach.out k hlt
        clear hxy
        have hcr1 := (hbr.cell (World.block_lt_of_cell? w1 _ hc1)).trans hc1
        have hcr2 := (hbr.cell (World.block_lt_of_cell? w1 _ hc2)).trans hc2
        obtain ⟨⟨bx, ox⟩, ix⟩ := x
        simp only at hcr1 hcr2 hPy
        clear hc1 hc2
        have HA : Hid (∀ w', Below w1.heap.size w1 w' → Calls Tryd.prog 164 #[.pointer (some ⟨bx, ox, none⟩)] w' fun e w'' => e = .returned (.int .i64 (chkA y.1 : Nat)) ∧ Below w'.heap.size w' w'') := fun w' hb => by
          obtain ⟨pb2, cb2, pk2, ck2, h1, h2⟩ := hPy.below hb
          exact alone_any bx ox y.1 pb2 cb2 pk2 ck2 w' h1 h2.1
        have hba := hbr.alloc hsr (.cells #[Value.pointer (some ⟨bx, ox, none⟩), .int .i64 ix] 143)
        by_cases hq : chkA y.1 = 0
        · have HK2 : Hid (firstBad (L.drop (k + 1)) = firstBad L) := firstBad_on L k y hy HK.out hq
          rw [hq] at HA
          clear hq HK hy hx hPy HEach
          go_wp2_with fail
          refine (HA.out _ hba).mono ?_
          rintro e w2 ⟨rfl, hb2⟩
          have hbel2 := hba.trans (hb2.mono (by simp; omega))
          clear HA
          go_wp2_with fail
          go_roundw
          case rel => exact ⟨k + 1, by omega, by go_num, hbel2, HK2⟩
          case measure => simp [intOf]; omega
        · have HK2 : Hid (RES = (chkA y.1, [])) := by
            unfold Hid
            have e := firstBad_stop L k y hy HK.out hq
            rw [HRb.out (by rw [e]; exact hq), e]
          have hqz : (((chkA y.1 : Nat) : Int) == 0) = false := by rw [beq_eq_false_iff_ne]; omega
          clear HK hy hx hPy HEach
          generalize chkA y.1 = ans at *
          go_wp2_with fail
          refine (HA.out _ hba).mono ?_
          rintro e w2 ⟨rfl, hb2⟩
          have hbel2 := hba.trans (hb2.mono (by simp; omega))
          clear HA
          go_wp2_with fail
          go_ret2
          show CheckedPost _ _ _ _
          rw [HK2.out]
          exact ⟨hbel1.trans (hbel2.mono hbel1.size), fun _ => rfl, fun h => absurd h hq⟩
      · have hlz : ¬ ((k : Int) < (n : Int)) := by omega
        have HK2 : Hid (RES = (0, L)) := by
          unfold Hid
          refine HRo.out ?_
          rw [← HK.out, List.drop_of_length_le (by rw [HN.out]; omega)]; rfl
        clear HK HEach
        go_wp2_with fail
        go_ret2
        show CheckedPost _ _ _ _
        rw [HK2.out]
        refine ⟨hbel1.trans (hbr.mono hbel1.size), fun h => absurd rfl h, fun _ => ⟨q, c, X, ?_, ?_, HX1.out.below hbr⟩⟩
        · simp only [HN.out]; rfl
        · simp only [HN.out]; exact ownsRow_below HOwn.out hbr
end Go.Proofs.YtehiaenicfmpbaaDoor

/- part.Same of two parts without parts: what the plain function says; nothing that was there is changed. Condition: the parts lie there. -/
namespace Go.Proofs.YtehiaenicfmpbaaDoor
open Go.RowKit

theorem drew_twice (w : World) (a b : Nat) : (w.drewN a).drewN b = w.drewN (a + b) := by
  simp

set_option maxHeartbeats 4000000 in
set_option maxRecDepth 100000 in
/-- part.Same of parts without parts. -/
theorem same1_any (p q : PT) (pb qb : Option Addr) (cb : Nat) (pk qk : Option Addr) (ck cb2 ck2 F F2 : Nat) (w : World) (hH : PHeld w F p pb cb pk ck) (hH2 : PHeld w F2 q qb cb2 qk ck2) (hp : p.kids = []) (hq : q.kids = []) :
    Calls Tryd.prog 58 #[.agg #[.string p.ty, .string p.cs, .string p.id, .string p.loc, .int .i64 p.how, .slice pb p.body.length cb, .slice pk p.kids.length ck], .agg #[.string q.ty, .string q.cs, .string q.id, .string q.loc, .int .i64 q.how, .slice qb q.body.length cb2, .slice qk q.kids.length ck2]] w
      fun e w' => e = .returned (.bool (sameA p q)) ∧ Below w.heap.size w w' := by
  have hA := boxed hH 65 _ rfl
  have hb1 : Below w.heap.size w (w.alloc (.cells #[Value.string p.ty, .string p.cs, .string p.id, .string p.loc, .int .i64 p.how, .slice pb p.body.length cb, .slice pk p.kids.length ck] 65)) := (Below.refl _ _).alloc (Nat.le_refl _) _
  have hB := boxed (hH2.below hb1) 65 _ rfl
  have hA2 := hA.below ((Below.refl _ _).alloc (Nat.le_refl _) (.cells #[Value.string q.ty, .string q.cs, .string q.id, .string q.loc, .int .i64 q.how, .slice qb q.body.length cb2, .slice qk q.kids.length ck2] 65))
  have hb2 := hb1.alloc hb1.size (.cells #[Value.string q.ty, .string q.cs, .string q.id, .string q.loc, .int .i64 q.how, .slice qb q.body.length cb2, .slice qk q.kids.length ck2] 65)
  rw [World.size_alloc] at hB
  obtain ⟨w2, hw2⟩ : ∃ w2, (w.alloc (.cells #[Value.string p.ty, .string p.cs, .string p.id, .string p.loc, .int .i64 p.how, .slice pb p.body.length cb, .slice pk p.kids.length ck] 65)).alloc (.cells #[Value.string q.ty, .string q.cs, .string q.id, .string q.loc, .int .i64 q.how, .slice qb q.body.length cb2, .slice qk q.kids.length ck2] 65) = w2 := ⟨_, rfl⟩
  rw [hw2] at hA2 hB hb2
  have hsz2 : w2.heap.size = w.heap.size + 2 := by rw [← hw2]; simp
  have hb3 := hb2.alloc hb2.size (.cells #[Value.pointer (some ⟨w.heap.size, 0, none⟩), .pointer (some ⟨w.heap.size + 1, 0, none⟩)] 148)
  obtain ⟨w3, hw3⟩ : ∃ w3, w2.alloc (.cells #[Value.pointer (some ⟨w.heap.size, 0, none⟩), .pointer (some ⟨w.heap.size + 1, 0, none⟩)] 148) = w3 := ⟨_, rfl⟩
  have hb23 : Below w2.heap.size w2 w3 := by rw [← hw3]; exact (Below.refl _ _).alloc (Nat.le_refl _) _
  have k0 : w3.cell? ⟨w2.heap.size, 0, none⟩ = some (.pointer (some ⟨w.heap.size, 0, none⟩)) := by rw [← hw3]; simp
  have k1 : w3.cell? ⟨w2.heap.size, 1, none⟩ = some (.pointer (some ⟨w.heap.size + 1, 0, none⟩)) := by rw [← hw3]; simp
  rw [hw3] at hb3
  rw [hsz2] at k0 k1
  have hA3 := hA2.below hb23
  have hB3 := hB.below hb23
  obtain ⟨a1, a2, a3, a4, hCa, hHa⟩ := hA3
  obtain ⟨b1, b2, b3, b4, hCb, hHb⟩ := hB3
  have CS : Hid (∀ a n, Calls Tryd.prog 125 #[.pointer (some ⟨w.heap.size, 0, none⟩), .pointer (some ⟨w.heap.size + 1, 0, none⟩)] ((w3.drewN a).drewN n) fun e w' => e = .returned (.bool (sameA p q)) ∧ ∃ m, w' = (w3.drewN a).drewN m) := fun a n => by
    have hbn : Below w3.heap.size w3 ((w3.drewN a).drewN n) := below_drewN' (below_drewN' (Below.refl _ _) a) n
    refine (samea_any w.heap.size 0 (w.heap.size + 1) 0 p q a1 b1 a2 a3 b3 a4 b2 b4 ((w3.drewN a).drewN n) (hCa.below hbn) (hCb.below hbn) (hHa.2.2.1.under hbn) (hHb.2.2.1.under hbn)).mono ?_
    rintro e w' ⟨rfl, k, rfl⟩
    exact ⟨rfl, _, drew_twice _ _ _⟩
  have c6 : w3.cell? ⟨w.heap.size, 6, none⟩ = some (.slice a3 0 a4) := by have := hCa.2.2.2.2.2.2; rw [hp] at this; simpa using this
  have d6 : w3.cell? ⟨w.heap.size + 1, 6, none⟩ = some (.slice b3 0 b4) := by have := hCb.2.2.2.2.2.2; rw [hq] at this; simpa using this
  clear hCa hCb hHa hHb hA hB hA2 hH hH2
  have hw3' : (w2.alloc (.cells #[Value.pointer (some ⟨w.heap.size, 0, none⟩), .pointer (some ⟨w.heap.size + 1, 0, none⟩)] 148)) = w3 := hw3
  generalize sameA p q = S at *
  generalize p.kids.length = nk at *
  generalize q.kids.length = nk2 at *
  generalize p.body.length = nb at *
  generalize q.body.length = nb2 at *
  clear hp hq
  go_enter Tryd.func58, Tryd.ntmps58
  go_wp2_with fail
  refine wp_loop_rounds 2 ?_
  rw [rounds_succ]
  go_wp2_with fail
  go_quiet (fail)
  go_wp2_with fail
  have CS2 : Hid (∀ n, Calls Tryd.prog 125 #[.pointer (some ⟨w.heap.size, 0, none⟩), .pointer (some ⟨w.heap.size + 1, 0, none⟩)] ((w3.drewN nq).drewN n) fun e w' => e = .returned (.bool S) ∧ ∃ m, w' = (w3.drewN nq).drewN m) := fun n => by
    refine (CS.out nq n).mono ?_
    rintro e w' ⟨rfl, k, rfl⟩
    exact ⟨rfl, k, rfl⟩
  have hb4 : Below w.heap.size w (w3.drewN nq) := below_drewN' hb3 nq
  have c64 : (w3.drewN nq).cell? ⟨w.heap.size, 6, none⟩ = some (.slice a3 0 a4) := c6
  have d64 : (w3.drewN nq).cell? ⟨w.heap.size + 1, 6, none⟩ = some (.slice b3 0 b4) := d6
  clear CS k0 k1 c6 d6 hb3 hb23 hw3 hw3'
  generalize w3.drewN nq = w4 at *
  cases S
  · go_quiet (first | (go_at_call 125; exact CS2.out _) | fail)
    go_wp2_with fail
    go_ret
    exact ⟨rfl, below_drewN' hb4 _⟩
  · go_quiet (first | (go_at_call 125; exact CS2.out _) | fail)
    go_wp2_with fail
    refine wp_loop_rounds 1 ?_
    rw [rounds_succ]
    go_wp2_with fail
    rw [rounds_succ]
    go_wp2_with fail
    go_ret
    exact ⟨rfl, below_drewN' hb4 _⟩
end Go.Proofs.YtehiaenicfmpbaaDoor
