/- bundle's shelf: where things stand in memory; from: what the plain function says; nothing is changed. -/
import Derived.Test.YtgnlebbifcmpjaaGreatDoorXbundlegoals16
import Derived.Test.YtgnlebbifcmpjaaGreatDoorXbundlegoals34
import Derived.Test.YtgnlebbifcmpjaaGreatDoorXbundlegoals32
import Derived.Deep.RegionHeld3
namespace Go.Proofs.YtgnlebbifcmpjaaGreatDoor
open Go.RowKit

def tx8 (l : List UInt8) : ByteArray := ⟨l.toArray⟩
theorem tx8_data (l : List UInt8) : (tx8 l).data.toList = l := rfl
theorem tx8_size (l : List UInt8) : (tx8 l).size = l.length := by show l.toArray.size = _; simp
/-- A shelf lies at g: its parts, and where they are. -/
structure SAt (w : World) (g : Nat) (q : Option Addr) (c : Nat) (L : List PT) (wh : List (List UInt8)) : Prop where
  blk : ∃ cs, w.heap[g]? = some (.cells cs 85) ∧ cs[0]? = some (.slice q L.length c) ∧ ∀ i, i < 12 → cs[1 + i]? = some (.string (tx8 (wh.getD i [])))
  few : L.length ≤ 12
  cap : L.length ≤ c ∧ c ≤ maxLen
  kids : KAt w 1 q L
  short : ∀ x ∈ wh, x.length ≤ 120
theorem SAt.slice {w : World} {g : Nat} {q : Option Addr} {c : Nat} {L : List PT} {wh : List (List UInt8)} (h : SAt w g q c L wh) : w.cell? ⟨g, 0, none⟩ = some (.slice q L.length c) := by
  obtain ⟨cs, h1, h2, -⟩ := h.blk
  rw [blk_c h1, h2]
theorem SAt.text {w : World} {g : Nat} {q : Option Addr} {c : Nat} {L : List PT} {wh : List (List UInt8)} (h : SAt w g q c L wh) (i : Nat) (hi : i < 12) : w.cell? ⟨g, 1 + i, none⟩ = some (.string (tx8 (wh.getD i []))) := by
  obtain ⟨cs, h1, -, h3⟩ := h.blk
  rw [blk_c h1, h3 i hi]
theorem SAt.lt {w : World} {g : Nat} {q : Option Addr} {c : Nat} {L : List PT} {wh : List (List UInt8)} (h : SAt w g q c L wh) : g < w.heap.size := by
  obtain ⟨cs, h1, -⟩ := h.blk
  exact (Array.getElem?_eq_some_iff.1 h1).1
theorem SAt.below {w w' : World} {g : Nat} {q : Option Addr} {c : Nat} {L : List PT} {wh : List (List UInt8)} (h : SAt w g q c L wh) (hb : Below w.heap.size w w') : SAt w' g q c L wh := by
  obtain ⟨cs, h1, h2, h3⟩ := h.blk
  exact ⟨⟨cs, blk_on h1 hb, h2, h3⟩, h.few, h.cap, KAt.below hb _ _ _ h.kids, h.short⟩
theorem wh_short {wh : List (List UInt8)} (h : ∀ x ∈ wh, x.length ≤ 120) (i : Nat) : (wh.getD i []).length ≤ 120 := by
  rw [List.getD_eq_getElem?_getD]
  cases hx : wh[i]? with
  | none => simp
  | some y => simpa using h y (List.mem_of_getElem? hx)
theorem tx8_empty (l : List UInt8) : (tx8 l).toList.isEmpty = l.isEmpty := by rw [ByteArray.toList_eq, tx8_data]

set_option maxHeartbeats 2000000 in
/-- bundle's from. -/
theorem from_any (i : Int) (hi : i < 12) (w : World) (g : Nat) (q : Option Addr) (c : Nat) (L : List PT) (wh : List (List UInt8)) (h : SAt w g q c L wh) :
    Calls Tryz.prog 46 #[.pointer (some ⟨g, 0, none⟩), .int .i64 i] w fun e w' => e = .returned (.string (tx8 (fromW wh i))) ∧ w' = w := by
  by_cases h0 : i < 0
  · have HN : Hid (fromW wh i = nowS) := by unfold Hid fromW; rw [if_pos h0]
    clear h
    go_enter Tryz.func46, Tryz.ntmps46
    go_wp2
    go_ret
    exact ⟨by rw [HN.out]; rfl, rfl⟩
  · obtain ⟨k, rfl⟩ : ∃ k : Nat, i = (k : Int) := ⟨i.toNat, by omega⟩
    have hk : k < 12 := by omega
    have hc := h.text k hk
    clear h
    have HE := tx8_empty (wh.getD k [])
    by_cases he : wh.getD k [] = []
    · have HN : Hid (fromW wh k = nowS) := by unfold Hid fromW; rw [if_neg h0, if_pos (by simpa using he)]
      rw [he] at hc HE
      have hE : (tx8 []).toList.isEmpty = true := HE
      clear HE he
      go_enter Tryz.func46, Tryz.ntmps46
      go_wp2
      go_ret
      exact ⟨by rw [HN.out]; rfl, rfl⟩
    · have HN : Hid (fromW wh k = wh.getD k []) := by unfold Hid fromW; rw [if_neg h0, if_neg (by simpa using he)]; simp
      have hE : (tx8 (wh.getD k [])).toList.isEmpty = false := by rw [HE]; simpa using he
      clear HE he
      generalize wh.getD k [] = t at *
      go_enter Tryz.func46, Tryz.ntmps46
      go_wp2
      go_ret
      exact ⟨by rw [HN.out]; rfl, rfl⟩
/-- The texts of a part of the shelf. -/
theorem SAt.part {w : World} {g : Nat} {q : Option Addr} {c : Nat} {L : List PT} {wh : List (List UInt8)} (h : SAt w g q c L wh) (k : Nat) (hk : k < L.length) :
    ∃ b o, q = some ⟨b, o, none⟩ ∧ b < w.heap.size ∧ ∃ pb cb pk ck, PCells w b (o + k * 7) (L.getD k pt0) pb cb pk ck ∧ PHeld w 0 (L.getD k pt0) pb cb pk ck := by
  obtain ⟨b, o, e, hp⟩ := KAt.each h.kids (fun e => by rw [e] at hk; simp at hk)
  exact ⟨b, o, e, (hp k hk).lt, hp k hk⟩
theorem list_eq (a b : ByteArray) : (a.toList == b.toList) = (a.data.toList == b.data.toList) := by rw [ByteArray.toList_eq, ByteArray.toList_eq]

set_option maxHeartbeats 2000000 in
theorem ok1_any (k : Nat) (w : World) (g : Nat) (q : Option Addr) (c : Nat) (L : List PT) (wh : List (List UInt8)) (hk : k < L.length) (h : SAt w g q c L wh) (s0 i0 : Nat) (t : List UInt8) (h1 : w.cell? ⟨s0, 0, none⟩ = some (.pointer (some ⟨g, 0, none⟩))) (h2 : w.cell? ⟨i0, 0, none⟩ = some (.string (tx8 t))) :
    Calls Tryz.prog 94 #[.int .i64 (k : Int), .pointer (some ⟨s0, 0, none⟩), .pointer (some ⟨i0, 0, none⟩)] w fun e w' => e = .returned (.bool (okID t k (L.getD k pt0))) ∧ ∃ m, w' = w.drewN m := by
  obtain ⟨b, o, rfl, -, pb, cb, pk, ck, ⟨-, -, c2, -⟩, -⟩ := h.part k hk
  have hs := h.slice
  have hc1 := h.cap.1
  have hc2 := h.cap.2
  have h12 := h.few
  clear h
  obtain ⟨n, hn⟩ : ∃ n, L.length = n := ⟨_, rfl⟩
  rw [hn] at hk hs hc1 h12
  clear hn
  have HO : Hid (okID t k (L.getD k pt0) = (!(L.getD k pt0).id.toList.isEmpty && ((L.getD k pt0).id.toList == (tx8 t).toList))) := by
    unfold Hid okID
    rw [ByteArray.toList_eq, ByteArray.toList_eq, tx8_data]
  generalize (L.getD k pt0).id = I at *
  generalize okID t k (L.getD k pt0) = R at *
  have hkz : (k : Int) < (n : Int) := by omega
  by_cases he : I.toList.isEmpty = true
  · have HR : Hid (R = false) := by unfold Hid; rw [HO.out, he]; rfl
    clear HO
    go_enter Tryz.func94, Tryz.ntmps94
    go_wp2_with fail
    go_quiet (fail)
    go_wp2_with fail
    go_ret
    exact ⟨by rw [HR.out]; rfl, _, rfl⟩
  · have he : I.toList.isEmpty = false := by simpa using he
    have HR : Hid (R = (I.toList == (tx8 t).toList)) := by unfold Hid; rw [HO.out, he]; rfl
    clear HO
    go_enter Tryz.func94, Tryz.ntmps94
    go_wp2_with fail
    go_quiet (fail)
    go_wp2_with fail
    go_ret
    exact ⟨by rw [HR.out]; rfl, _, rfl⟩
end Go.Proofs.YtgnlebbifcmpjaaGreatDoor

/- bundle's first and find: what the plain functions say; nothing that was there is changed. -/
namespace Go.Proofs.YtgnlebbifcmpjaaGreatDoor
open Go.RowKit

set_option maxHeartbeats 4000000 in
theorem ok2_any (k : Nat) (w : World) (g : Nat) (q : Option Addr) (c : Nat) (L : List PT) (wh : List (List UInt8)) (hk : k < L.length) (h : SAt w g q c L wh) (s0 i0 : Nat) (t : List UInt8) (h1 : w.cell? ⟨s0, 0, none⟩ = some (.pointer (some ⟨g, 0, none⟩))) (h2 : w.cell? ⟨i0, 0, none⟩ = some (.string (tx8 t))) :
    Calls Tryz.prog 95 #[.int .i64 (k : Int), .pointer (some ⟨s0, 0, none⟩), .pointer (some ⟨i0, 0, none⟩)] w fun e w' => e = .returned (.bool (okLoc wh t k (L.getD k pt0))) ∧ Below w.heap.size w w' := by
  obtain ⟨b, o, rfl, hbl, pb, cb, pk, ck, ⟨-, -, -, c3, -⟩, -⟩ := h.part k hk
  have hgl := h.lt
  have hs := h.slice
  have hc1 := h.cap.1
  have hc2 := h.cap.2
  have h12 := h.few
  have ht := h.text k (by omega)
  have hsh : (wh.getD k []).length ≤ 120 := wh_short h.short k
  clear h
  obtain ⟨n, hn⟩ : ∃ n, L.length = n := ⟨_, rfl⟩
  rw [hn] at hk hs hc1 h12
  clear hn
  have HO : Hid (okLoc wh t k (L.getD k pt0) = (!(L.getD k pt0).loc.toList.isEmpty && ((tx8 (noFr (wh.getD k []))).toList == (tx8 t).toList))) := by
    unfold Hid okLoc
    rw [ByteArray.toList_eq, ByteArray.toList_eq, ByteArray.toList_eq, tx8_data, tx8_data]
  have CF : Hid (∀ W, Calls Tryz.prog 92 #[.string (tx8 (wh.getD k []))] W fun e w' => e = .returned (.string (tx8 (noFr (wh.getD k [])))) ∧ Below W.heap.size W w') := fun W => bfrag_any _ (by rw [tx8_size]; unfold maxLen; omega) W
  generalize (L.getD k pt0).loc = I at *
  generalize okLoc wh t k (L.getD k pt0) = R at *
  generalize noFr (wh.getD k []) = NF at *
  generalize wh.getD k [] = wk at *
  have hkz : (k : Int) < (n : Int) := by omega
  have hk12 : (k : Int) < 12 := by omega
  have hk0 : (0 : Int) ≤ (k : Int) := by omega
  by_cases he : I.toList.isEmpty = true
  · have HR : Hid (R = false) := by unfold Hid; rw [HO.out, he]; rfl
    clear HO CF
    go_enter Tryz.func95, Tryz.ntmps95
    go_wp2_with fail
    go_quiet (fail)
    go_wp2_with fail
    go_ret
    exact ⟨by rw [HR.out]; rfl, below_drewN' (Below.refl _ _) _⟩
  · have he : I.toList.isEmpty = false := by simpa using he
    have HR : Hid (R = ((tx8 NF).toList == (tx8 t).toList)) := by unfold Hid; rw [HO.out, he]; rfl
    clear HO
    have k1 : ∀ w', Below w.heap.size w w' → w'.cell? ⟨s0, 0, none⟩ = some (.pointer (some ⟨g, 0, none⟩)) := fun w' hb => (hb.cell (p := ⟨s0, 0, none⟩) (World.block_lt_of_cell? w _ h1)).trans h1
    have k2 : ∀ w', Below w.heap.size w w' → w'.cell? ⟨i0, 0, none⟩ = some (.string (tx8 t)) := fun w' hb => (hb.cell (p := ⟨i0, 0, none⟩) (World.block_lt_of_cell? w _ h2)).trans h2
    have k3 : ∀ w', Below w.heap.size w w' → w'.cell? ⟨g, 0, none⟩ = some (.slice (some ⟨b, o, none⟩) n c) := fun w' hb => (hb.cell (p := ⟨g, 0, none⟩) hgl).trans hs
    have k4 : ∀ w', Below w.heap.size w w' → w'.cell? ⟨g, 1 + k, none⟩ = some (.string (tx8 wk)) := fun w' hb => (hb.cell (p := ⟨g, 1 + k, none⟩) hgl).trans ht
    have k5 : ∀ w', Below w.heap.size w w' → w'.cell? ⟨b, o + k * 7 + 3, none⟩ = some (.string I) := fun w' hb => (hb.cell (p := ⟨b, o + k * 7 + 3, none⟩) hbl).trans c3
    clear h1 h2 hs ht c3
    have hb0 : Below w.heap.size w w := Below.refl _ _
    go_enter Tryz.func95, Tryz.ntmps95
    go_wp2_with fail
    go_region_held3 (fun w' => Below w.heap.size w w') (first | assumption | exact hb0.drew) (first
      | (go_at_call 92; refine (CF.out _).mono ?_; rintro e w1 ⟨rfl, hb1⟩; have hbe1 : Below w.heap.size w w1 := (hb0.drew).trans (hb1.mono (Nat.le_refl _)); clear hb1))
    go_wp2_with fail
    go_ret
    exact ⟨by rw [HR.out]; rfl, hbe1⟩

theorem firstP_skip (ok : Nat → PT → Bool) (L : List PT) (k : Nat) (hk : k < L.length) (h : ¬ (manyS (L.getD k pt0).ty.data.toList = false ∧ ok k (L.getD k pt0) = true)) : firstP ok k (L.drop k) = firstP ok (k + 1) (L.drop (k + 1)) := by
  have e : L.getD k pt0 = L[k] := by rw [List.getD_eq_getElem?_getD, List.getElem?_eq_getElem hk]; rfl
  rw [e] at h
  rw [List.drop_eq_getElem_cons hk, firstP, if_neg h]
theorem firstP_hit (ok : Nat → PT → Bool) (L : List PT) (k : Nat) (hk : k < L.length) (h : manyS (L.getD k pt0).ty.data.toList = false ∧ ok k (L.getD k pt0) = true) : firstP ok k (L.drop k) = k := by
  have e : L.getD k pt0 = L[k] := by rw [List.getD_eq_getElem?_getD, List.getElem?_eq_getElem hk]; rfl
  rw [e] at h
  rw [List.drop_eq_getElem_cons hk, firstP, if_pos h]
set_option maxHeartbeats 4000000 in
set_option maxRecDepth 100000 in
/-- bundle's first, for whatever is asked of a number. -/
theorem first_any (F : Nat) (caps : Array Value) (ok : Nat → PT → Bool) (w : World) (g : Nat) (q : Option Addr) (c : Nat) (L : List PT) (wh : List (List UInt8)) (h : SAt w g q c L wh)
    (hcall : ∀ (args : Array Value) (W : World), Sem.run Tryz.prog (callFunc F args) W = .ok (.enter F args) W)
    (hask : ∀ (k : Nat) (W : World), k < L.length → Below w.heap.size w W → Calls Tryz.prog F (#[.int .i64 (k : Int)] ++ caps) W fun e w' => e = .returned (.bool (ok k (L.getD k pt0))) ∧ Below W.heap.size W w') :
    Calls Tryz.prog 93 #[.pointer (some ⟨g, 0, none⟩), .func (Fn.func F) #[] caps] w fun e w' => e = .returned (.int .i64 (firstP ok 0 L)) ∧ Below w.heap.size w w' := by
  have HS : Hid (SAt w g q c L wh) := h
  have HA : Hid (∀ (k : Nat) (W : World), k < L.length → Below w.heap.size w W → Calls Tryz.prog F (#[.int .i64 (k : Int)] ++ caps) W fun e w' => e = .returned (.bool (ok k (L.getD k pt0))) ∧ Below W.heap.size W w') := hask
  have hs := h.slice
  have hc1 := h.cap.1
  have hc2 := h.cap.2
  have h12 := h.few
  clear h hask
  obtain ⟨n, hn⟩ : ∃ n, L.length = n := ⟨_, rfl⟩
  have HN : Hid (L.length = n) := hn
  rw [hn] at hs hc1 h12
  clear hn
  obtain ⟨R, hR⟩ : ∃ R, firstP ok 0 L = R := ⟨_, rfl⟩
  have HR : Hid (firstP ok 0 L = R) := hR
  rw [hR]
  clear hR
  go_enter Tryz.func93, Tryz.ntmps93
  go_wp2_with fail
  go_loopw [12] (fun iv wr => ∃ k : Nat, k ≤ n ∧ iv = .int .i64 k ∧ Below w.heap.size w wr ∧ Hid (firstP ok k (L.drop k) = R)) (fun iv _ => n - (intOf iv).toNat)
  case atStart => exact ⟨0, Nat.zero_le _, rfl, Below.refl _ _, HR⟩
  case round =>
    obtain ⟨k, hk, rfl, hbr, HK⟩ := hrel
    clear HR
    by_cases hlt : k < n
    · have hlz : (k : Int) < (n : Int) := by omega
      obtain ⟨b, o, rfl, hbl, pb, cb, pk, ck, ⟨c0, c1, c2, c3, c4, c5, c6⟩, hH⟩ := (HS.out.below hbr).part k (by rw [HN.out]; exact hlt)
      have CM : Hid (∀ W, Calls Tryz.prog 25 #[.string (L.getD k pt0).ty] W fun e w' => e = .returned (.bool (manyS (L.getD k pt0).ty.data.toList)) ∧ w' = W) := fun W => pmany_any _ W
      have HCA : Hid (∀ (W : World), Below w.heap.size w W → Calls Tryz.prog F (#[.int .i64 (k : Int)] ++ caps) W fun e w' => e = .returned (.bool (ok k (L.getD k pt0))) ∧ Below W.heap.size W w') := fun W hW => HA.out k W (by rw [HN.out]; exact hlt) hW
      have HSk : Hid (¬ (manyS (L.getD k pt0).ty.data.toList = false ∧ ok k (L.getD k pt0) = true) → firstP ok (k + 1) (L.drop (k + 1)) = R) := fun hn => by rw [← firstP_skip ok L k (by rw [HN.out]; exact hlt) hn]; exact HK.out
      have HHit : Hid (manyS (L.getD k pt0).ty.data.toList = false ∧ ok k (L.getD k pt0) = true → R = k) := fun hn => by rw [← HK.out]; exact firstP_hit ok L k (by rw [HN.out]; exact hlt) hn
      clear hH HK
      have hsz := hbr.size
      generalize ok k (L.getD k pt0) = OK at *
      generalize manyS (L.getD k pt0).ty.data.toList = MA at *
      generalize (L.getD k pt0).body.length = nb at *
      generalize (L.getD k pt0).kids.length = nk at *
      generalize (L.getD k pt0).how = hw at *
      generalize (L.getD k pt0).ty = ty at *
      cases MA with
      | true =>
        have HX : Hid (firstP ok (k + 1) (L.drop (k + 1)) = R) := HSk.out (by simp)
        clear HSk HHit
        go_wp2_with fail
        refine (CM.out _).mono ?_
        rintro e w1 ⟨rfl, rfl⟩
        clear CM
        go_wp2_with fail
        go_roundw
        case rel => exact ⟨k + 1, by omega, by go_num, hbr.alloc hsz _, HX⟩
        case measure => simp [intOf]; omega
      | false =>
        go_wp2_with fail
        refine (CM.out _).mono ?_
        rintro e w1 ⟨rfl, rfl⟩
        clear CM
        go_wp2_with fail
        refine (HCA.out _ (hbr.alloc hsz _)).mono ?_
        rintro e w2 ⟨rfl, hb2⟩
        have hbe2 : Below w.heap.size w w2 := (hbr.alloc hsz _).trans (hb2.mono (by simp; omega))
        clear HCA hb2
        cases OK with
        | true =>
          have HX : Hid (R = k) := HHit.out (by simp)
          clear HSk HHit
          go_wp2_with fail
          go_ret
          exact ⟨by rw [HX.out]; rfl, hbe2⟩
        | false =>
          have HX : Hid (firstP ok (k + 1) (L.drop (k + 1)) = R) := HSk.out (by simp)
          clear HSk HHit
          go_wp2_with fail
          go_roundw
          case rel => exact ⟨k + 1, by omega, by go_num, hbe2, HX⟩
          case measure => simp [intOf]; omega
    · have hlz : ¬ (k : Int) < (n : Int) := by omega
      have HX : Hid (R = -1) := by
        unfold Hid
        rw [← HK.out, List.drop_of_length_le (by rw [HN.out]; omega), firstP]
      clear HK
      go_wp2_with fail
      go_ret
      exact ⟨by rw [HX.out]; rfl, hbr⟩

end Go.Proofs.YtgnlebbifcmpjaaGreatDoor

/- part.Check, part.Within: what the plain functions say; nothing that was there is changed. Condition: the part lies there. -/
namespace Go.Proofs.YtgnlebbifcmpjaaGreatDoor
open Go.RowKit

set_option maxHeartbeats 1000000 in
set_option maxRecDepth 100000 in
/-- part.Within. -/
theorem within_any (p : PT) (pb : Option Addr) (cb : Nat) (pk : Option Addr) (ck F : Nat) (w : World) (hH : PHeld w F p pb cb pk ck) :
    Calls Tryz.prog 91 #[.agg #[.string p.ty, .string p.cs, .string p.id, .string p.loc, .int .i64 p.how, .slice pb p.body.length cb, .slice pk p.kids.length ck]] w fun e w' => WithinPost w (placesP p) e w' := by
  have CC : Hid (∀ w', Below w.heap.size w w' → Calls Tryz.prog 64 #[.agg #[.string p.ty, .string p.cs, .string p.id, .string p.loc, .int .i64 p.how, .slice pb p.body.length cb, .slice pk p.kids.length ck]] w' fun e w'' => CheckedPost w' (placesP p) e w'') := fun w' hb => checked_any p pb cb pk ck F w' (hH.below hb)
  have hfew := placesP_few p
  generalize placesP p = R at *
  clear hH
  obtain ⟨i0, hi, hz0, hz1, hz2⟩ := info_parts info_int
  go_enter Tryz.func91, Tryz.ntmps91
  go_wp2_with fail
  refine (CC.out _ ((Below.refl _ _).alloc (Nat.le_refl _) _)).mono ?_
  rintro e w1 ⟨hb1, h1, h2⟩
  have hbel1 := ((Below.refl _ w).alloc (Nat.le_refl _) _).trans (hb1.mono (by simp))
  by_cases hr : R.1 = 0
  · obtain ⟨q, c, X, rfl, hown, hX⟩ := h2 hr
    have HR0 : Hid (R.1 = 0) := hr
    clear h1 h2 hr CC hb1
    obtain ⟨n, hn⟩ : ∃ n, R.2.length = n := ⟨_, rfl⟩
    have HN : Hid (R.2.length = n) := hn
    rw [hn] at hown hfew
    simp only [hn]
    have HE : Hid (∀ k, k < n → ∃ (g : Nat) (b o : Nat) (y : PT × Int), q = some ⟨g, 0, none⟩ ∧ R.2[k]? = some y ∧ w1.cell? ⟨g, k * 2, none⟩ = some (.pointer (some ⟨b, o, none⟩)) ∧ w1.cell? ⟨g, k * 2 + 1, none⟩ = some (.int .i64 y.2) ∧ ∃ f, PAt w1 f b o y.1) := fun k hk => place_each hown hX hn.symm k hk
    clear hown hX hn
    go_wp2_with fail
    go_loopw [6, 19] (fun ov iv wr => ∃ (k : Nat) (q6 : Option Addr) (n6 c6 : Nat), k ≤ n ∧ iv = .int .i64 k ∧ ov = .slice q6 n6 c6 ∧ Below w1.heap.size w1 wr ∧ Hid (wr.ownsRow w1.heap.size 3 1 (.slice q6 n6 c6) k (izv ((R.2.take k).map (·.2))))) (fun _ iv _ => n - (intOf iv).toNat)
    case atStart => exact ⟨0, none, 0, 0, Nat.zero_le _, rfl, rfl, Below.refl _ _, World.ownsRow_nil _ _ _ _⟩
    case round =>
      obtain ⟨k, q6, n6, c6, hk, rfl, rfl, hbr, HO⟩ := hrel
      have hsr := hbr.size
      by_cases hlt : k < n
      · have hlz : (k : Int) < (n : Int) := by omega
        obtain ⟨g, b, o, y, rfl, hy, hc1, hc2, _⟩ := HE.out k hlt
        have hcr1 := (hbr.cell (World.block_lt_of_cell? w1 _ hc1)).trans hc1
        have hcr2 := (hbr.cell (World.block_lt_of_cell? w1 _ hc2)).trans hc2
        have HT : Hid (izv ((R.2.take (k + 1)).map (·.2)) = izv ((R.2.take k).map (·.2)) ++ [.int .i64 y.2]) := by
          unfold Hid
          rw [List.take_add_one, hy]
          simp [izv]
        clear hc1 hc2 HE hy
        obtain ⟨z, hz⟩ : ∃ z, y.2 = z := ⟨_, rfl⟩
        rw [hz] at hcr2 HT
        clear hz
        go_wp2_with (at_builtin; refine wpList_append_own _ rfl (.tmp 23) (.tmp 26) 133 rfl w1.heap.size 3 i0 (.int .i64 0) 1 8 Tryz.underlying133 hi hz0 hz1 hz2 rfl (by decide) _ _ _ rfl ((HO.out.alloc _).alloc _) ⟨wr.heap.size + 1, 0, none⟩ 1 1 [.int .i64 z] rfl rfl (cell_lone _ _ _ _ (by simp)) (one_int _) ?c3 ?c4 ?c5 ?_)
        case c3 => unfold maxLen; omega
        case c4 => omega
        case c5 => first | omega | (simp; omega)
        intro v9 w9 hown9 hg9 _
        have hb9 : Below w1.heap.size w1 w9 := ((hbr.alloc hsr _).alloc (by simp; omega) _).grown hg9 (by simp; omega) (fun j hj => (HO.out.lt j hj).1)
        have R9 : Hid (w9.ownsRow w1.heap.size 3 1 v9 (k + 1) (izv ((R.2.take (k + 1)).map (·.2)))) := by unfold Hid; rw [HT.out, List.map_take]; exact hown9
        clear hown9 hg9 HO HT
        obtain ⟨q9, c9, rfl⟩ := owned_slice R9.out
        go_wp2_with fail
        go_roundw
        case rel => exact ⟨k + 1, q9, k + 1, c9, by omega, by go_num, rfl, hb9, R9⟩
        case measure => simp [intOf]; omega
      · have hlz : ¬ ((k : Int) < (n : Int)) := by omega
        obtain rfl : k = n := by omega
        have R9 : wr.ownsRow w1.heap.size 3 1 (.slice q6 n6 c6) (R.2.map (·.2)).length (izv (R.2.map (·.2))) := by
          have := HO.out
          rw [List.take_of_length_le (by rw [HN.out]; omega)] at this
          rw [List.length_map, HN.out]
          exact this
        obtain ⟨q9, c9, e9, hle, hcm, hnil, hrow⟩ := owned_ints R9
        injection e9 with e1 e2 e3
        subst e1 e2 e3
        rw [List.length_map, HN.out] at hle hnil
        have HRow : Hid (IRow wr q6 (R.2.map (·.2))) := hrow
        simp only [List.length_map, HN.out]
        clear hrow R9 HE HO
        go_wp2_with fail
        go_ret2
        refine ⟨hbel1.trans (hbr.mono hbel1.size), fun h => absurd HR0.out h, fun _ => ⟨q6, c6, ?_, ?_, hcm, fun h => (hnil h).2, HRow.out⟩⟩
        · simp only [HN.out]; rfl
        · rw [HN.out]; exact hle
  · obtain rfl := h1 hr
    clear h1 h2 CC
    have hrz : (((R.1 : Nat) : Int) == 0) = false := by rw [beq_eq_false_iff_ne]; omega
    obtain ⟨r, hrr⟩ : ∃ r, R.1 = r := ⟨_, rfl⟩
    have HR : Hid (R.1 = r) := hrr
    rw [hrr] at hrz hr
    simp only [hrr]
    clear hrr
    go_wp2_with fail
    go_ret2
    exact ⟨hbel1, fun _ => by rw [HR.out]; rfl, fun h => absurd (HR.out.symm.trans h) hr⟩
end Go.Proofs.YtgnlebbifcmpjaaGreatDoor
