
import Derived.Test.YtbbfcbodhmeanaaGreatDoorXbundlemore13
import Derived.Deep.AppendLies
namespace Go.Proofs.YtbbfcbodhmeanaaGreatDoor
open Go.RowKit
def OwnPost (f : Nat) (p : PT) (w : World) (e : Ending) (w' : World) : Prop :=
 ∃ (pb : Option Addr) (cb : Nat) (pk : Option Addr) (ck : Nat) (Z : List PZ), e = .returned (.agg #[.string p.ty, .string p.cs, .string p.id, .string p.loc, .int .i64 p.how, .slice pb p.body.length cb, .slice pk p.kids.length ck]) ∧ Below w.heap.size w w' ∧ Z.map (·.1) = p.kids ∧
  w'.ownsRow w.heap.size 25 7 (.slice pk p.kids.length ck) p.kids.length (pzv Z) ∧
  (∀ z ∈ Z, PFar w' (fun b => w.heap.size ≤ b ∧ (Value.slice pk p.kids.length ck).ownBlock ≠ some b ∧ b < w'.heap.size) f z.1 z.2.1.1 z.2.1.2 z.2.2.1 z.2.2.2) ∧
  InB (fun b => w.heap.size ≤ b ∧ (Value.slice pk p.kids.length ck).ownBlock ≠ some b ∧ b < w'.heap.size) pb ∧ BRow w' pb p.body ∧ (p.body.length ≤ cb ∧ cb ≤ maxLen ∧ (pb = none → cb = 0))
theorem own_far {f : Nat} {p : PT} {w w' : World} {e : Ending} (h : OwnPost f p w e w') (hl : PLen p) : ∃ pb cb pk ck, e = .returned (.agg #[.string p.ty, .string p.cs, .string p.id, .string p.loc, .int .i64 p.how, .slice pb p.body.length cb, .slice pk p.kids.length ck]) ∧ Below w.heap.size w w' ∧ PFar w' (fun b => w.heap.size ≤ b ∧ b < w'.heap.size) (f + 1) p pb cb pk ck := by
 obtain ⟨pb, cb, pk, ck, Z, he, hb, hZ, ho, hz, hi, hr, hc⟩ := h
 obtain ⟨q, c, hv, h1, h2, h3, hk⟩ := KFar.of_list (Q := fun b => w.heap.size ≤ b ∧ b < w'.heap.size) ho (by rw [← hZ, List.length_map]) (fun b h1 h2 => ⟨h1, h2⟩) (fun z hz' => (hz z hz').kind fun b h => ⟨h.1, h.2.2⟩)
 cases hv
 rw [hZ] at hk
 exact ⟨pb, cb, pk, ck, he, hb, fun a ha => ⟨(hi a ha).1, (hi a ha).2.2⟩, hl, hc, hr, ⟨h1, h2, h3⟩, hk⟩
theorem empty_ownO (w : World) (B : Nat) (h : B ≤ w.heap.size) : (w.alloc (.cells #[] 5)).ownsRow B 5 1 (.slice (some ⟨w.heap.size, 0, none⟩) 0 0) ([] : List UInt8).length (bv []) :=
 ⟨rfl, .inr ⟨w.heap.size, 0, #[], rfl, h, heap_alloc_new w _, Nat.le_refl _, by decide, rfl, rfl⟩⟩
theorem o_cells {W : World} {k : Nat} {t : TypeId} {v0 v1 v2 v3 v4 v5 v6 : Value} (h : W.heap[k]? = some (.cells #[v0, v1, v2, v3, v4, v5, v6] t)) :
  W.cell? ⟨k, 0, none⟩ = some v0 ∧ W.cell? ⟨k, 1, none⟩ = some v1 ∧ W.cell? ⟨k, 2, none⟩ = some v2 ∧ W.cell? ⟨k, 3, none⟩ = some v3 ∧ W.cell? ⟨k, 4, none⟩ = some v4 ∧ W.cell? ⟨k, 5, none⟩ = some v5 ∧ W.cell? ⟨k, 6, none⟩ = some v6 ∧ ∀ i, W.frozen? ⟨k, i, none⟩ = false :=
 ⟨(blk_c h 0).trans rfl, (blk_c h 1).trans rfl, (blk_c h 2).trans rfl, (blk_c h 3).trans rfl, (blk_c h 4).trans rfl, (blk_c h 5).trans rfl, (blk_c h 6).trans rfl, fun i => blk_f h i⟩
theorem set_blk {W : World} {A t : Nat} {c : Array Value} (h : W.heap[A]? = some (.cells c t)) (k : Nat) (x : Value) : (W.setCell ⟨A, k, none⟩ x).heap[A]? = some (.cells (c.setIfInBounds k x) t) := by
 show (W.heap.modify A _)[A]? = _
 rw [Array.getElem?_modify, if_pos rfl, h]
 rfl
abbrev put8 (W : World) (A r : Nat) (x v0 v1 v2 v3 v4 v5 v6 : Value) : World := (((((((W.setCell ⟨A, 6, none⟩ x).setCell ⟨r, 0, none⟩ v0).setCell ⟨r, 1, none⟩ v1).setCell ⟨r, 2, none⟩ v2).setCell ⟨r, 3, none⟩ v3).setCell ⟨r, 4, none⟩ v4).setCell ⟨r, 5, none⟩ v5).setCell ⟨r, 6, none⟩ v6
theorem put8_block (W : World) (A r : Nat) (x v0 v1 v2 v3 v4 v5 v6 : Value) (b : Nat) (hA : b ≠ A) (hr : b ≠ r) : (put8 W A r x v0 v1 v2 v3 v4 v5 v6).heap[b]? = W.heap[b]? := by
 unfold put8
 rw [Below.heap_setCell _ _ _ _ hr, Below.heap_setCell _ _ _ _ hr, Below.heap_setCell _ _ _ _ hr, Below.heap_setCell _ _ _ _ hr, Below.heap_setCell _ _ _ _ hr, Below.heap_setCell _ _ _ _ hr, Below.heap_setCell _ _ _ _ hr, Below.heap_setCell _ _ _ _ hA]
theorem put8_size (W : World) (A r : Nat) (x v0 v1 v2 v3 v4 v5 v6 : Value) : (put8 W A r x v0 v1 v2 v3 v4 v5 v6).heap.size = W.heap.size := by
 unfold put8
 simp [World.setCell]
theorem put8_below {w W : World} {B A r : Nat} (h : Below B w W) (hA : B ≤ A) (hr : B ≤ r) (x v0 v1 v2 v3 v4 v5 v6 : Value) : Below B w (put8 W A r x v0 v1 v2 v3 v4 v5 v6) :=
 Below.setCell (p := ⟨r, 6, none⟩) (Below.setCell (p := ⟨r, 5, none⟩) (Below.setCell (p := ⟨r, 4, none⟩) (Below.setCell (p := ⟨r, 3, none⟩) (Below.setCell (p := ⟨r, 2, none⟩) (Below.setCell (p := ⟨r, 1, none⟩) (Below.setCell (p := ⟨r, 0, none⟩) (Below.setCell (p := ⟨A, 6, none⟩) h hA _) hr _) hr _) hr _) hr _) hr _) hr _) hr _
theorem put8_owns {W : World} {B e s n A r : Nat} {v : Value} {xs : List Value} (h : W.ownsRow B e s v n xs) (hA : A < B) (hr : r < B) (x v0 v1 v2 v3 v4 v5 v6 : Value) : (put8 W A r x v0 v1 v2 v3 v4 v5 v6).ownsRow B e s v n xs :=
 owns_set (owns_set (owns_set (owns_set (owns_set (owns_set (owns_set (owns_set h ⟨A, 6, none⟩ _ hA) ⟨r, 0, none⟩ _ hr) ⟨r, 1, none⟩ _ hr) ⟨r, 2, none⟩ _ hr) ⟨r, 3, none⟩ _ hr) ⟨r, 4, none⟩ _ hr) ⟨r, 5, none⟩ _ hr) ⟨r, 6, none⟩ _ hr
set_option maxHeartbeats 8000000 in
set_option maxRecDepth 100000 in
theorem own_any : ∀ (f F : Nat) (p : PT) (pb : Option Addr) (cb : Nat) (pk : Option Addr) (ck : Nat) (w : World), lev f p = true → (∀ x ∈ flatP f p, x.kids.length ≤ 1000 ∧ x.body.length ≤ 1000000) → PHeld w F p pb cb pk ck →
  Calls Tryz.prog 19 #[.agg #[.string p.ty, .string p.cs, .string p.id, .string p.loc, .int .i64 p.how, .slice pb p.body.length cb, .slice pk p.kids.length ck]] w fun e w' => OwnPost f p w e w' := by
 intro f
 induction f with
 | zero => intro F p pb cb pk ck w hl; rw [lev] at hl; cases hl
 | succ f ih =>
  intro F p pb cb pk ck w hl hsz hH
  rw [lev_succ, List.all_eq_true] at hl
  obtain ⟨i0, hi, hz0, hz1, hz2⟩ := info_parts info_part
  obtain ⟨hk1000, hbm⟩ := hsz p (by rw [flatP_succ]; simp)
  have IH : Hid (∀ (F : Nat) (k : PT) (pb : Option Addr) (cb : Nat) (pk : Option Addr) (ck : Nat) (w : World), k ∈ p.kids → PHeld w F k pb cb pk ck → Calls Tryz.prog 19 #[.agg #[.string k.ty, .string k.cs, .string k.id, .string k.loc, .int .i64 k.how, .slice pb k.body.length cb, .slice pk k.kids.length ck]] w fun e w' => OwnPost f k w e w') := fun F k pb cb pk ck w hk h2 => ih F k pb cb pk ck w (hl k hk) (fun x hx => hsz x (by rw [flatP_succ]; exact List.mem_cons_of_mem _ (List.mem_flatMap.2 ⟨k, hk, hx⟩))) h2
  obtain ⟨W1, hW1⟩ : ∃ W, W = (w.alloc (.cells #[.string p.ty, .string p.cs, .string p.id, .string p.loc, .int .i64 p.how, .slice pb p.body.length cb, .slice pk p.kids.length ck] 25)).alloc (.cells #[.string ⟨#[]⟩, .string ⟨#[]⟩, .string ⟨#[]⟩, .string ⟨#[]⟩, .int .i64 0, .slice none 0 0, .slice none 0 0] 25) := ⟨_, rfl⟩
  have hb1 : Below w.heap.size w W1 := by rw [hW1]; exact ((Below.refl _ _).alloc (Nat.le_refl _) _).alloc (by simp) _
  have kA1 : W1.heap[w.heap.size]? = some (.cells #[.string p.ty, .string p.cs, .string p.id, .string p.loc, .int .i64 p.how, .slice pb p.body.length cb, .slice pk p.kids.length ck] 25) := by rw [hW1]; exact blk_on (blk_new w _) ((Below.refl _ _).alloc (Nat.le_refl _) _)
  have kR1 : W1.heap[w.heap.size + 1]? = some (.cells #[.string ⟨#[]⟩, .string ⟨#[]⟩, .string ⟨#[]⟩, .string ⟨#[]⟩, .int .i64 0, .slice none 0 0, .slice none 0 0] 25) := by
   rw [hW1]
   have := blk_new (w.alloc (.cells #[.string p.ty, .string p.cs, .string p.id, .string p.loc, .int .i64 p.how, .slice pb p.body.length cb, .slice pk p.kids.length ck] 25)) (.cells #[.string ⟨#[]⟩, .string ⟨#[]⟩, .string ⟨#[]⟩, .string ⟨#[]⟩, .int .i64 0, .slice none 0 0, .slice none 0 0] 25)
   simpa using this
  have hs1 : W1.heap.size = w.heap.size + 2 := by rw [hW1]; simp
  have HW1 : Hid (W1 = (w.alloc (.cells #[.string p.ty, .string p.cs, .string p.id, .string p.loc, .int .i64 p.how, .slice pb p.body.length cb, .slice pk p.kids.length ck] 25)).alloc (.cells #[.string ⟨#[]⟩, .string ⟨#[]⟩, .string ⟨#[]⟩, .string ⟨#[]⟩, .int .i64 0, .slice none 0 0, .slice none 0 0] 25)) := hW1
  clear hW1
  have HBR : Hid (BRow W1 pb p.body) := hH.2.2.1.under hb1
  have HBN : Hid (pb = none → p.body.length = 0 ∧ cb = 0) := fun e => by have h1 := hH.2.1.2.2 e; have h2 := hH.2.1.1; exact ⟨by omega, h1⟩
  have HKP : Hid (p.kids ≠ [] → ∃ F' b o, pk = some ⟨b, o, none⟩ ∧ ∀ i, i < p.kids.length → PAt w F' b (o + i * 7) (p.kids.getD i pt0)) := fun hne => by
   have hk : KAt w F pk p.kids := hH.2.2.2.2
   cases F with
   | zero => exact absurd hk hne
   | succ F' =>
    obtain ⟨b, o, e1, e2⟩ := hk.each hne
    exact ⟨F', b, o, e1, fun i hi => e2 i hi⟩
  have HPL : Hid (∀ k ∈ p.kids, PLen k) := fun k hk => by
   obtain ⟨F', b, o, _, hp⟩ := HKP.out (fun e => by rw [e] at hk; simp at hk)
   obtain ⟨i, hi, rfl⟩ := List.mem_iff_getElem.1 hk
   obtain ⟨_, _, _, _, _, h2⟩ := hp i hi
   have e : p.kids.getD i pt0 = p.kids[i] := by rw [List.getD_eq_getElem?_getD, List.getElem?_eq_getElem hi]; rfl
   rw [e] at h2
   exact h2.1
  obtain ⟨n, hn⟩ : ∃ n, p.kids.length = n := ⟨_, rfl⟩
  have HN : Hid (p.kids.length = n) := hn
  obtain ⟨nb, hnb⟩ : ∃ n, p.body.length = n := ⟨_, rfl⟩
  have HNB : Hid (nb = p.body.length) := hnb.symm
  obtain ⟨A, hA⟩ : ∃ A, w.heap.size = A := ⟨_, rfl⟩
  obtain ⟨r, hr⟩ : ∃ r, A + 1 = r := ⟨_, rfl⟩
  have HA : Hid (w.heap.size = A) := hA
  rw [hA] at kA1 kR1 hs1 hb1
  rw [hr] at kR1
  have hArr : ¬ r = A := by omega
  have hs1r : W1.heap.size = r + 1 := by omega
  have HPOST : Hid (∀ (pb : Option Addr) (cb : Nat) (pk : Option Addr) (ck : Nat) (Z : List PZ) (w' : World), Below A w w' → Z.map (·.1) = p.kids → w'.ownsRow A 25 7 (.slice pk n ck) n (pzv Z) → (∀ z ∈ Z, PFar w' (fun b => A ≤ b ∧ (Value.slice pk n ck).ownBlock ≠ some b ∧ b < w'.heap.size) (f + 1) z.1 z.2.1.1 z.2.1.2 z.2.2.1 z.2.2.2) → InB (fun b => A ≤ b ∧ (Value.slice pk n ck).ownBlock ≠ some b ∧ b < w'.heap.size) pb → BRow w' pb p.body → (nb ≤ cb ∧ cb ≤ maxLen ∧ (pb = none → cb = 0)) → OwnPost (f + 1) p w (.returned (.agg #[.string p.ty, .string p.cs, .string p.id, .string p.loc, .int .i64 p.how, .slice pb nb cb, .slice pk n ck])) w') := by
   subst hn hnb hA
   exact fun pb cb pk ck Z w' h1 h2 h3 h4 h5 h6 h7 => ⟨pb, cb, pk, ck, Z, rfl, h1, h2, h3, h4, h5, h6, h7⟩
  have HR : Hid (A + 1 = r) := hr
  rw [hn, hnb] at kA1 HW1
  rw [hn, hnb]
  rw [hnb] at HBN hbm
  rw [hn] at HKP hk1000
  clear hn hnb ih hl hsz hH
  go_enter Tryz.func19, Tryz.ntmps19
  go_upto_region 1 with fail
  rw [← HW1.out]
  have HS1 : Hid (W1.heap.size = r + 1) := hs1r
  clear HW1 hs1 hs1r hA hr
  obtain ⟨z0, z1, z2, z3, z4, z5, z6, zf⟩ := o_cells kA1
  have y5 : (W1.alloc (.cells #[] 5)).cell? ⟨A, 5, none⟩ = some (.slice pb nb cb) := by rw [World.cell?_alloc_lt _ _ _ (show A < W1.heap.size by have := HS1.out; have := HR.out; omega)]; exact z5
  have BRH : Hid (BRow (W1.alloc (.cells #[] 5)) pb p.body) := HBR.out.under ((Below.refl _ _).alloc (Nat.le_refl _) _)
  go_wp2_with (at_builtin; refine append_bytes rfl (.tmp 6) (.tmp 8) rfl W1.heap.size _ [] rfl (empty_ownO W1 W1.heap.size (Nat.le_refl _)) pb nb cb p.body HNB.out rfl BRH.out HBN.out (by simp; omega) (by simp) ?_)
  intro v8 w3 OP HOP own3 hg3
  obtain rfl : OP = p.body := HOP.out
  obtain ⟨p8, c8, rfl, h8a, h8b, h8n, hrow⟩ := owned_row own3
  have hbW : Below W1.heap.size W1 w3 := ((Below.refl _ _).alloc (Nat.le_refl _) _).grown hg3 (by simp) (fun k hk => by cases hk; exact Nat.le_refl _)
  have kA3 := blk_on kA1 hbW
  have kR3 := blk_on kR1 hbW
  have hp8 := own_freshF own3 (Nat.le_refl _)
  have hb3 : Below A w w3 := hb1.trans (hbW.mono (by rw [← HA.out]; exact hb1.size))
  rw [← HNB.out] at h8a ⊢
  obtain ⟨V1, hV1⟩ : ∃ W, W = w3.setCell ⟨A, 5, none⟩ (.slice p8 nb c8) := ⟨_, rfl⟩
  have hsV : V1.heap.size = w3.heap.size := by rw [hV1]; simp [World.setCell]
  have kA : V1.heap[A]? = some (.cells #[.string p.ty, .string p.cs, .string p.id, .string p.loc, .int .i64 p.how, .slice p8 nb c8, .slice pk n ck] 25) := by rw [hV1]; exact (set_blk kA3 5 _).trans rfl
  have kR : V1.heap[r]? = some (.cells #[.string ⟨#[]⟩, .string ⟨#[]⟩, .string ⟨#[]⟩, .string ⟨#[]⟩, .int .i64 0, .slice none 0 0, .slice none 0 0] 25) := by rw [hV1, Below.heap_setCell _ _ _ _ hArr]; exact kR3
  have hbV : Below A w V1 := by rw [hV1]; exact Below.setCell (p := ⟨A, 5, none⟩) hb3 (Nat.le_refl _) _
  have HP8 : Hid (∀ a, p8 = some a → r < a.block ∧ a.block < V1.heap.size) := fun a ha => by have h1 := hp8 a ha; have h2 := HS1.out; omega
  have HRW : Hid (BRow V1 p8 p.body) := BRow.move (Q := fun b => r < b) (fun b hb _ => by rw [hV1, Below.heap_setCell _ _ _ _ (show b ≠ A by have := HR.out; omega)]) hrow (fun a ha => (HP8.out a ha).1)
  have H8 : Hid (nb ≤ c8 ∧ c8 ≤ maxLen ∧ (p8 = none → c8 = 0)) := ⟨h8a, h8b, fun e => (h8n e).2⟩
  have HBV : Hid (Below A w V1) := hbV
  have HKA : Hid (V1.heap[A]? = some (.cells #[.string p.ty, .string p.cs, .string p.id, .string p.loc, .int .i64 p.how, .slice p8 nb c8, .slice pk n ck] 25)) := kA
  have HKR : Hid (V1.heap[r]? = some (.cells #[.string ⟨#[]⟩, .string ⟨#[]⟩, .string ⟨#[]⟩, .string ⟨#[]⟩, .int .i64 0, .slice none 0 0, .slice none 0 0] 25)) := kR
  have HV1 : Hid (V1 = w3.setCell ⟨A, 5, none⟩ (.slice p8 nb c8)) := hV1
  clear z0 z1 z2 z3 z4 z5 z6 zf y5 BRH hg3 own3 hrow hbW hp8 hb3 kR3 kA1 kR1 HBR HBN h8a h8b h8n kA kR hbV hV1 hsV hb1 HOP
  obtain ⟨z0, z1, z2, z3, z4, z5, z6, zf⟩ := o_cells kA3
  clear kA3
  go_wp2_with fail
  rw [← HV1.out]
  clear HV1 z0 z1 z2 z3 z4 z5 z6 zf
  go_loopw [3, 14] (fun ov iv wr => ∃ (k : Nat) (q : Option Addr) (c : Nat) (Z : List PZ), k ≤ n ∧ iv = .int .i64 k ∧ ov = .slice q k c ∧ Hid (Z.length = k) ∧ Hid (Z.map (·.1) = p.kids.take k) ∧ Hid (Below V1.heap.size V1 wr) ∧ Hid (wr.ownsRow V1.heap.size 25 7 (.slice q k c) k (pzv Z)) ∧ Hid (∀ z ∈ Z, PFar wr (fun b => V1.heap.size ≤ b ∧ (Value.slice q k c).ownBlock ≠ some b ∧ b < wr.heap.size) (f + 1) z.1 z.2.1.1 z.2.1.2 z.2.2.1 z.2.2.2)) (fun _ iv _ => n - (intOf iv).toNat)
  case atStart => exact ⟨0, none, 0, [], Nat.zero_le _, rfl, rfl, rfl, rfl, Below.refl _ _, World.ownsRow_nil _ _ _ _, fun z hz => by cases hz⟩
  case round =>
   obtain ⟨k, q, c, Z, hk, rfl, rfl, HZl, HZm, HBR, HO, HF⟩ := hrel
   by_cases hlt : k < n
   ·have hlz : (k : Int) < (n : Int) := by omega
    have hkP : k < p.kids.length := by rw [HN.out]; exact hlt
    obtain ⟨F', bp, op, rfl, hPp⟩ := HKP.out (fun e => by rw [e] at hkP; simp at hkP)
    have hbw : Below w.heap.size w wr := by rw [HA.out]; exact HBV.out.trans (HBR.out.mono (by rw [← HA.out]; exact HBV.out.size))
    have HP1 := (hPp k hlt).below hbw
    have hmem : p.kids.getD k pt0 ∈ p.kids := by simp [List.getD_eq_getElem?_getD, List.getElem?_eq_getElem hkP]
    have HTK : Hid (p.kids.take (k + 1) = p.kids.take k ++ [p.kids.getD k pt0]) := by
     unfold Hid
     rw [List.take_add_one, List.getElem?_eq_getElem hkP, List.getD_eq_getElem?_getD, List.getElem?_eq_getElem hkP]
     rfl
    obtain ⟨P1, hP1⟩ : ∃ P1, p.kids.getD k pt0 = P1 := ⟨_, rfl⟩
    rw [hP1] at HP1 hmem HTK
    obtain ⟨a1, a2, a3, a4, hC1, hH1⟩ := HP1
    obtain ⟨d0, d1, d2, d3, d4, d5, d6⟩ := hC1
    have HPL1 : Hid (PLen P1) := HPL.out P1 hmem
    obtain ⟨Wk, hWk⟩ : ∃ W, W = wr.alloc (.cells #[.string P1.ty, .string P1.cs, .string P1.id, .string P1.loc, .int .i64 P1.how, .slice a1 P1.body.length a2, .slice a3 P1.kids.length a4] 25) := ⟨_, rfl⟩
    have hbk : Below wr.heap.size wr Wk := by rw [hWk]; exact (Below.refl _ _).alloc (Nat.le_refl _) _
    have IH1 : Hid (Calls Tryz.prog 19 #[.agg #[.string P1.ty, .string P1.cs, .string P1.id, .string P1.loc, .int .i64 P1.how, .slice a1 P1.body.length a2, .slice a3 P1.kids.length a4]] Wk fun e w' => OwnPost f P1 Wk e w') := IH.out F' P1 a1 a2 a3 a4 Wk hmem (PHeld.below hH1 hbk)
    have HOk : Hid (Wk.ownsRow V1.heap.size 25 7 (.slice q k c) k (pzv Z)) := ownsRow_below HO.out hbk
    have HFk : Hid (∀ z ∈ Z, PFar Wk (fun b => V1.heap.size ≤ b ∧ (Value.slice q k c).ownBlock ≠ some b ∧ b < Wk.heap.size) (f + 1) z.1 z.2.1.1 z.2.1.2 z.2.2.1 z.2.2.2) := fun z hz => ((HF.out z hz).below hbk).kind fun b hb => ⟨hb.1, hb.2.1, Nat.lt_of_lt_of_le hb.2.2 hbk.size⟩
    have HBk : Hid (Below V1.heap.size V1 Wk) := HBR.out.trans (hbk.mono HBR.out.size)
    have HWk : Hid (Wk = wr.alloc (.cells #[.string P1.ty, .string P1.cs, .string P1.id, .string P1.loc, .int .i64 P1.how, .slice a1 P1.body.length a2, .slice a3 P1.kids.length a4] 25)) := hWk
    clear hPp hP1 hH1 HKP hmem hbw hWk hbk HO HF HBR hkP
    obtain ⟨m1, hm1⟩ : ∃ m, P1.body.length = m := ⟨_, rfl⟩
    obtain ⟨m2, hm2⟩ : ∃ m, P1.kids.length = m := ⟨_, rfl⟩
    rw [hm1] at d5 HWk IH1
    rw [hm2] at d6 HWk IH1
    have HM1 : Hid (P1.body.length = m1) := hm1
    have HM2 : Hid (P1.kids.length = m2) := hm2
    clear hm1 hm2
    go_wp2_with fail
    rw [← HWk.out]
    refine IH1.out.mono ?_
    rintro e w4 hO4
    obtain ⟨pb4, cb4, pk4, ck4, rfl, hb4, hfar⟩ := own_far hO4 HPL1.out
    have HO5 : Hid (w4.ownsRow V1.heap.size 25 7 (.slice q k c) k (pzv Z)) := ownsRow_below HOk.out hb4
    have hsk : V1.heap.size ≤ Wk.heap.size := HBk.out.size
    have HF5 : Hid (∀ z ∈ Z ++ [(P1, (pb4, cb4), (pk4, ck4))], PFar w4 (fun b => V1.heap.size ≤ b ∧ (Value.slice q k c).ownBlock ≠ some b ∧ b < w4.heap.size) (f + 1) z.1 z.2.1.1 z.2.1.2 z.2.2.1 z.2.2.2) := fun z hz => by
     rcases List.mem_append.1 hz with h | h
     ·exact ((HFk.out z h).below hb4).kind fun b hb => ⟨hb.1, hb.2.1, Nat.lt_of_lt_of_le hb.2.2 hb4.size⟩
     ·obtain rfl : z = (P1, (pb4, cb4), (pk4, ck4)) := by simpa using h
      exact hfar.kind fun b hb => ⟨Nat.le_trans hsk hb.1, (fun e => by have := (HOk.out.lt b e).2; have := hb.1; omega), hb.2⟩
    have HB4 : Hid (Below V1.heap.size V1 w4) := HBk.out.trans (hb4.mono hsk)
    have HZm2 : Hid ((Z ++ [(P1, (pb4, cb4), (pk4, ck4))]).map (·.1) = p.kids.take (k + 1)) := by unfold Hid; rw [List.map_append, HZm.out, HTK.out]; rfl
    have HZv : Hid (pzv (Z ++ [(P1, (pb4, cb4), (pk4, ck4))]) = pzv Z ++ [.string P1.ty, .string P1.cs, .string P1.id, .string P1.loc, .int .i64 P1.how, .slice pb4 m1 cb4, .slice pk4 m2 ck4]) := by unfold Hid; rw [pzv_append, ← HM1.out, ← HM2.out]; simp [pzv, pzc]
    have HZl2 : Hid ((Z ++ [(P1, (pb4, cb4), (pk4, ck4))]).length = k + 1) := by unfold Hid; rw [List.length_append, HZl.out]; rfl
    generalize Z ++ [(P1, (pb4, cb4), (pk4, ck4))] = Z2 at *
    rw [HM1.out, HM2.out]
    have hs4 : V1.heap.size ≤ w4.heap.size := HB4.out.size
    clear hO4 hb4 hfar IH1 HOk HFk HBk HWk d0 d1 d2 d3 d4 d5 d6 HTK HZm hsk
    go_wp2_with (at_builtin; refine wpList_append_lies _ rfl (.tmp 18) (.tmp 21) 23 rfl V1.heap.size 25 i0 (.agg #[.string ⟨#[]⟩, .string ⟨#[]⟩, .string ⟨#[]⟩, .string ⟨#[]⟩, .int .i64 0, .slice none 0 0, .slice none 0 0]) 7 120 Tryz.underlying23 hi hz0 hz1 hz2 rfl (by decide) _ _ _ rfl (HO5.out.alloc _) ⟨w4.heap.size, 0, none⟩ 1 1 [.string P1.ty, .string P1.cs, .string P1.id, .string P1.loc, .int .i64 P1.how, .slice pb4 m1 cb4, .slice pk4 m2 ck4] rfl rfl ?c1 ?c2 (by decide) ?c3 ?c4 ?c5 (w4.heap.size + 1) ?c6 ?_)
    case c1 => exact cell_seven _ [_, _, _, _, _, _, _] _ _ (by simp)
    case c2 => intro u hu; simp at hu; rcases hu with rfl | rfl | rfl | rfl | rfl | rfl | rfl <;> rfl
    case c3 => unfold maxLen; omega
    case c4 => omega
    case c5 => simp; omega
    case c6 => simp
    intro g9 c9 w9 hown9 hg9 hlies hlt9
    have HB9 : Hid (Below V1.heap.size V1 w9) := (HB4.out.alloc hs4 _).grown hg9 (by simp; omega) (fun j hj => (HO5.out.lt j hj).1)
    have hs9 : w4.heap.size + 1 ≤ w9.heap.size := by have := hg9.size; simp at this; omega
    have HF9 : Hid (∀ z ∈ Z2, PFar w9 (fun b => V1.heap.size ≤ b ∧ (Value.slice (some ⟨g9, 0, none⟩) (k + 1) c9).ownBlock ≠ some b ∧ b < w9.heap.size) (f + 1) z.1 z.2.1.1 z.2.1.2 z.2.2.1 z.2.2.2) := fun z hz => by
     have hmv := PFar.move (w' := w9) (fun b hb hlt => by
      rw [hg9.block b (by simp; omega) (fun e => hb.2.1 e.symm), Below.heap_alloc _ _ _ hlt]) (HF5.out z hz)
     refine hmv.kind fun b hb => ⟨hb.1, fun e => ?_, by have := hb.2.2; omega⟩
     have e' : g9 = b := by simpa [Value.ownBlock] using e
     rcases hlies with h | h
     ·exact hb.2.1 (by rw [h, e'])
     ·have := hb.2.2; omega
    have R9 : Hid (w9.ownsRow V1.heap.size 25 7 (.slice (some ⟨g9, 0, none⟩) (k + 1) c9) (k + 1) (pzv Z2)) := by unfold Hid; rw [HZv.out]; exact hown9
    clear hown9 hg9 hlies hlt9 HO5 HF5 HB4 HZv hs4 hs9
    go_wp2_with fail
    go_roundw
    case rel => exact ⟨k + 1, some ⟨g9, 0, none⟩, c9, Z2, by omega, by go_num, rfl, HZl2, HZm2, HB9, R9, HF9⟩
    case measure => simp [intOf]; omega
   ·have hlz : ¬ ((k : Int) < (n : Int)) := by omega
    obtain rfl : k = n := by omega
    have hZk : Z.map (·.1) = p.kids := by rw [HZm.out, List.take_of_length_le (by rw [HN.out]; exact Nat.le_refl _)]
    have HZK : Hid (Z.map (·.1) = p.kids) := hZk
    have kA := blk_on HKA.out HBR.out
    have kR := blk_on HKR.out HBR.out
    obtain ⟨z0, z1, z2, z3, z4, z5, z6, zf⟩ := o_cells kA
    obtain ⟨r0, r1, r2, r3, r4, r5, r6, rf⟩ := o_cells kR
    have hAV : A < V1.heap.size := (Array.getElem?_eq_some_iff.1 HKA.out).1
    have hrV : r < V1.heap.size := (Array.getElem?_eq_some_iff.1 HKR.out).1
    have hsr := HBR.out.size
    have HFIN : Hid (OwnPost (f + 1) p w (.returned (.agg #[.string p.ty, .string p.cs, .string p.id, .string p.loc, .int .i64 p.how, .slice p8 nb c8, .slice q k c])) (put8 wr A r (.slice q k c) (.string p.ty) (.string p.cs) (.string p.id) (.string p.loc) (.int .i64 p.how) (.slice p8 nb c8) (.slice q k c))) := by
     have hbl : ∀ b, V1.heap.size ≤ b → (put8 wr A r (.slice q k c) (.string p.ty) (.string p.cs) (.string p.id) (.string p.loc) (.int .i64 p.how) (.slice p8 nb c8) (.slice q k c)).heap[b]? = wr.heap[b]? := fun b hb => put8_block wr A r _ _ _ _ _ _ _ _ b (by omega) (by omega)
     refine HPOST.out p8 c8 q c Z _ (put8_below (HBV.out.trans (HBR.out.mono (by rw [← HA.out]; exact HBV.out.size))) (Nat.le_refl _) (by have := HR.out; omega) _ _ _ _ _ _ _ _) HZK.out (owns_weaken (put8_owns HO.out hAV hrV _ _ _ _ _ _ _ _) (by omega)) (fun z hz => ?_) (fun a ha => ?_) ?_ H8.out
     ·refine ((HF.out z hz).move (fun b hb _ => hbl b hb.1)).kind fun b hb => ⟨by omega, hb.2.1, by rw [put8_size]; exact hb.2.2⟩
     ·have h1 := HP8.out a ha
      refine ⟨by have := HR.out; omega, (fun e => by have := (HO.out.lt _ e).1; omega), by rw [put8_size]; omega⟩
     ·refine BRow.move (Q := fun b => r < b) (fun b hb _ => put8_block wr A r _ _ _ _ _ _ _ _ b (by have := HR.out; omega) (by omega)) ?_ (fun a ha => (HP8.out a ha).1)
      exact HRW.out.under HBR.out
    clear kA kR HZl HZm HBR HO HF HKA HKR HPOST HZK hZk IH HKP hsr hAV hrV
    go_wp2_with fail
    refine bodyPost_ret (v := .agg #[.string p.ty, .string p.cs, .string p.id, .string p.loc, .int .i64 p.how, .slice p8 nb c8, .slice q k c]) ?_ rfl HFIN.out
    rw [results_cell1 rfl]
    go_simp
end Go.Proofs.YtbbfcbodhmeanaaGreatDoor



namespace Go.Proofs.YtbbfcbodhmeanaaGreatDoor
theorem replaceK_le (old new : List UInt8) (hl : new.length ≤ old.length) : ∀ (k : Nat) (s : List UInt8), (Lib.replaceK old new k s).length ≤ s.length
 | 0, s => by rw [Lib.replaceK]; exact Nat.le_refl _
 | k + 1, s => by
  rcases Lib.index_spec s old with ⟨hi, _⟩ | ⟨i, hi, _, _, _⟩
  ·rw [Lib.replaceK, hi]
   simp
  ·rw [Lib.replaceK_hit old new k s i hi]
   have h1 := replaceK_le old new hl k (s.drop (i + old.length))
   have h2 := Lib.index_room s old (by rw [hi]; omega)
   rw [hi] at h2
   rw [List.length_drop] at h1
   rw [List.length_append, List.length_append, List.length_take]
   omega
theorem unamp_le (s : List UInt8) : (unamp s).length ≤ s.length := by
 unfold unamp Lib.replaceAll
 exact replaceK_le ampL [38] (by decide) _ s
end Go.Proofs.YtbbfcbodhmeanaaGreatDoor

