/- The law's closed fact 'bundled' answers true; nothing that was there is changed. Conditions: the tables lie there; internal/bytealg.MaxLen holds a number. -/
import Derived.Test.YtpgnkhaanoalhaaGreatDoorXmimeborders37
import Derived.Test.YtpgnkhaanoalhaaGreatDoorXmimeborders48
import Derived.Test.YtpgnkhaanoalhaaGreatDoorXmimeborders13
import Derived.Test.YtpgnkhaanoalhaaGreatDoorXmimeborders16
import Derived.Deep.RegionHeld3
import Derived.Test.YtpgnkhaanoalhaaGreatDoorXmimeborders2
import Derived.Test.YtpgnkhaanoalhaaGreatDoorXmimeborders6
import Derived.WalkSmall
import Derived.Laws.OwnMore
import Derived.Test.YtpgnkhaanoalhaaGreatDoorXmimeborders9
import Derived.Test.YtpgnkhaanoalhaaGreatDoorXmimeborders12
namespace Go.Proofs.YtpgnkhaanoalhaaGreatDoor
open Go.RowKit

theorem small_places : (placesP smallT).1 = 0 := by kernel_rfl
theorem small_good : goodP 3 smallT ∧ nodesP 3 smallT ≤ 12 := good_places small_places
theorem kid_len {p : PT} (h : goodP 2 p) (hm : manyS p.ty.data.toList = false) (n : Nat) (he : (encP p).length ≤ n) : (textP 2 p).length ≤ 3738 + n := by
  rw [goodP] at h
  have h1 := head_len (chkA_facts h.1).1 brTok_nil
  rw [textP, hm, if_neg (by decide), List.length_append]
  omega
theorem small_len : (textP 3 smallT).length ≤ 40000 := by
  obtain ⟨g1, g2⟩ := small_good
  rw [goodP] at g1
  have a1 := (chkA_facts g1.1).1
  have hA := kid_len (g1.2 partA (by simp [smallT])) (by kernel_rfl) 120 (by show (encQ bodyA).length ≤ 120; have := enc_length bodyA; have h2 : bodyA.length = 38 := rfl; omega)
  have hB := kid_len (g1.2 partB (by simp [smallT])) (by kernel_rfl) 20 (by show (encode [1, 2, 3]).length ≤ 20; have := encode_length [1, 2, 3]; have h2 : ([1, 2, 3] : List UInt8).length = 3 := rfl; omega)
  have hk : smallT.kids.map (textP 2) = [textP 2 partA, textP 2 partB] := rfl
  obtain ⟨l1, l2⟩ := least_range [textP 2 partA, textP 2 partB]
  simp only [List.map_cons, List.map_nil, List.sum_cons, List.sum_nil] at l2
  obtain ⟨b1, b2, b3⟩ := brd_tok (leastP [textP 2 partA, textP 2 partB]) l1 (by omega)
  have h1 := head_len a1 b1
  rw [textP, if_pos (by kernel_rfl), hk]
  unfold brT
  simp only [List.length_append, lastT, dd, crlf2, pieceT, List.flatMap_cons, List.flatMap_nil, List.length_cons, List.length_nil] at h1 ⊢
  omega
theorem small_write : writeM smallT = (0, textP 3 smallT) := by
  have := small_len
  unfold writeM
  rw [if_neg (by rw [small_places]; simp), if_neg (by omega)]
theorem small_read : readM (textP 3 smallT) = (0, smallT) := by
  have h := read_write (p := smallT) (by rw [small_write])
  rw [small_write] at h
  exact h
def splitX : List UInt8 := [120, 10, 45, 45, 98, 10, 121, 13, 10, 45, 45, 98, 32, 10, 10, 45, 45, 98, 45, 45, 10, 122]
theorem split_small : splitS splitX [98] = ([[121], []], 0) := by kernel_rfl

/-- All that the laws of this layer look up. -/
def MEnv (w0 : World) : Prop := Env w0 ∧ TEnv w0
theorem MEnv.below {w0 w : World} (h : MEnv w0) (hb : Below w0.heap.size w0 w) : MEnv w := ⟨fun w' hb' => h.1 w' (hb.trans (hb'.mono hb.size)), h.2.below hb⟩
theorem blkM_c {W : World} {k : Nat} {c : Array Value} {t : TypeId} (h : W.heap[k]? = some (.cells c t)) (i : Nat) : W.cell? ⟨k, i, none⟩ = c[i]? := by
  simp [World.cell?, h]
theorem blkM_on {W W' : World} {k : Nat} {o : Obj} (h : W.heap[k]? = some o) (hb : Below W.heap.size W W') : W'.heap[k]? = some o := by
  rw [hb.block _ (Array.getElem?_eq_some_iff.1 h).1]; exact h
theorem blkM_new (W : World) (o : Obj) : (W.alloc o).heap[W.heap.size]? = some o := by
  show (W.heap.push _)[W.heap.size]? = _
  simp
/-- Two pieces that were split. -/
theorem two_pieces {w : World} {B : Nat} {v : Value} {Y : List SY} (hY : Y.map (·.1) = [[121], []]) (ho : w.ownsRow B 22 1 v 2 (syv Y)) (hs : SOwn w B Y) :
    ∃ g c p0 c0 p1 c1, v = .slice (some ⟨g, 0, none⟩) 2 c ∧ 2 ≤ c ∧ c ≤ maxLen ∧ g < w.heap.size ∧ w.cell? ⟨g, 0, none⟩ = some (.slice p0 1 c0) ∧ w.cell? ⟨g, 1, none⟩ = some (.slice p1 0 c1) ∧ BRow w p0 [121] ∧ (p0 = none → 1 = 0 ∧ c0 = 0) := by
  match Y, hY with
  | [y0, y1], hY =>
    simp at hY
    obtain ⟨e0, e1⟩ := hY
    have h0 := hs y0 (by simp)
    have ho' := ho
    rcases ho.2 with ⟨_, h⟩ | ⟨g, cap, cur, rfl, hg, hh, hnc, hcp, hcs, htake⟩
    · cases h
    · obtain ⟨p, c, e2, k1, k2, k3, k4⟩ := owned_row h0
      injection e2 with e3 e4 e5
      refine ⟨g, cap, y0.2.1, y0.2.2, y1.2.1, y1.2.2, rfl, hnc, hcp, (Array.getElem?_eq_some_iff.1 hh).1, ?_, ?_, ?_, ?_⟩
      · rw [ho'.cellAt 0 (by omega)]
        simp [syv, e0]
      · rw [ho'.cellAt 1 (by omega)]
        simp [syv, e1]
      · rw [e3, ← e0]; exact k4
      · intro h
        rw [e3] at h
        have := k3 h
        rw [e0] at this
        rw [e5]
        exact this
set_option maxHeartbeats 8000000 in
set_option maxRecDepth 100000 in
/-- bundled. -/
theorem bundled_any (w : World) (hE : MEnv w) : Calls Tryz.prog 13 #[] w fun e w' => e = .returned (.bool true) ∧ Below w.heap.size w w' := by
  have kc := fun (w : World) (C : Array Value) (n c : Nat) => Lib.run_convert_bytes_const (P := Tryz.prog) w 22 5 C n c Tryz.underlying22 Tryz.underlying5
  have HE : Hid (MEnv w) := hE
  have hRD := small_read
  have hWR := small_write
  have hLN := small_len
  generalize textP 3 smallT = L at *
  have HRD : Hid (readM L = (0, smallT)) := hRD
  have HWR : Hid (writeM smallT = (0, L)) := hWR
  clear hE hRD hWR
  go_enter Tryz.func13, Tryz.ntmps13
  go_wp2_with fail
  refine (psmall_any _).mono ?_
  rintro e w1 ⟨g1, rfl, hH1, hb1⟩
  have CW := write_mime smallT none 0 (some ⟨g1, 0, none⟩) 2 1 w1 (HE.out.below hb1).2 hH1
  rw [HWR.out] at CW
  have CW' : Hid (Calls Tryz.prog 8 #[.agg #[.string smallT.ty, .string smallT.cs, .string smallT.id, .string smallT.loc, .int .i64 smallT.how, .slice none smallT.body.length 0, .slice (some ⟨g1, 0, none⟩) smallT.kids.length 2]] w1 fun e w' => WritePost w1 (0, L) e w') := CW
  clear CW hH1
  go_wp2_with fail
  refine CW'.out.mono ?_
  rintro e w2 ⟨hb2, q, c, rfl, h1, h2, h3, hr⟩
  simp only at h1 hr
  clear CW'
  have hbe2 : Below w.heap.size w w2 := hb1.trans (hb2.mono hb1.size)
  have CR := mReadM_any q L.length c L rfl w2 (HE.out.below hbe2).1 h1 h2 (fun h => by have := h3 h; omega) hr
  rw [HRD.out] at CR
  have CR' : Hid (Calls Tryz.prog 10 #[.slice q L.length c] w2 fun e w' => ReadMPost w2 (0, smallT) e w') := CR
  clear CR hb1 hb2 hr h1 h2 h3
  go_wp2_with fail
  refine CR'.out.mono ?_
  rintro e w3 ⟨hb3, hok, -⟩
  obtain ⟨pb, cb, pk, ck, rfl, hF⟩ := hok rfl
  have hbe3 : Below w.heap.size w w3 := hbe2.trans (hb3.mono hbe2.size)
  have HP3 : Hid (PHeld w3 3 smallT pb cb pk ck) := hF.held
  clear CR' hok hF hb3 hbe2
  simp only
  have kc4 := fun (X : Obj) (C : Array Value) (n c : Nat) => kc_at w3 X C n c
  clear kc
  obtain ⟨W5, hW5⟩ : ∃ W, W = (w3.alloc (.cells #[Value.string smallT.ty, .string smallT.cs, .string smallT.id, .string smallT.loc, .int .i64 smallT.how, .slice pb smallT.body.length cb, .slice pk smallT.kids.length ck] 25)).alloc (.cells (bv splitX).toArray 5 (22, 23)) := ⟨_, rfl⟩
  have hb5 : Below w3.heap.size w3 W5 := by rw [hW5]; exact ((Below.refl _ _).alloc (Nat.le_refl _) _).alloc (by simp) _
  have hk5 : W5.heap[w3.heap.size]? = some (.cells #[Value.string smallT.ty, .string smallT.cs, .string smallT.id, .string smallT.loc, .int .i64 smallT.how, .slice pb smallT.body.length cb, .slice pk smallT.kids.length ck] 25) := by rw [hW5]; exact blkM_on (blkM_new _ _) ((Below.refl _ _).alloc (Nat.le_refl _) _)
  have hr5 : BRow W5 (some ⟨w3.heap.size + 1, 0, none⟩) splitX := by rw [hW5]; exact BRow_lit _ splitX _ rfl _ _ _ (by simp)
  have CS := split_any (some ⟨w3.heap.size + 1, 0, none⟩) 22 22 splitX rfl ⟨#[98]⟩ W5 (Nat.le_refl _) hr5
  rw [show (ByteArray.mk #[98]).data.toList = [98] from rfl, split_small] at CS
  have CS' : Hid (Calls Tryz.prog 9 #[.slice (some ⟨w3.heap.size + 1, 0, none⟩) 22 22, .string ⟨#[98]⟩] W5 fun e w' => SplitPost W5 ([[121], []], 0) e w') := CS
  clear CS hr5
  go_wp2_with fail
  have hW5' : (w3.alloc (.cells #[Value.string smallT.ty, .string smallT.cs, .string smallT.id, .string smallT.loc, .int .i64 smallT.how, .slice pb smallT.body.length cb, .slice pk smallT.kids.length ck] 25)).alloc (.cells (bv splitX).toArray 5 (22, 23)) = W5 := hW5.symm
  show Calls _ _ _ ((w3.alloc (.cells #[Value.string smallT.ty, .string smallT.cs, .string smallT.id, .string smallT.loc, .int .i64 smallT.how, .slice pb smallT.body.length cb, .slice pk smallT.kids.length ck] 25)).alloc (.cells (bv splitX).toArray 5 (22, 23))) _
  rw [hW5']
  clear hW5 hW5' kc4
  refine CS'.out.mono ?_
  rintro e w6 ⟨hb6, v, rfl, -, hok⟩
  obtain ⟨Y, hY, hown, hso⟩ := hok rfl
  obtain ⟨g, cc, p0, c0, p1, c1, rfl, hc2, hcm, hgl, hcell0, hcell1, hbr0, hp0⟩ := two_pieces hY hown hso
  have hk6 := blkM_on hk5 hb6
  have hbe5 : Below w.heap.size w W5 := hbe3.trans (hb5.mono hbe3.size)
  have hbe6 : Below w.heap.size w w6 := hbe5.trans (hb6.mono hbe5.size)
  have HP6 : Hid (PHeld w6 3 smallT pb cb pk ck) := (HP3.out.below hb5).below hb6
  clear CS' hok hY hown hso hk5 hb6 hb5 hbe5 hbe3 HP3
  have hlt : w3.heap.size < w6.heap.size := (Array.getElem?_eq_some_iff.1 hk6).1
  have hb0 : Below w6.heap.size w6 w6 := Below.refl _ _
  have d0 : ∀ w', Below w6.heap.size w6 w' → w'.cell? ⟨w3.heap.size, 0, none⟩ = some (.string smallT.ty) := fun w' hb => (blkM_c (blkM_on hk6 hb) 0).trans rfl
  have d1 : ∀ w', Below w6.heap.size w6 w' → w'.cell? ⟨w3.heap.size, 1, none⟩ = some (.string smallT.cs) := fun w' hb => (blkM_c (blkM_on hk6 hb) 1).trans rfl
  have d2 : ∀ w', Below w6.heap.size w6 w' → w'.cell? ⟨w3.heap.size, 2, none⟩ = some (.string smallT.id) := fun w' hb => (blkM_c (blkM_on hk6 hb) 2).trans rfl
  have d3 : ∀ w', Below w6.heap.size w6 w' → w'.cell? ⟨w3.heap.size, 3, none⟩ = some (.string smallT.loc) := fun w' hb => (blkM_c (blkM_on hk6 hb) 3).trans rfl
  have d4 : ∀ w', Below w6.heap.size w6 w' → w'.cell? ⟨w3.heap.size, 4, none⟩ = some (.int .i64 smallT.how) := fun w' hb => (blkM_c (blkM_on hk6 hb) 4).trans rfl
  have d5 : ∀ w', Below w6.heap.size w6 w' → w'.cell? ⟨w3.heap.size, 5, none⟩ = some (.slice pb smallT.body.length cb) := fun w' hb => (blkM_c (blkM_on hk6 hb) 5).trans rfl
  have d6 : ∀ w', Below w6.heap.size w6 w' → w'.cell? ⟨w3.heap.size, 6, none⟩ = some (.slice pk smallT.kids.length ck) := fun w' hb => (blkM_c (blkM_on hk6 hb) 6).trans rfl
  have d7 : ∀ w', Below w6.heap.size w6 w' → w'.cell? ⟨g, 0, none⟩ = some (.slice p0 1 c0) := fun w' hb => (hb.cell (p := ⟨g, 0, none⟩) hgl).trans hcell0
  have d8 : ∀ w', Below w6.heap.size w6 w' → w'.cell? ⟨g, 1, none⟩ = some (.slice p1 0 c1) := fun w' hb => (hb.cell (p := ⟨g, 1, none⟩) hgl).trans hcell1
  have d9 : ∀ w', Below w6.heap.size w6 w' → (convert 22 9 (.slice p0 1 c0)).run Tryz.prog w' = .ok (.string ⟨#[121]⟩) w' := fun w' hb => conv_bytes w' p0 1 c0 [121] rfl (hbr0.under hb) hp0
  clear hcell0 hcell1 hbr0 hk6
  go_wp2_with fail
  go_region_held3 (fun w' => Below w6.heap.size w6 w') (first | assumption | exact hb0.drew) (first
    | (go_at_call 46; refine (psmall_any _).mono ?_; rintro e w7 ⟨g7, rfl, hH7, hb7⟩; have hbe7 : Below w6.heap.size w6 w7 := (hb0.drew).trans (hb7.mono (Nat.le_refl _)); have HH7 : Hid (PHeld w7 1 smallT none 0 (some ⟨g7, 0, none⟩) 2) := hH7; clear hb7 hH7)
    | (go_at_call 14; refine (rsame_any 3 smallT smallT pb none cb pk (some ⟨g7, 0, none⟩) ck 0 2 1 _ (HP6.out.below hbe7) HH7.out).mono ?_; rintro e w8 ⟨b8, rfl, hiff, hb8⟩; have hbt : b8 = true := hiff.2 rfl; subst hbt; have hbe8 : Below w6.heap.size w6 w8 := hbe7.trans (hb8.mono hbe7.size); clear hb8 hiff))
  go_wp2_with fail
  go_ret
  exact ⟨rfl, hbe6.trans (hbe8.mono hbe6.size)⟩
end Go.Proofs.YtpgnkhaanoalhaaGreatDoor

/- Plain facts on parts: how many parts there are in one, itself among them. No program. -/
namespace Go.Proofs.YtpgnkhaanoalhaaGreatDoor

/-- How many parts: itself, and all in it. -/
def cnt : PT → Nat
  | ⟨_, _, _, _, _, _, kids⟩ => 1 + (kids.attach.map fun ⟨k, _⟩ => cnt k).sum
theorem cnt_eq (p : PT) : cnt p = 1 + (p.kids.map cnt).sum := by
  obtain ⟨a, b, c, d, e, f, kids⟩ := p
  rw [cnt]
  congr 2
  show List.map (fun x : { x // x ∈ kids } => cnt x.1) kids.attach = List.map cnt kids
  conv => rhs; rw [← List.attach_map_subtype_val kids, List.map_map]
  rfl
theorem cnt_pos (p : PT) : 1 ≤ cnt p := by rw [cnt_eq]; omega
/-- Of all pairs that are left to do. -/
def cnts (l : List (PT × PT)) : Nat := (l.map fun x => cnt x.1).sum
theorem cnts_nil : cnts [] = 0 := rfl
theorem cnts_snoc (l : List (PT × PT)) (x : PT × PT) : cnts (l ++ [x]) = cnts l + cnt x.1 := by simp [cnts]
theorem cnts_length : ∀ l : List (PT × PT), l.length ≤ cnts l
  | [] => Nat.le_refl _
  | x :: l => by
    have := cnts_length l
    have h := cnt_pos x.1
    simp only [cnts, List.map_cons, List.sum_cons, List.length_cons] at this ⊢
    omega
end Go.Proofs.YtpgnkhaanoalhaaGreatDoor

/- Pairs of parts that are left to hold against each other, as they lie in memory. No function of the program. -/
namespace Go.Proofs.YtpgnkhaanoalhaaGreatDoor
open Go.RowKit

theorem cnts_append (l m : List (PT × PT)) : cnts (l ++ m) = cnts l + cnts m := by simp [cnts]
theorem cnts_zip : ∀ (a b : List PT), a.length = b.length → cnts (a.zip b) = (a.map cnt).sum
  | [], [], _ => rfl
  | [], _ :: _, h => by simp at h
  | _ :: _, [], h => by simp at h
  | x :: a, y :: b, h => by
    have := cnts_zip a b (by simpa using h)
    simp only [cnts, List.zip_cons_cons, List.map_cons, List.sum_cons] at this ⊢
    rw [this]
theorem cnts_take (l : List (PT × PT)) (k : Nat) : cnts (l.take k) ≤ cnts l := by
  have h := cnts_append (l.take k) (l.drop k)
  rw [List.take_append_drop] at h
  omega
theorem zip_same : ∀ (a b : List PT), a.length = b.length → ((∀ x ∈ a.zip b, x.1 = x.2) ↔ a = b)
  | [], [], _ => by simp
  | [], _ :: _, h => by simp at h
  | _ :: _, [], h => by simp at h
  | x :: a, y :: b, h => by
    have := zip_same a b (by simpa using h)
    rw [List.zip_cons_cons, List.forall_mem_cons, this]
    simp
theorem zip_snoc (a b : List PT) (k : Nat) (ha : k < a.length) (hb : k < b.length) : (a.zip b).take (k + 1) = (a.zip b).take k ++ [(a.getD k pt0, b.getD k pt0)] := by
  rw [List.take_add_one]
  congr 1
  have hl : k < (a.zip b).length := by rw [List.length_zip]; omega
  rw [List.getElem?_eq_getElem hl, List.getElem_zip]
  simp [List.getD_eq_getElem?_getD, List.getElem?_eq_getElem ha, List.getElem?_eq_getElem hb]

/-- Pairs of addresses. -/
abbrev PX2 := (Nat × Nat) × (Nat × Nat)
def prv (X : List PX2) : List Value := X.flatMap fun x => [.pointer (some ⟨x.1.1, x.1.2, none⟩), .pointer (some ⟨x.2.1, x.2.2, none⟩)]
theorem prv_length : ∀ X : List PX2, (prv X).length = X.length * 2
  | [] => rfl
  | x :: X => by show ([_, _] ++ prv X).length = _; rw [List.length_append, prv_length X]; simp; omega
theorem prv_snoc (X : List PX2) (x : PX2) : prv (X ++ [x]) = prv X ++ [.pointer (some ⟨x.1.1, x.1.2, none⟩), .pointer (some ⟨x.2.1, x.2.2, none⟩)] := by simp [prv]
/-- These addresses are those of the parts of the plain list. -/
def PrLs (w : World) (X : List PX2) (L : List (PT × PT)) : Prop :=
  X.length = L.length ∧ ∀ (i : Nat) x q, X[i]? = some x → L[i]? = some q → (∃ f, PAt w f x.1.1 x.1.2 q.1) ∧ ∃ f, PAt w f x.2.1 x.2.2 q.2
theorem PrLs.nil (w : World) : PrLs w [] [] := ⟨rfl, fun i x q h => by simp at h⟩
theorem PrLs.snoc {w : World} {X : List PX2} {L : List (PT × PT)} (h : PrLs w X L) {b o b' o' : Nat} {p q : PT} {f f' : Nat} (hp : PAt w f b o p) (hq : PAt w f' b' o' q) : PrLs w (X ++ [((b, o), (b', o'))]) (L ++ [(p, q)]) := by
  refine ⟨by rw [List.length_append, List.length_append, h.1]; rfl, fun i x r hx hr => ?_⟩
  by_cases hi : i < X.length
  · rw [List.getElem?_append_left hi] at hx
    rw [List.getElem?_append_left (by rw [← h.1]; exact hi)] at hr
    exact h.2 i x r hx hr
  · rw [List.getElem?_append_right (by omega)] at hx
    rw [List.getElem?_append_right (by rw [← h.1]; omega), ← h.1] at hr
    cases hd : i - X.length with
    | zero =>
      rw [hd] at hx hr
      obtain rfl := Option.some.inj hx
      obtain rfl := Option.some.inj hr
      exact ⟨⟨f, hp⟩, f', hq⟩
    | succ n => rw [hd] at hx; simp at hx
/-- The last pair of a list, and what is ahead of it. -/
theorem PrLs.last {w wr : World} {B e : Nat} {X : List PX2} {L : List (PT × PT)} {v : Value} (h : PrLs w X L) (hne : L ≠ []) (ho : wr.ownsRow B e 2 v L.length (prv X)) :
    ∃ (L' : List (PT × PT)) (x y : PT) (X' : List PX2) (bx ox bY oY f f' g cap : Nat), L = L' ++ [(x, y)] ∧ v = .slice (some ⟨g, 0, none⟩) (L'.length + 1) cap ∧ PrLs w X' L' ∧ PAt w f bx ox x ∧ PAt w f' bY oY y ∧
      wr.ownsRow B e 2 (.slice (some ⟨g, 0, none⟩) L'.length cap) L'.length (prv X') ∧ wr.cell? ⟨g, L'.length * 2, none⟩ = some (.pointer (some ⟨bx, ox, none⟩)) ∧ wr.cell? ⟨g, L'.length * 2 + 1, none⟩ = some (.pointer (some ⟨bY, oY, none⟩)) ∧ L'.length + 1 ≤ cap := by
  rcases List.eq_nil_or_concat L with hL | ⟨L', ⟨x, y⟩, hL⟩
  · exact absurd hL hne
  · rw [List.concat_eq_append] at hL
    subst hL
    rcases List.eq_nil_or_concat X with hX | ⟨X', ⟨⟨bx, ox⟩, ⟨bY, oY⟩⟩, hX⟩
    · have := h.1; rw [hX] at this; simp at this
    · rw [List.concat_eq_append] at hX
      subst hX
      have hlen : X'.length = L'.length := by have := h.1; simpa using this
      rw [List.length_append] at ho
      have hl1 : L'.length + [(x, y)].length = L'.length + 1 := rfl
      rw [hl1] at ho
      obtain ⟨g, cap, rfl⟩ : ∃ g cap, v = .slice (some ⟨g, 0, none⟩) (L'.length + 1) cap := by
        rcases ho.2 with ⟨_, h0⟩ | ⟨g, cap, cur, hv, _⟩
        · cases h0
        · exact ⟨g, cap, hv⟩
      have hlast := h.2 L'.length ((bx, ox), (bY, oY)) (x, y) (by rw [List.getElem?_append_right (by omega), hlen]; simp) (by rw [List.getElem?_append_right (Nat.le_refl _)]; simp)
      obtain ⟨⟨f, hf⟩, f', hf'⟩ := hlast
      have hX' : PrLs w X' L' := by
        refine ⟨hlen, fun i a q ha hq => ?_⟩
        have hi := (List.getElem?_eq_some_iff.1 ha).1
        exact h.2 i a q (by rw [List.getElem?_append_left hi]; exact ha) (by rw [List.getElem?_append_left (by omega)]; exact hq)
      have hcap : L'.length + 1 ≤ cap := by
        rcases ho.2 with ⟨h0, _⟩ | ⟨g', cap', cur, hv, _, _, hn, _⟩
        · cases h0
        · cases hv; exact hn
      refine ⟨L', x, y, X', bx, ox, bY, oY, f, f', g, cap, rfl, rfl, hX', hf, hf', ?_, ?_, ?_, hcap⟩
      · rw [prv_snoc] at ho
        exact ownsRow_pop (by rw [prv_length, hlen]) ho
      · rw [ho.cellAt _ (by omega), prv_snoc, List.getElem?_append_right (by rw [prv_length, hlen]; exact Nat.le_refl _), prv_length, hlen, Nat.sub_self]; rfl
      · rw [ho.cellAt _ (by omega), prv_snoc, List.getElem?_append_right (by rw [prv_length, hlen]; omega), prv_length, hlen, Nat.add_sub_cancel_left]; rfl
end Go.Proofs.YtpgnkhaanoalhaaGreatDoor

/- part.Same of two parts without parts: what the plain function says; nothing that was there is changed. Condition: the parts lie there. -/
namespace Go.Proofs.YtpgnkhaanoalhaaGreatDoor
open Go.RowKit

theorem drew_twice (w : World) (a b : Nat) : (w.drewN a).drewN b = w.drewN (a + b) := by
  simp

set_option maxHeartbeats 4000000 in
set_option maxRecDepth 100000 in
/-- part.Same of parts without parts. -/
theorem same1_any (p q : PT) (pb qb : Option Addr) (cb : Nat) (pk qk : Option Addr) (ck cb2 ck2 F F2 : Nat) (w : World) (hH : PHeld w F p pb cb pk ck) (hH2 : PHeld w F2 q qb cb2 qk ck2) (hp : p.kids = []) (hq : q.kids = []) :
    Calls Tryz.prog 20 #[.agg #[.string p.ty, .string p.cs, .string p.id, .string p.loc, .int .i64 p.how, .slice pb p.body.length cb, .slice pk p.kids.length ck], .agg #[.string q.ty, .string q.cs, .string q.id, .string q.loc, .int .i64 q.how, .slice qb q.body.length cb2, .slice qk q.kids.length ck2]] w
      fun e w' => e = .returned (.bool (sameA p q)) ∧ Below w.heap.size w w' := by
  have hA := boxed hH 25 _ rfl
  have hb1 : Below w.heap.size w (w.alloc (.cells #[Value.string p.ty, .string p.cs, .string p.id, .string p.loc, .int .i64 p.how, .slice pb p.body.length cb, .slice pk p.kids.length ck] 25)) := (Below.refl _ _).alloc (Nat.le_refl _) _
  have hB := boxed (hH2.below hb1) 25 _ rfl
  have hA2 := hA.below ((Below.refl _ _).alloc (Nat.le_refl _) (.cells #[Value.string q.ty, .string q.cs, .string q.id, .string q.loc, .int .i64 q.how, .slice qb q.body.length cb2, .slice qk q.kids.length ck2] 25))
  have hb2 := hb1.alloc hb1.size (.cells #[Value.string q.ty, .string q.cs, .string q.id, .string q.loc, .int .i64 q.how, .slice qb q.body.length cb2, .slice qk q.kids.length ck2] 25)
  rw [World.size_alloc] at hB
  obtain ⟨w2, hw2⟩ : ∃ w2, (w.alloc (.cells #[Value.string p.ty, .string p.cs, .string p.id, .string p.loc, .int .i64 p.how, .slice pb p.body.length cb, .slice pk p.kids.length ck] 25)).alloc (.cells #[Value.string q.ty, .string q.cs, .string q.id, .string q.loc, .int .i64 q.how, .slice qb q.body.length cb2, .slice qk q.kids.length ck2] 25) = w2 := ⟨_, rfl⟩
  rw [hw2] at hA2 hB hb2
  have hsz2 : w2.heap.size = w.heap.size + 2 := by rw [← hw2]; simp
  have hb3 := hb2.alloc hb2.size (.cells #[Value.pointer (some ⟨w.heap.size, 0, none⟩), .pointer (some ⟨w.heap.size + 1, 0, none⟩)] 80)
  obtain ⟨w3, hw3⟩ : ∃ w3, w2.alloc (.cells #[Value.pointer (some ⟨w.heap.size, 0, none⟩), .pointer (some ⟨w.heap.size + 1, 0, none⟩)] 80) = w3 := ⟨_, rfl⟩
  have hb23 : Below w2.heap.size w2 w3 := by rw [← hw3]; exact (Below.refl _ _).alloc (Nat.le_refl _) _
  have k0 : w3.cell? ⟨w2.heap.size, 0, none⟩ = some (.pointer (some ⟨w.heap.size, 0, none⟩)) := by rw [← hw3]; simp
  have k1 : w3.cell? ⟨w2.heap.size, 1, none⟩ = some (.pointer (some ⟨w.heap.size + 1, 0, none⟩)) := by rw [← hw3]; simp
  rw [hw3] at hb3
  rw [hsz2] at k0 k1
  have hA3 := hA2.below hb23
  have hB3 := hB.below hb23
  obtain ⟨a1, a2, a3, a4, hCa, hHa⟩ := hA3
  obtain ⟨b1, b2, b3, b4, hCb, hHb⟩ := hB3
  have CS : Hid (∀ a n, Calls Tryz.prog 57 #[.pointer (some ⟨w.heap.size, 0, none⟩), .pointer (some ⟨w.heap.size + 1, 0, none⟩)] ((w3.drewN a).drewN n) fun e w' => e = .returned (.bool (sameA p q)) ∧ ∃ m, w' = (w3.drewN a).drewN m) := fun a n => by
    have hbn : Below w3.heap.size w3 ((w3.drewN a).drewN n) := below_drewN' (below_drewN' (Below.refl _ _) a) n
    refine (samea_any w.heap.size 0 (w.heap.size + 1) 0 p q a1 b1 a2 a3 b3 a4 b2 b4 ((w3.drewN a).drewN n) (hCa.below hbn) (hCb.below hbn) (hHa.2.2.1.under hbn) (hHb.2.2.1.under hbn)).mono ?_
    rintro e w' ⟨rfl, k, rfl⟩
    exact ⟨rfl, _, drew_twice _ _ _⟩
  have c6 : w3.cell? ⟨w.heap.size, 6, none⟩ = some (.slice a3 0 a4) := by have := hCa.2.2.2.2.2.2; rw [hp] at this; simpa using this
  have d6 : w3.cell? ⟨w.heap.size + 1, 6, none⟩ = some (.slice b3 0 b4) := by have := hCb.2.2.2.2.2.2; rw [hq] at this; simpa using this
  clear hCa hCb hHa hHb hA hB hA2 hH hH2
  have hw3' : (w2.alloc (.cells #[Value.pointer (some ⟨w.heap.size, 0, none⟩), .pointer (some ⟨w.heap.size + 1, 0, none⟩)] 80)) = w3 := hw3
  generalize sameA p q = S at *
  generalize p.kids.length = nk at *
  generalize q.kids.length = nk2 at *
  generalize p.body.length = nb at *
  generalize q.body.length = nb2 at *
  clear hp hq
  go_enter Tryz.func20, Tryz.ntmps20
  go_wp2_with fail
  refine wp_loop_rounds 2 ?_
  rw [rounds_succ]
  go_wp2_with fail
  go_quiet (fail)
  go_wp2_with fail
  have CS2 : Hid (∀ n, Calls Tryz.prog 57 #[.pointer (some ⟨w.heap.size, 0, none⟩), .pointer (some ⟨w.heap.size + 1, 0, none⟩)] ((w3.drewN nq).drewN n) fun e w' => e = .returned (.bool S) ∧ ∃ m, w' = (w3.drewN nq).drewN m) := fun n => by
    refine (CS.out nq n).mono ?_
    rintro e w' ⟨rfl, k, rfl⟩
    exact ⟨rfl, k, rfl⟩
  have hb4 : Below w.heap.size w (w3.drewN nq) := below_drewN' hb3 nq
  have c64 : (w3.drewN nq).cell? ⟨w.heap.size, 6, none⟩ = some (.slice a3 0 a4) := c6
  have d64 : (w3.drewN nq).cell? ⟨w.heap.size + 1, 6, none⟩ = some (.slice b3 0 b4) := d6
  clear CS k0 k1 c6 d6 hb3 hb23 hw3 hw3'
  generalize w3.drewN nq = w4 at *
  cases S
  · go_quiet (first | (go_at_call 57; exact CS2.out _) | fail)
    go_wp2_with fail
    go_ret
    exact ⟨rfl, below_drewN' hb4 _⟩
  · go_quiet (first | (go_at_call 57; exact CS2.out _) | fail)
    go_wp2_with fail
    refine wp_loop_rounds 1 ?_
    rw [rounds_succ]
    go_wp2_with fail
    rw [rounds_succ]
    go_wp2_with fail
    go_ret
    exact ⟨rfl, below_drewN' hb4 _⟩
end Go.Proofs.YtpgnkhaanoalhaaGreatDoor
