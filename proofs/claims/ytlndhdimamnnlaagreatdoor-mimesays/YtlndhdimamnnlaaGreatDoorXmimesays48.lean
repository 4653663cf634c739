
import Derived.Test.YtlndhdimamnnlaaGreatDoorXmimesays47
import Derived.Test.YtlndhdimamnnlaaGreatDoorXmimesays41
import Derived.Test.YtlndhdimamnnlaaGreatDoorXmimesays30
namespace Go.Proofs.YtlndhdimamnnlaaGreatDoor
open Go.RowKit
def SEnv (w0 : World) : Prop := MEnv w0 ∧ ∀ w', Below w0.heap.size w0 w' → w'.cell? ⟨11, 15, none⟩ = some (.int .u8 4)
theorem SEnv.below {w0 w : World} (h : SEnv w0) (hb : Below w0.heap.size w0 w) : SEnv w := ⟨h.1.below hb, fun w' hb' => h.2 w' (hb.trans (hb'.mono hb.size))⟩
def rS1 (ty cs : ByteArray) : ByteArray := if cs.data.toList = [] then ⟨#[67, 111, 110, 116, 101, 110, 116, 45, 84, 121, 112, 101, 58, 32]⟩ ++ ty else ⟨#[67, 111, 110, 116, 101, 110, 116, 45, 84, 121, 112, 101, 58, 32]⟩ ++ ty ++ (⟨#[59, 32, 99, 104, 97, 114, 115, 101, 116, 61]⟩ ++ cs)
def rS4 (s id : ByteArray) : ByteArray := if id.data.toList = [] then s ++ ⟨#[13, 10]⟩ else s ++ ⟨#[13, 10]⟩ ++ (⟨#[67, 111, 110, 116, 101, 110, 116, 45, 73, 68, 58, 32, 60]⟩ ++ id ++ ⟨#[62, 13, 10]⟩)
def rS5 (s loc : ByteArray) : ByteArray := if loc.data.toList = [] then s else s ++ (⟨#[67, 111, 110, 116, 101, 110, 116, 45, 76, 111, 99, 97, 116, 105, 111, 110, 58, 32]⟩ ++ loc ++ ⟨#[13, 10]⟩)
theorem rS1_size (ty cs : ByteArray) (h1 : ty.size ≤ 1000) (h2 : cs.size ≤ 1000) : (rS1 ty cs).size ≤ 3000 := by
 unfold rS1
 split
 ·rw [ByteArray.size_append]; show 14 + ty.size ≤ _; omega
 ·simp only [ByteArray.size_append]; show 14 + ty.size + (10 + cs.size) ≤ _; omega
theorem rS4_size (s id : ByteArray) (h1 : s.size ≤ 3000) (h2 : id.size ≤ 1000) : (rS4 s id).size ≤ 5000 := by
 unfold rS4
 split
 ·rw [ByteArray.size_append]; show s.size + 2 ≤ _; omega
 ·simp only [ByteArray.size_append]; show s.size + 2 + (13 + id.size + 3) ≤ _; omega
theorem rS5_size (s loc : ByteArray) (h1 : s.size ≤ 5000) (h2 : loc.size ≤ 1000) : (rS5 s loc).size ≤ 7000 := by
 unfold rS5
 split
 ·omega
 ·simp only [ByteArray.size_append]; show s.size + (18 + loc.size + 2) ≤ _; omega
theorem hw_data (n : Nat) (h : n ≤ 2) : (hwB n).data.toList = howTx (n : Int) ++ [13, 10, 13, 10] := by
 match n, h with
 | 0, _ => rfl
 | 1, _ => rfl
 | 2, _ => rfl
theorem one_data (p : PT) (n : Nat) (hn : n ≤ 2) (hp : p.how = (n : Int)) : ba (headP p [] ++ encP p) = rS5 (rS4 (rS1 p.ty p.cs) p.id) p.loc ++ ⟨#[67, 111, 110, 116, 101, 110, 116, 45, 84, 114, 97, 110, 115, 102, 101, 114, 45, 69, 110, 99, 111, 100, 105, 110, 103, 58, 32]⟩ ++ hwB n ++ ba (encP p) := by
 apply ByteArray.ext
 apply Array.toList_inj.1
 have e : ∀ x y : ByteArray, (x ++ y).data.toList = x.data.toList ++ y.data.toList := fun x y => by simp
 rw [e, e, e, ba_data, ba_data, hw_data n hn]
 unfold rS5 rS4 rS1 headP fieldsP kindP textF
 rw [hp]
 by_cases h1 : p.cs.data.toList = [] <;> by_cases h2 : p.id.data.toList = [] <;> by_cases h3 : p.loc.data.toList = [] <;> simp [h1, h2, h3, lineF, nmType, nmID, nmLoc, nmHow, txCs]
theorem join_pieces (br : List UInt8) : ∀ (r : List (List UInt8)) (t : List UInt8), (crlf2 ++ dd ++ br ++ crlf2) ++ Lib.join (t :: r) (crlf2 ++ dd ++ br ++ crlf2) ++ crlf2 = crlf2 ++ (t :: r).flatMap (pieceT br)
 | [], t => by rw [Lib.join_one]; simp [pieceT]
 | y :: r, t => by
  have ih := join_pieces br r y
  rw [Lib.join_cons] at ih ⊢
  have e : Lib.joinTail (crlf2 ++ dd ++ br ++ crlf2) (y :: r) = (crlf2 ++ dd ++ br ++ crlf2) ++ y ++ Lib.joinTail (crlf2 ++ dd ++ br ++ crlf2) r := by simp [Lib.joinTail]
  rw [e, List.flatMap_cons]
  have h2 : (crlf2 ++ dd ++ br ++ crlf2) ++ (t ++ ((crlf2 ++ dd ++ br ++ crlf2) ++ y ++ Lib.joinTail (crlf2 ++ dd ++ br ++ crlf2) r)) ++ crlf2 = (crlf2 ++ dd ++ br ++ crlf2) ++ t ++ ((crlf2 ++ dd ++ br ++ crlf2) ++ (y ++ Lib.joinTail (crlf2 ++ dd ++ br ++ crlf2) r) ++ crlf2) := by simp
  rw [h2, ih]
  simp [pieceT]
theorem many_data (p : PT) (BR J SEP : ByteArray) (ts : List (List UInt8)) (hts : ts ≠ []) (hcs : p.cs.data.toList = []) (hb : BR.data.toList ≠ []) (hS : SEP.data.toList = crlf2 ++ dd ++ BR.data.toList ++ crlf2) (hJ : J.data.toList = Lib.join ts SEP.data.toList) :
  ba (headP p BR.data.toList ++ ts.flatMap (pieceT BR.data.toList) ++ lastT BR.data.toList) = rS5 (rS4 (⟨#[67, 111, 110, 116, 101, 110, 116, 45, 84, 121, 112, 101, 58, 32]⟩ ++ p.ty ++ (⟨#[59, 32, 98, 111, 117, 110, 100, 97, 114, 121, 61, 34]⟩ ++ BR ++ ⟨#[34]⟩)) p.id) p.loc ++ (SEP ++ J ++ ⟨#[13, 10, 45, 45]⟩ ++ BR ++ ⟨#[45, 45, 13, 10]⟩) := by
 apply ByteArray.ext
 apply Array.toList_inj.1
 have e : ∀ x y : ByteArray, (x ++ y).data.toList = x.data.toList ++ y.data.toList := fun x y => by simp
 obtain ⟨t, r, rfl⟩ : ∃ t r, ts = t :: r := by
  cases ts with
  | nil => exact absurd rfl hts
  | cons t r => exact ⟨t, r, rfl⟩
 have hj := join_pieces BR.data.toList r t
 rw [← hS, ← hJ] at hj
 have key : (SEP ++ J ++ ⟨#[13, 10, 45, 45]⟩ ++ BR ++ ⟨#[45, 45, 13, 10]⟩ : ByteArray).data.toList = crlf2 ++ (t :: r).flatMap (pieceT BR.data.toList) ++ lastT BR.data.toList := by
  rw [e, e, e, e, ← hj]
  simp [lastT, dd, crlf2]
 rw [e, key, ba_data]
 unfold rS5 rS4 headP fieldsP kindP textF
 by_cases h2 : p.id.data.toList = [] <;> by_cases h3 : p.loc.data.toList = [] <;> simp [hcs, hb, h2, h3, lineF, nmType, nmID, nmLoc, txBd, crlf2]
theorem rhead_sizes {p : PT} (hok : textsOk p = true) : p.ty.size ≤ 1000 ∧ p.cs.size ≤ 1000 ∧ p.id.size ≤ 1000 ∧ p.loc.size ≤ 1000 := by
 obtain ⟨ht, hcs, hid, hloc⟩ := texts_ok hok
 refine ⟨?_, ?_, ?_, ?_⟩
 ·rw [Lib.size_eq]; have := (type_facts ht).2.1; omega
 ·rw [Lib.size_eq]
  rcases hcs with e | e
  ·rw [e]; simp
  ·have := (token_facts e).2.1; omega
 ·rw [Lib.size_eq]; have := (word_facts hid).1; omega
 ·rw [Lib.size_eq]; have := (word_facts hloc).1; omega
theorem rtext_any : ∀ (f F : Nat) (p : PT) (pb : Option Addr) (cb : Nat) (pk : Option Addr) (ck : Nat) (w : World), SEnv w → PHeld w F p pb cb pk ck → goodP f p → nodesP f p ≤ 12 →
  Calls Tryz.prog 9 #[.agg #[.string p.ty, .string p.cs, .string p.id, .string p.loc, .int .i64 p.how, .slice pb p.body.length cb, .slice pk p.kids.length ck]] w fun e w' => e = .returned (.string (ba (textP f p))) ∧ Below w.heap.size w w'
 | 0, _, _, _, _, _, _, _, _, _, h, _ => absurd h (by rw [goodP]; exact id)
 | f + 1, F, p, pb, cb, pk, ck, w, hE, hH, hg, hn => by
  rw [goodP] at hg
  rw [nodesP] at hn
  obtain ⟨a1, a2, a3, a4, a5⟩ := chkA_facts hg.1
  obtain ⟨z0, z1, z2, z3⟩ := rhead_sizes a1
  rw [textP]
  have CMx : ∀ W, Calls Tryz.prog 32 #[.string p.ty] W fun e w' => e = .returned (.bool (manyS p.ty.data.toList)) ∧ w' = W := fun W => rmany_any p.ty W (by unfold maxLen; omega)
  cases hm : manyS p.ty.data.toList with
  | false =>
   rw [if_neg (by decide)]
   rw [hm] at CMx
   obtain ⟨hnn, hhn⟩ : ∃ hn : Nat, p.how = (hn : Int) := ⟨p.how.toNat, by omega⟩
   have hn2 : hnn ≤ 2 := by omega
   have hE1 : (ba (encP p)).size ≤ 20000 := by rw [ba_size]; have := encP_len a4; omega
   rw [one_data p hnn hn2 hhn, hhn]
   refine rtext_one p.ty p.cs p.id p.loc (ba (encP p)) (rS1 p.ty p.cs) (rS4 (rS1 p.ty p.cs) p.id) (rS5 (rS4 (rS1 p.ty p.cs) p.id) p.loc) _ hnn pb p.body.length cb pk p.kids.length ck w hn2 z0 z1 z2 z3 (rS1_size _ _ z0 z1) (rS4_size _ _ (rS1_size _ _ z0 z1) z2) (rS5_size _ _ (rS4_size _ _ (rS1_size _ _ z0 z1) z2) z3) hE1 CMx ?_ ?_ ?_ ?_ ?_ ?_ rfl
   ·intro W hW h1
    have e : encP p = encode p.body := by unfold encP; rw [if_pos (by rw [hhn, h1]; rfl)]
    rw [e]
    exact (btext_any pb p.body.length cb p.body rfl W a4 (hH.2.2.1.under hW)).mono fun _ _ h => ⟨h.1, by rw [h.2]; exact Below.refl _ _⟩
   ·intro W hW h1
    have e : encP p = encQ p.body := by unfold encP; rw [if_neg (by rw [hhn, h1]; decide), if_pos (by rw [hhn, h1]; rfl)]
    rw [e]
    exact qtext_any pb p.body.length cb p.body rfl W a4 (hE.2 W hW) (hH.2.2.1.under hW)
   ·intro W hW h1
    have e : encP p = p.body := by unfold encP; rw [if_neg (by rw [hhn, h1]; decide), if_neg (by rw [hhn, h1]; decide)]
    rw [e]
    exact conv_bytes W pb p.body.length cb p.body rfl (hH.2.2.1.under hW) (fun h => by have h0 := hH.2.1.2.2 h; have := hH.2.1.1; omega)
   ·unfold Hid rS1
    by_cases h : p.cs.data.toList = []
    ·rw [if_pos h]; exact .inl ⟨h, rfl⟩
    ·rw [if_neg h]; exact .inr ⟨h, rfl⟩
   ·unfold Hid rS4
    by_cases h : p.id.data.toList = []
    ·rw [if_pos h]; exact .inl ⟨h, rfl⟩
    ·rw [if_neg h]; exact .inr ⟨h, rfl⟩
   ·unfold Hid rS5
    by_cases h : p.loc.data.toList = []
    ·rw [if_pos h]; exact .inl ⟨h, rfl⟩
    ·rw [if_neg h]; exact .inr ⟨h, rfl⟩
  | true =>
   rw [if_pos rfl]
   rw [hm] at CMx
   obtain ⟨m1, m2, m3, m4⟩ := formed_many a5 hm
   have hk : ∀ k ∈ p.kids, (textP f k).length + 100 ≤ 20000 * nodesP f k := fun k hk => text_len f k (hg.2 k hk) (by have := sum_mem f p.kids k hk; omega)
   obtain ⟨s1, s2⟩ := sum_le (textP f) (nodesP f) p.kids hk
   obtain ⟨l1, l2⟩ := least_range (p.kids.map (textP f))
   obtain ⟨b1, b2, b3⟩ := brd_tok (leastP (p.kids.map (textP f))) l1 (by omega)
   have hlen := sum_ge f p.kids hg.2
   obtain ⟨F', rfl⟩ : ∃ F', F = F' + 1 := by
    cases F with
    | zero => exact absurd hH.2.2.2.2 m1
    | succ F' => exact ⟨F', rfl⟩
   obtain ⟨bk, ok, rfl, hkids⟩ := KAt.each hH.2.2.2.2 m1
   have hts : ∀ k ∈ p.kids, (textP f k).length ≤ 240000 := fun k hkk => by
    have h1 := hk k hkk
    have h2 := sum_mem f p.kids k hkk
    omega
   have hmap : ((p.kids.map fun k => ba (textP f k)).map fun t => t.data.toList) = p.kids.map (textP f) := by
    rw [List.map_map]
    rfl
   have hget : ∀ i, i < p.kids.length → (p.kids.map fun k => ba (textP f k)).getD i ⟨#[]⟩ = ba (textP f (p.kids.getD i pt0)) := fun i hi => by
    simp [List.getD_eq_getElem?_getD, List.getElem?_eq_getElem hi]
   have hmem : ∀ i, i < p.kids.length → p.kids.getD i pt0 ∈ p.kids := fun i hi => by
    rw [List.getD_eq_getElem?_getD, List.getElem?_eq_getElem hi]
    exact List.getElem_mem hi
   obtain ⟨N, hN⟩ : ∃ N : Nat, leastP (p.kids.map (textP f)) = (N : Int) := ⟨(leastP (p.kids.map (textP f))).toNat, by omega⟩
   have hBRd : (ba (brT (p.kids.map (textP f)))).data.toList = brT (p.kids.map (textP f)) := ba_data _
   have hbrne : brT (p.kids.map (textP f)) ≠ [] := b2.1
   obtain ⟨SEP, hSEP⟩ : ∃ SEP : ByteArray, ⟨#[13, 10, 45, 45]⟩ ++ ba (brT (p.kids.map (textP f))) ++ ⟨#[13, 10]⟩ = SEP := ⟨_, rfl⟩
   have hSd : SEP.data.toList = crlf2 ++ dd ++ (ba (brT (p.kids.map (textP f)))).data.toList ++ crlf2 := by rw [← hSEP]; simp [crlf2, dd]
   have hSs : SEP.data.toList.length ≤ 30 := by
    rw [hSd, hBRd]
    have h3 : (brT (p.kids.map (textP f))).length ≤ 9 := b3
    simp only [List.length_append, crlf2, dd, List.length_cons, List.length_nil]
    omega
   have hjl := join_len SEP.data.toList (p.kids.map (textP f))
   have hjn : SEP.data.toList.length * (p.kids.map (textP f)).length ≤ 30 * 12 := Nat.mul_le_mul hSs (by rw [List.length_map]; omega)
   have hlens : Lib.lens (p.kids.map (textP f)) ≤ 240000 := by
    have h1 : Lib.lens (p.kids.map (textP f)) ≤ 20000 * (p.kids.map (nodesP f)).sum := s1
    omega
   have hsum4 : ((p.kids.map (textP f)).map List.length).sum ≤ 400000 := by have := s1; omega
   have hms := many_data p (ba (brT (p.kids.map (textP f)))) (ba (Lib.join (p.kids.map (textP f)) SEP.data.toList)) SEP (p.kids.map (textP f)) (by simpa using m1) m4 (by rw [hBRd]; exact hbrne) hSd (ba_data _)
   rw [hBRd] at hms
   have hgoal : headP p (brT (p.kids.map (textP f))) ++ (p.kids.map (textP f)).flatMap (pieceT (brT (p.kids.map (textP f)))) ++ lastT (brT (p.kids.map (textP f))) = headP p (brT (p.kids.map (textP f))) ++ ((p.kids.map (textP f)).flatMap (pieceT (brT (p.kids.map (textP f)))) ++ lastT (brT (p.kids.map (textP f)))) := List.append_assoc _ _ _
   have hS4 : (rS4 (⟨#[67, 111, 110, 116, 101, 110, 116, 45, 84, 121, 112, 101, 58, 32]⟩ ++ p.ty ++ (⟨#[59, 32, 98, 111, 117, 110, 100, 97, 114, 121, 61, 34]⟩ ++ ba (brT (p.kids.map (textP f))) ++ ⟨#[34]⟩)) p.id).size ≤ 5000 := rS4_size _ _ (by
    simp only [ByteArray.size_append]
    rw [ba_size]
    have h3 : (brT (p.kids.map (textP f))).length ≤ 9 := b3
    show 14 + p.ty.size + (12 + _ + 1) ≤ 3000
    omega) z2
   rw [show ba (headP p (brT (p.kids.map (textP f))) ++ ((p.kids.map (textP f)).flatMap (pieceT (brT (p.kids.map (textP f)))) ++ lastT (brT (p.kids.map (textP f))))) = ba (headP p (brT (p.kids.map (textP f))) ++ (p.kids.map (textP f)).flatMap (pieceT (brT (p.kids.map (textP f)))) ++ lastT (brT (p.kids.map (textP f)))) from by congr 1; simp, hms]
   refine rtext_many p.ty p.cs p.id p.loc (ba (Lib.join (p.kids.map (textP f)) SEP.data.toList)) _ _ _ (ba (brT (p.kids.map (textP f)))) SEP p.how pb p.body.length cb bk ok p.kids.length ck (p.kids.map fun k => ba (textP f k)) N w (by have := List.length_pos_iff.2 m1; omega) (by omega) hH.2.2.2.1.1 ?_ (by omega) (by omega) z0 z2 z3 hS4 (rS5_size _ _ hS4 z3) (by rw [ba_size]; omega) (by rw [ba_size]; have h3 : (brT (p.kids.map (textP f))).length ≤ 9 := b3; omega) (he_t _ m4) ?_ (he_f _ (by rw [hBRd]; exact hbrne)) CMx ?_ ?_ ?_ ?_ ?_ hSEP ?_ ?_ rfl
   ·unfold Hid; simp
   ·unfold Hid brT brd
    rw [hN]
    apply ByteArray.ext
    simp [ba]
   ·intro W1 hW1 i hi
    obtain ⟨kpb, kcb, kpk, kck, hc, hh⟩ := hkids i hi
    rw [hget i hi]
    refine ⟨(p.kids.getD i pt0).ty, (p.kids.getD i pt0).cs, (p.kids.getD i pt0).id, (p.kids.getD i pt0).loc, (p.kids.getD i pt0).how, kpb, (p.kids.getD i pt0).body.length, kcb, kpk, (p.kids.getD i pt0).kids.length, kck, fun W hW => ?_, fun W hW => ?_⟩
    ·exact (hc.below hW1).below hW
    ·exact rtext_any f F' (p.kids.getD i pt0) kpb kcb kpk kck W (hE.below (hW1.trans (hW.mono hW1.size))) ((hh.below hW1).below hW) (hg.2 _ (hmem i hi)) (by have := sum_mem f p.kids _ (hmem i hi); omega)
   ·intro W k hW h1 h2
    refine (Tryz.strconv_Itoa (k : Int) (by omega) (by omega) W (hE.1.2 W hW).2.2).mono ?_
    rintro e w' ⟨rfl, k', os, rfl⟩
    exact ⟨rfl, Lib.below_grow _ W (Nat.le_refl _) k' os⟩
   ·intro k h1 h2
    have := (brd_tok (k : Int) (by omega) (by omega)).2.2
    unfold brd at this
    rw [List.length_append] at this
    show (Lib.itoa (k : Int)).toArray.size ≤ 10
    rw [List.size_toArray]
    have h2 : ([61, 95] : List UInt8).length = 2 := rfl
    omega
   ·intro W q c g k TR hW h1 h2 hT hTR hcell
    obtain ⟨M, hM⟩ := (hE.1.2 W hW).2.1
    have hRd : TR.data.toList = brd (k : Int) := by rw [hTR]; unfold brd; simp
    have hRs : TR.size ≤ 1000 := by rw [Lib.size_eq, hRd]; have := (brd_tok (k : Int) (by omega) (by omega)).2.2; omega
    have := tcont_any q p.kids.length c (p.kids.map fun k => ba (textP f k)) (by simp) g TR (k : Int) M W (by have := List.length_pos_iff.2 m1; omega) (by omega) (fun t ht => by obtain ⟨k, hk1, rfl⟩ := List.mem_map.1 ht; rw [ba_size]; have := hts k hk1; omega) hRs hRd hT hcell hM
    rw [hmap] at this
    have hsome : inSome (p.kids.map (textP f)) (k : Int) = decide (k < N) := by
     by_cases hkN : k < N
     ·rw [decide_eq_true hkN]
      exact inSome_below _ _ (by omega) (by rw [hN]; omega)
     ·obtain rfl : k = N := by omega
      rw [decide_eq_false hkN, ← hN]
      exact inSome_least _ hsum4
    rw [hsome] at this
    exact this
   ·intro W q c hW hmc hT
    obtain ⟨b, o, rfl, hcell⟩ := hT (by simpa using m1)
    have hJ := Tryz.strings_Join b o c (p.kids.map fun k => ba (textP f k)) SEP W (fun j x hx => by
     have hj := (List.getElem?_eq_some_iff.1 hx).1
     rw [hcell j hj, List.getD_eq_getElem?_getD, hx]
     rfl) (World.block_lt_of_cell? W _ (hcell 0 (by rw [List.length_map]; exact List.length_pos_iff.2 m1))) (by rw [List.length_map]; omega) (by rw [List.length_map]; exact hmc) (by rw [hmap]; omega)
    rw [hmap, List.length_map] at hJ
    exact hJ
   ·unfold Hid rS4
    by_cases h : p.id.data.toList = []
    ·rw [if_pos h]; exact .inl ⟨h, rfl⟩
    ·rw [if_neg h]; exact .inr ⟨h, rfl⟩
   ·unfold Hid rS5
    by_cases h : p.loc.data.toList = []
    ·rw [if_pos h]; exact .inl ⟨h, rfl⟩
    ·rw [if_neg h]; exact .inr ⟨h, rfl⟩
end Go.Proofs.YtlndhdimamnnlaaGreatDoor



namespace Go.Proofs.YtlndhdimamnnlaaGreatDoor
open Go.RowKit
theorem drew_below (w : World) (q : Nat) : Below w.heap.size w (w.drewN q) := ⟨rfl, rfl, rfl, Nat.le_refl _, fun _ _ => rfl⟩
theorem sclos_any (p1 p2 : Option Addr) (n c d : Nat) (L : List UInt8) (en : n = L.length) (w : World) (hn : n ≤ maxLen) (h1 : BRow w p1 L) (h2 : BRow w p2 L) :
  Calls Tryz.prog 15 #[.slice p1 n c, .slice p2 n d] w fun e w' => e = .returned (.bool true) ∧ Below w.heap.size w w' := by
 have C0 := equalBytes p1 p2 n n c d (nums L) (nums L) w hn hn (by rw [en]; exact brow_row h1) (by rw [en]; exact brow_row h2)
 rw [decide_eq_true (Eq.refl (nums L))] at C0
 have C : Hid (Calls Tryz.prog 16 #[.slice p1 n c, .slice p2 n d] w fun e w' => e = .returned (.bool true) ∧ ∃ q, w' = w.drewN q) := C0
 clear C0 h1 h2 en hn
 go_enter Tryz.func15, Tryz.ntmps15
 go_wp2_with fail
 refine C.out.mono ?_
 rintro e w1 ⟨rfl, q, rfl⟩
 clear C
 go_wp2
 go_ret
 exact ⟨rfl, drew_below w q⟩
theorem seq_none (p q : Option Addr) (c d : Nat) (w : World) : Calls Tryz.prog 14 #[.slice p 0 c, .slice q 0 d, .func (Fn.func 15) #[] #[]] w fun e w' => e = .returned (.bool true) ∧ Below w.heap.size w w' := by
 go_enter Tryz.func14, Tryz.ntmps14
 go_wp2
 refine wp_loop_rounds 1 ?_
 rw [rounds_succ]
 go_wp2
 go_ret
 exact ⟨rfl, Below.refl _ _⟩
set_option maxHeartbeats 2000000 in
set_option maxRecDepth 100000 in
theorem seq_some (b o b2 o2 n c d : Nat) (w : World) (hn : n ≤ 1000000) (X : Nat → List UInt8) (P : Nat → Option Addr) (C : Nat → Nat) (P2 : Nat → Option Addr) (C2 : Nat → Nat)
  (hY : ∀ i, i < n → w.cell? ⟨b, o + i, none⟩ = some (.slice (P i) (X i).length (C i))) (hZ : ∀ i, i < n → w.cell? ⟨b2, o2 + i, none⟩ = some (.slice (P2 i) (X i).length (C2 i)))
  (hR : ∀ i, i < n → BRow w (P i) (X i) ∧ BRow w (P2 i) (X i) ∧ (X i).length ≤ maxLen) :
  Calls Tryz.prog 14 #[.slice (some ⟨b, o, none⟩) n c, .slice (some ⟨b2, o2, none⟩) n d, .func (Fn.func 15) #[] #[]] w fun e w' => e = .returned (.bool true) ∧ Below w.heap.size w w' := by
 have HR : Hid (∀ i wr, i < n → Below w.heap.size w wr → wr.cell? ⟨b, o + i, none⟩ = some (.slice (P i) (X i).length (C i)) ∧ wr.cell? ⟨b2, o2 + i, none⟩ = some (.slice (P2 i) (X i).length (C2 i)) ∧ Calls Tryz.prog 15 #[.slice (P i) (X i).length (C i), .slice (P2 i) (X i).length (C2 i)] wr fun e w' => e = .returned (.bool true) ∧ Below wr.heap.size wr w') := fun i wr hi hb =>
  ⟨(hb.cell (p := ⟨b, o + i, none⟩) (World.block_lt_of_cell? w _ (hY i hi))).trans (hY i hi), (hb.cell (p := ⟨b2, o2 + i, none⟩) (World.block_lt_of_cell? w _ (hZ i hi))).trans (hZ i hi), sclos_any (P i) (P2 i) _ (C i) (C2 i) (X i) rfl wr (hR i hi).2.2 ((hR i hi).1.under hb) ((hR i hi).2.1.under hb)⟩
 clear hY hZ hR
 go_enter Tryz.func14, Tryz.ntmps14
 go_wp2_with fail
 go_loopw [17] (fun iv wr => ∃ k : Nat, k ≤ n ∧ iv = .int .i64 k ∧ Below w.heap.size w wr) (fun iv _ => n - (intOf iv).toNat)
 case atStart => exact ⟨0, Nat.zero_le _, rfl, Below.refl _ _⟩
 case round =>
  obtain ⟨k, hk, rfl, hbr⟩ := hrel
  by_cases hlt : k < n
  ·have hlz : (k : Int) < (n : Int) := by omega
   obtain ⟨h1, h2, hC⟩ := HR.out k wr hlt hbr
   have CF : Hid (Calls Tryz.prog 15 #[.slice (P k) (X k).length (C k), .slice (P2 k) (X k).length (C2 k)] wr fun e w' => e = .returned (.bool true) ∧ Below wr.heap.size wr w') := hC
   clear hC
   generalize (X k).length = m at *
   generalize P k = pk at *
   generalize C k = ck at *
   generalize P2 k = pk2 at *
   generalize C2 k = ck2 at *
   go_wp2_with fail
   refine CF.out.mono ?_
   rintro e w2 ⟨rfl, hb2⟩
   have hb3 : Below w.heap.size w w2 := hbr.trans (hb2.mono hbr.size)
   clear CF hb2
   go_wp2_with fail
   go_roundw
   case rel => exact ⟨k + 1, by omega, by go_num, hb3⟩
   case measure => simp [intOf]; omega
  ·obtain rfl : k = n := by omega
   go_wp2_with fail
   go_ret
   exact ⟨rfl, hbr⟩
theorem seq_pieces {w w1 w2 : World} {B1 B2 : Nat} {l : List (List UInt8)} {v1 v2 : Value} {Y1 Y2 : List SY} (hl : l.length ≤ 1000000) (h1 : Y1.map (·.1) = l) (h2 : Y2.map (·.1) = l) (o1 : w1.ownsRow B1 22 1 v1 l.length (syv Y1)) (s1 : SOwn w1 B1 Y1) (b1 : Below w1.heap.size w1 w) (o2 : w2.ownsRow B2 22 1 v2 l.length (syv Y2)) (s2 : SLie w2 B2 Y2) (b2 : Below w2.heap.size w2 w) :
  ∃ p c q d, v1 = .slice p l.length c ∧ v2 = .slice q l.length d ∧ Calls Tryz.prog 14 #[.slice p l.length c, .slice q l.length d, .func (Fn.func 15) #[] #[]] w fun e w' => e = .returned (.bool true) ∧ Below w.heap.size w w' := by
 obtain ⟨p, c, rfl⟩ := owned_slice o1
 obtain ⟨q, d, rfl⟩ := owned_slice o2
 refine ⟨p, c, q, d, rfl, rfl, ?_⟩
 by_cases h0 : l.length = 0
 ·rw [h0]
  exact seq_none p q c d w
 ·have a1 := ownsRow_below o1 b1
  have a2 := ownsRow_below o2 b2
  rcases a1.2 with ⟨_, h⟩ | ⟨g1, cap1, cur1, e1, _⟩
  ·exact absurd h h0
  rcases a2.2 with ⟨_, h⟩ | ⟨g2, cap2, cur2, e2, _⟩
  ·exact absurd h h0
  injection e1 with e1 _ _
  injection e2 with e2 _ _
  subst e1 e2
  have l1 : Y1.length = l.length := by rw [← h1, List.length_map]
  have l2 : Y2.length = l.length := by rw [← h2, List.length_map]
  have g1' : ∀ i, i < l.length → (Y1.getD i default).1 = l.getD i [] := fun i hi => by
   rw [← h1, List.getD_eq_getElem?_getD, List.getD_eq_getElem?_getD, List.getElem?_map, List.getElem?_eq_getElem (by omega)]
   rfl
  have g2' : ∀ i, i < l.length → (Y2.getD i default).1 = l.getD i [] := fun i hi => by
   rw [← h2, List.getD_eq_getElem?_getD, List.getD_eq_getElem?_getD, List.getElem?_map, List.getElem?_eq_getElem (by omega)]
   rfl
  have m1 : ∀ i, i < l.length → Y1.getD i default ∈ Y1 := fun i hi => by rw [List.getD_eq_getElem?_getD, List.getElem?_eq_getElem (by omega)]; exact List.getElem_mem _
  have m2 : ∀ i, i < l.length → Y2.getD i default ∈ Y2 := fun i hi => by rw [List.getD_eq_getElem?_getD, List.getElem?_eq_getElem (by omega)]; exact List.getElem_mem _
  refine seq_some g1 0 g2 0 l.length c d w hl (fun i => l.getD i []) (fun i => (Y1.getD i default).2.1) (fun i => (Y1.getD i default).2.2) (fun i => (Y2.getD i default).2.1) (fun i => (Y2.getD i default).2.2) (fun i hi => ?_) (fun i hi => ?_) (fun i hi => ?_)
  ·rw [a1.cellAt (0 + i) (by omega), Nat.zero_add, syv, List.getElem?_map, List.getElem?_eq_getElem (by omega)]
   have := g1' i hi
   rw [List.getD_eq_getElem?_getD, List.getElem?_eq_getElem (by omega)] at this ⊢
   simp only [Option.getD_some] at this ⊢
   rw [Option.map_some, this]
  ·rw [a2.cellAt (0 + i) (by omega), Nat.zero_add, syv, List.getElem?_map, List.getElem?_eq_getElem (by omega)]
   have := g2' i hi
   rw [List.getD_eq_getElem?_getD, List.getElem?_eq_getElem (by omega)] at this ⊢
   simp only [Option.getD_some] at this ⊢
   rw [Option.map_some, this]
  ·obtain ⟨p9, c9, e9, r1, r2, r3, r4⟩ := owned_row (s1 _ (m1 i hi))
   injection e9 with e9 _ e9'
   have r4' : BRow w1 (Y1.getD i default).2.1 (l.getD i []) := by rw [← g1' i hi, e9]; exact r4
   have q4 := (s2 _ (m2 i hi)).row
   rw [g2' i hi] at q4
   refine ⟨r4'.under b1, q4.under b2, ?_⟩
   rw [← g1' i hi]
   exact Nat.le_trans r1 r2
end Go.Proofs.YtlndhdimamnnlaaGreatDoor

