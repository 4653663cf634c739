
import Derived.Test.YtlndhdimamnnlaaGreatDoorXmimesays22
namespace Go.Proofs.YtlndhdimamnnlaaGreatDoor
open Go.RowKit
theorem check_mapH (fs : List FV) : checkF (fs.map fl) = checkV fs := by
 unfold checkF checkV badN okAll
 rw [List.length_map, List.all_map]
 rfl
theorem sizes_snocH {fs : List FV} {a b : ByteArray} {A B : Nat} (h : ∀ f ∈ fs, f.1.size + f.2.size ≤ A) (hz : a.size + b.size ≤ B) (hAB : A ≤ B) : ∀ f ∈ fs ++ [(a, b)], f.1.size + f.2.size ≤ B := by
 intro f hf
 rcases List.mem_append.1 hf with h1 | h1
 ·have := h f h1; omega
 ·simp at h1; subst h1; exact hz
def LinePost (B : Nat) (r : Option (List FV)) (w : World) (e : Ending) (w' : World) : Prop :=
 Below B w w' ∧ match r with
  | none => e = .returned (.tuple #[.slice none 0 0, .bool false])
  | some fs => ∃ v, e = .returned (.tuple #[v, .bool true]) ∧ w'.ownsRow B 105 2 v fs.length (fv fs)
theorem line_any (fs : List FV) (S : ByteArray) (A : Nat) (hS : S.data.toList ≠ []) (hs : S.size ≤ 100000) (hA : A ≤ 100000) (h20 : fs.length ≤ 20) (hz : ∀ f ∈ fs, f.1.size + f.2.size ≤ A) :
  ∃ r : Option (List FV), (r = none → addLine (fs.map fl) S.data.toList = .error 1) ∧
   (∀ fs', r = some fs' → (20 < fs'.length → addLine (fs.map fl) S.data.toList = .error 2) ∧ (fs'.length ≤ 20 → addLine (fs.map fl) S.data.toList = .ok (fs'.map fl)) ∧ fs'.length ≤ 21 ∧ ∀ f ∈ fs', f.1.size + f.2.size ≤ A + 1 + S.size) ∧
   ∀ (B : Nat) (lv : Value) (w : World), B ≤ w.heap.size → w.ownsRow B 105 2 lv fs.length (fv fs) → Calls Tryz.prog 116 #[lv, .string S] w fun e w' => LinePost B r w e w' := by
 obtain ⟨c0, hh⟩ : ∃ c0, S.data.toList.head? = some c0 := by
  cases h : S.data.toList with
  | nil => exact absurd h hS
  | cons a l => exact ⟨a, rfl⟩
 cases hb : isBT c0 with
 | true =>
  rcases List.eq_nil_or_concat fs with rfl | ⟨fs0, f, rfl⟩
  ·refine ⟨none, fun _ => add_none hh hb, fun fs' h => (by cases h), fun B lv w hB hown => ?_⟩
   obtain ⟨p1, c1, rfl, _⟩ := owned_fields hown
   refine (line_none S c0 hh hb p1 c1 w (by omega)).mono ?_
   rintro e w' ⟨rfl, rfl⟩
   exact ⟨Below.refl _ _, rfl⟩
  ·obtain ⟨Na, Va⟩ := f
   rw [List.concat_eq_append] at *
   have hNV := hz (Na, Va) (by simp)
   simp only at hNV
   obtain ⟨T2, hT2, hT2s⟩ := mk_trim isSp (Va.data.toList ++ [32] ++ trimBy isBT S.data.toList)
   have hsz : T2.size ≤ Va.size + 1 + S.size := by
    refine Nat.le_trans hT2s ?_
    have := trimBy_length isBT S.data.toList
    rw [← Lib.size_eq] at this
    simp only [List.length_append, List.length_cons, List.length_nil]
    rw [← Lib.size_eq]
    omega
   refine ⟨some (fs0 ++ [(Na, T2)]), fun h => (by cases h), fun fs' h => ?_, fun B lv w hB hown => ?_⟩
   ·obtain rfl := (Option.some.inj h).symm
    rw [List.length_append] at h20 ⊢
    simp only [List.length_cons, List.length_nil] at h20 ⊢
    refine ⟨fun h => by omega, fun _ => ?_, by omega, ?_⟩
    ·rw [List.map_append, List.map_singleton, add_more hh hb]
     simp [fl, hT2]
    ·exact sizes_snocH (A := A) (fun f hf => hz f (by simp [hf])) (by omega) (by omega)
   ·rw [List.length_append] at h20
    simp only [List.length_cons, List.length_nil] at h20
    refine (line_more B S c0 hh hb fs0 Na Va T2 hT2 lv w (by omega) (by omega) hB (by omega) hown).mono ?_
    rintro e w' ⟨hbel, v, rfl, ho⟩
    exact ⟨hbel, v, rfl, ho⟩
 | false =>
  cases hc : cutB 58 S.data.toList with
  | none =>
   refine ⟨none, fun _ => add_bad hh hb hc, fun fs' h => (by cases h), fun B lv w hB hown => ?_⟩
   refine (line_bad S c0 hh hb hc lv w (by omega)).mono ?_
   rintro e w' ⟨rfl, hbel⟩
   exact ⟨hbel.mono hB, rfl⟩
  | some x =>
   obtain ⟨NM, VL, rfl, hx⟩ := cut_parts hc
   obtain ⟨T, hT, hTs⟩ := mk_trim isBT VL.data.toList
   rw [← Lib.size_eq] at hTs
   refine ⟨some (fs ++ [(NM, T)]), fun h => (by cases h), fun fs' h => ?_, fun B lv w hB hown => ?_⟩
   ·obtain rfl := (Option.some.inj h).symm
    rw [List.length_append]
    simp only [List.length_cons, List.length_nil]
    refine ⟨fun h => ?_, fun h => ?_, by omega, ?_⟩
    ·exact add_many hh hb hc (by rw [List.length_map]; omega)
    ·rw [add_new hh hb hc (by rw [List.length_map]; omega)]
     simp [fl, hT]
    ·exact sizes_snocH (A := A) hz (by omega) (by omega)
   ·refine (line_new B S c0 hh hb NM VL T hc hT lv fs w (by omega) (by omega) hB (by omega) hown).mono ?_
    rintro e w' ⟨hbel, v, rfl, ho⟩
    exact ⟨hbel, v, rfl, ho⟩
theorem parse_stepR {R a r : List UInt8} {fs : List Fld} {A : Nat} (hc : cutB 10 R = some (a, r)) :
  (noCR a = [] → parseGo (R.length + 1) R A fs = (if checkF fs = 0 then (fs, A + a.length + 1, 0) else ([], 0, checkF fs))) ∧
  (noCR a ≠ [] → ∀ e, addLine fs (noCR a) = .error e → parseGo (R.length + 1) R A fs = ([], 0, e)) ∧
  (noCR a ≠ [] → ∀ fs', addLine fs (noCR a) = .ok fs' → parseGo (R.length + 1) R A fs = parseGo (r.length + 1) r (A + a.length + 1) fs') := by
 have hl : R.length = a.length + 1 + r.length := by rw [(cutB_some 10 _ _ _ hc).1]; simp; omega
 refine ⟨fun h => ?_, fun h e he => ?_, fun h fs' he => ?_⟩
 ·rw [parseGo, hc]; simp only; rw [if_pos h]
 ·rw [parseGo, hc]; simp only; rw [if_neg h, he]
 ·rw [parseGo, hc]; simp only; rw [if_neg h, he]
  exact parseGo_fuel _ r _ _ _ (by omega) (by omega)
theorem noCR_length (l : List UInt8) : (noCR l).length ≤ l.length := by
 unfold noCR; split
 ·rw [List.length_dropLast]; omega
 ·exact Nat.le_refl _
set_option maxHeartbeats 4000000 in
set_option maxRecDepth 100000 in
theorem hparse_some (p : Option Addr) (n c : Nat) (L : List UInt8) (en : n = L.length) (w : World) (hn : n ≤ 40000) (hp : p = none → n = 0 ∧ c = 0) (hr : BRow w p L) :
  Calls Tryz.prog 64 #[.slice p n c] w fun e w' => FReadPost w (parseGo (n + 1) L 0 []) e w' := by
 obtain ⟨X, hX⟩ : ∃ X : ByteArray, X = ⟨L.toArray⟩ := ⟨_, rfl⟩
 have hcv := conv_bytes w p n c L en hr hp
 rw [← hX] at hcv
 have hXL : X.data.toList = L := by rw [hX]
 have hXs : X.size = n := by rw [Lib.size_eq, hXL, en]
 have hn1 : ¬ (40000 : Int) < (n : Int) := by omega
 have EN : Hid (n = L.length) := en
 have HX : Hid (X.data.toList = L) := hXL
 clear hX hXL hr hp en
 go_enter Tryz.func64, Tryz.ntmps64
 go_wp2
 go_loopw [2, 5] (fun lv rv wr => ∃ (fs : List FV) (R : ByteArray), rv = .string R ∧ R.size ≤ n ∧ fs.length ≤ 20 ∧ wr.ownsRow w.heap.size 105 2 lv fs.length (fv fs) ∧ Below w.heap.size w wr ∧ Hid (∀ f ∈ fs, f.1.size + f.2.size ≤ n - R.size) ∧ Hid (parseGo (R.data.toList.length + 1) R.data.toList (n - R.size) (fs.map fl) = parseGo (n + 1) L 0 []))
  (fun _ rv _ => strLen rv)
 case atStart => exact ⟨[], X, rfl, by omega, by simp, World.ownsRow_nil _ _ _ _, Below.refl _ _, (fun f hf => by cases hf), by unfold Hid; rw [HX.out, ← EN.out, hXs, Nat.sub_self]; rfl⟩
 case round =>
  obtain ⟨fs, R, rfl, hR, h20, hown, hbel, HS, HP⟩ := hrel
  clear hcv hXs
  have hsz := hbel.size
  cases hcut : cutB 10 R.data.toList with
  | none =>
   have HN : Hid (parseGo (n + 1) L 0 [] = ([], 0, 1)) := by unfold Hid; rw [← HP.out, parseGo, hcut]
   have HC : Hid (∀ w, Calls Tryz.prog 114 #[.string R, .string ⟨#[10]⟩] w fun e w' => e = .returned (.tuple #[.string R, .string ⟨#[]⟩, .bool false]) ∧ Below w.heap.size w w') := fun w => cut_none 10 R w hcut
   clear hcut hown HP HS
   go_wp2_with fail
   refine (HC.out _).mono ?_
   rintro e w1 ⟨rfl, hb1⟩
   have hbe1 : Below w.heap.size w w1 := hbel.trans (hb1.mono hsz)
   go_wp2
   go_ret3
   show FReadPost _ _ _ _
   rw [HN.out]
   exact freadPost_none hbe1 1
  | some x =>
   obtain ⟨a, r, rfl, hx⟩ := cut_parts hcut
   obtain ⟨P1, P2, P3⟩ := parse_stepR (fs := fs.map fl) (A := n - R.size) hcut
   have HC : Hid (∀ w, Calls Tryz.prog 114 #[.string R, .string ⟨#[10]⟩] w fun e w' => e = .returned (.tuple #[.string a, .string r, .bool true]) ∧ Below w.heap.size w w') := fun w => cut_some 10 R a r w (by omega) hcut
   obtain ⟨T, hT⟩ : ∃ T : ByteArray, T.data.toList = noCR a.data.toList := ⟨⟨(noCR a.data.toList).toArray⟩, rfl⟩
   have hTs : T.size ≤ a.size := by rw [Lib.size_eq, hT, Lib.size_eq]; exact noCR_length _
   have HT : Hid (∀ w, Calls Tryz.prog 115 #[.string a, .string ⟨#[13]⟩] w fun e w' => e = .returned (.string T) ∧ w' = w) := fun w => trimCR_any a T hT w (by omega)
   rw [← hT] at P1 P2 P3
   rw [HP.out] at P1 P2 P3
   rw [← Lib.size_eq a] at P1 P3
   have hA : n - R.size + a.size + 1 = n - r.size := by omega
   rw [hA] at P1 P3
   clear hcut hT
   by_cases hTe : T.data.toList = []
   ·have hTe' : T.toList.isEmpty = true := by rw [ByteArray.toList_eq, hTe]; rfl
    have HP1 : Hid (parseGo (n + 1) L 0 [] = (if checkF (fs.map fl) = 0 then (fs.map fl, n - r.size, 0) else ([], 0, checkF (fs.map fl)))) := P1 hTe
    have hFL : FLen fs := fun f hf => by have := HS.out f hf; unfold maxLen; omega
    obtain ⟨p1, c1, rfl, hl1, hl2, _, _, _, hfr⟩ := owned_fields hown
    have HK : Hid (∀ w', Below wr.heap.size wr w' → Calls Tryz.prog 117 #[.slice p1 fs.length c1] w' fun e w'' => e = .returned (.int .i64 (checkV fs : Nat)) ∧ Below w'.heap.size w' w'') := fun w' hb => hcheck_any p1 fs.length c1 fs rfl w' (by unfold maxLen; omega) hFL (hfr.below hb)
    have HFR : Hid (FRow wr p1 fs) := hfr
    clear P1 P2 P3 HP hfr hown HS hTe
    go_wp2_with fail
    refine (HC.out _).mono ?_
    rintro e w1 ⟨rfl, hb1⟩
    go_wp2_with fail
    refine (HT.out _).mono ?_
    rintro e w' ⟨rfl, hw'⟩
    have hw'' := hw'.symm
    subst hw''
    go_wp2_with fail
    refine (HK.out _ hb1).mono ?_
    rintro e w2 ⟨rfl, hb2⟩
    have hbr2 : Below wr.heap.size wr w2 := hb1.trans (hb2.mono hb1.size)
    have hbe2 : Below w.heap.size w w2 := hbel.trans (hbr2.mono hsz)
    clear HC HT HK
    rw [check_mapH] at HP1
    rcases checkV_cases fs with ⟨hk, _, _⟩ | hk | hk
    ·rw [hk] at HP1 ⊢
     have HN : Hid (parseGo (n + 1) L 0 [] = (fs.map fl, n - r.size, 0)) := by unfold Hid; rw [HP1.out, if_pos rfl]
     have hsub : (n : Int) - (r.size : Int) = ((n - r.size : Nat) : Int) := by omega
     clear HP1 hk hb1 hb2
     go_wp2
     go_ret3
     show FReadPost _ _ _ _
     rw [HN.out]
     exact ⟨hbe2, p1, c1, fs, by first | rfl | (simp only [hsub]; rfl) | (rw [hsub]; rfl), rfl, hl1, hl2, HFR.out.below hbr2, hFL⟩
    ·rw [hk] at HP1 ⊢
     have HN : Hid (parseGo (n + 1) L 0 [] = ([], 0, 1)) := by unfold Hid; rw [HP1.out, if_neg (by decide)]
     clear HP1 hk hb1 hb2
     go_wp2
     go_ret3
     show FReadPost _ _ _ _
     rw [HN.out]
     exact freadPost_none hbe2 1
    ·rw [hk] at HP1 ⊢
     have HN : Hid (parseGo (n + 1) L 0 [] = ([], 0, 2)) := by unfold Hid; rw [HP1.out, if_neg (by decide)]
     clear HP1 hk hb1 hb2
     go_wp2
     go_ret3
     show FReadPost _ _ _ _
     rw [HN.out]
     exact freadPost_none hbe2 2
   ·have hTe' : T.toList.isEmpty = false := by
     rw [ByteArray.toList_eq]
     cases h : T.data.toList with
     | nil => exact absurd h hTe
     | cons a b => rfl
    obtain ⟨q, L1, L2, L3⟩ := line_any fs T (n - R.size) hTe (by omega) (by omega) h20 HS.out
    have P2' := P2 hTe
    have P3' := P3 hTe
    clear P1 P2 P3 hTe HP
    obtain ⟨p1, c1, rfl, hl1, hl2, _, _, _, _⟩ := owned_fields hown
    cases q with
    | none =>
     have HN : Hid (parseGo (n + 1) L 0 [] = ([], 0, 1)) := P2' 1 (L1 rfl)
     have HL : Hid (∀ w', Below wr.heap.size wr w' → Calls Tryz.prog 116 #[.slice p1 fs.length c1, .string T] w' fun e w'' => LinePost w.heap.size none w' e w'') := fun w' hb => L3 w.heap.size _ w' (by have := hb.size; omega) (ownsRow_below hown hb)
     clear L1 L2 L3 P2' P3' hown HS
     go_wp2_with fail
     refine (HC.out _).mono ?_
     rintro e w1 ⟨rfl, hb1⟩
     go_wp2_with fail
     refine (HT.out _).mono ?_
     rintro e w' ⟨rfl, hw'⟩
     have hw'' := hw'.symm
     subst hw''
     go_wp2_with fail
     refine (HL.out _ hb1).mono ?_
     rintro e w2 ⟨hb2, he⟩
     simp only at he
     subst he
     have hbe2 : Below w.heap.size w w2 := (hbel.trans (hb1.mono hsz)).trans hb2
     clear HC HT HL
     go_wp2
     go_ret3
     show FReadPost _ _ _ _
     rw [HN.out]
     exact freadPost_none hbe2 1
    | some fs' =>
     obtain ⟨M1, M2, M3, M4⟩ := L2 fs' rfl
     have HL : Hid (∀ w', Below wr.heap.size wr w' → Calls Tryz.prog 116 #[.slice p1 fs.length c1, .string T] w' fun e w'' => LinePost w.heap.size (some fs') w' e w'') := fun w' hb => L3 w.heap.size _ w' (by have := hb.size; omega) (ownsRow_below hown hb)
     have HM4 : Hid (∀ f ∈ fs', f.1.size + f.2.size ≤ n - r.size) := fun f hf => by have := M4 f hf; omega
     have HM1 : Hid (20 < fs'.length → parseGo (n + 1) L 0 [] = ([], 0, 2)) := fun h => P2' 2 (M1 h)
     have HM2 : Hid (fs'.length ≤ 20 → parseGo (r.data.toList.length + 1) r.data.toList (n - r.size) (fs'.map fl) = parseGo (n + 1) L 0 []) := fun h => (P3' _ (M2 h)).symm
     clear L1 L2 L3 P2' P3' hown HS M1 M2 M4
     go_wp2_with fail
     refine (HC.out _).mono ?_
     rintro e w1 ⟨rfl, hb1⟩
     go_wp2_with fail
     refine (HT.out _).mono ?_
     rintro e w' ⟨rfl, hw'⟩
     have hw'' := hw'.symm
     subst hw''
     go_wp2_with fail
     refine (HL.out _ hb1).mono ?_
     rintro e w2 ⟨hb2, v2, rfl, hown2⟩
     have hbe2 : Below w.heap.size w w2 := (hbel.trans (hb1.mono hsz)).trans hb2
     obtain ⟨p2, c2, rfl, hm1, hm2, _, _, _, _⟩ := owned_fields hown2
     clear HC HT HL hb1 hb2
     have HO : Hid (w2.ownsRow w.heap.size 105 2 (.slice p2 fs'.length c2) fs'.length (fv fs')) := hown2
     clear hown2
     by_cases h21 : 20 < fs'.length
     ·have HN : Hid (parseGo (n + 1) L 0 [] = ([], 0, 2)) := HM1.out h21
      have h21' : (20 : Int) < (fs'.length : Int) := by omega
      clear HM1 HM2
      go_wp2
      go_ret3
      show FReadPost _ _ _ _
      rw [HN.out]
      exact freadPost_none hbe2 2
     ·have HN : Hid (parseGo (r.data.toList.length + 1) r.data.toList (n - r.size) (fs'.map fl) = parseGo (n + 1) L 0 []) := HM2.out (by omega)
      have h21' : ¬ (20 : Int) < (fs'.length : Int) := by omega
      clear HM1 HM2
      go_wp2
      go_roundw
      case rel => exact ⟨fs', r, rfl, by omega, by omega, HO.out, hbe2, HM4, HN⟩
      case measure => simp [strLen]; omega
theorem hparse_any (p : Option Addr) (n c : Nat) (L : List UInt8) (en : n = L.length) (w : World) (hp : p = none → n = 0 ∧ c = 0) (hr : BRow w p L) :
  Calls Tryz.prog 64 #[.slice p n c] w fun e w' => FReadPost w (parseF L) e w' := by
 by_cases hn : n ≤ 40000
 ·rw [parseF, if_neg (by omega), ← en]
  exact hparse_some p n c L en w hn hp hr
 ·have hn1 : (40000 : Int) < (n : Int) := by omega
  rw [parseF, if_pos (by omega)]
  clear en hr
  go_enter Tryz.func64, Tryz.ntmps64
  go_wp2
  go_ret3
  exact freadPost_none (Below.refl _ _) 2
end Go.Proofs.YtlndhdimamnnlaaGreatDoor



namespace Go.Proofs.YtlndhdimamnnlaaGreatDoor
open Go.RowKit
def ParamsPost (w : World) (out : List UInt8 × List Fld × Nat) (e : Ending) (w' : World) : Prop :=
 Below w.heap.size w w' ∧ ∃ p c fs, e = .returned (.tuple #[.string (ba out.1), .slice p fs.length c, .int .i64 (out.2.2 : Int)]) ∧ fs.map fl = out.2.1 ∧ fs.length ≤ c ∧ c ≤ maxLen ∧ FRow w' p fs ∧ FLen fs
theorem paramsPost_none {w w' : World} (hb : Below w.heap.size w w') (n : Nat) : ParamsPost w ([], [], n) (.returned (.tuple #[.string ⟨#[]⟩, .slice none 0 0, .int .i64 (n : Int)])) w' :=
 ⟨hb, none, 0, [], rfl, rfl, Nat.le_refl _, by decide, fun h => absurd rfl h, fun f hf => by cases hf⟩
theorem small8_length (l : List UInt8) : (small8 l).length = l.length := by simp [small8, Lib.toLowerA]
theorem value_ascii {s : List UInt8} (h : valueS s = true) : ∀ c ∈ s, c.toNat < 128 := fun c hc => by have := ((value_facts h).2.1 c hc).2; omega
theorem paramsGo_bad {g : Nat} {R : List UInt8} {fs : List Fld} (h : paramOk R = false) : paramsGo (g + 1) R true fs = .error 1 := by rw [paramsGo, if_pos rfl, if_neg (by simp [h])]
theorem paramsGo_many {g : Nat} {R : List UInt8} {fs : List Fld} (h : paramOk R = true) (hl : 20 < fs.length + 1) : paramsGo (g + 1) R true fs = .error 2 := by rw [paramsGo, if_pos rfl, if_pos h, if_pos hl]
theorem paramsGo_next {g : Nat} {R : List UInt8} {fs : List Fld} (h : paramOk R = true) (hl : ¬ 20 < fs.length + 1) : paramsGo (g + 1) R true fs = paramsGo g (restS R).2.1 (restS R).2.2.1 (fs ++ [paramFld R]) := by rw [paramsGo, if_pos rfl, if_pos h, if_neg hl]
theorem paramsGo_end {g : Nat} {R : List UInt8} {fs : List Fld} : paramsGo (g + 1) R false fs = .ok fs := by rw [paramsGo, if_neg (by simp)]
theorem nameS_length (l : List UInt8) : (nameS l).length ≤ l.length := Nat.le_trans (trimBy_length isSp _) (cutP_length 61 l).1
set_option maxHeartbeats 4000000 in
theorem hparams_value (s : List UInt8) (w : World) (hv : valueS s = true) :
  Calls Tryz.prog 66 #[.string (ba s)] w fun e w' => ParamsPost w (paramsF s) e w' := by
 obtain ⟨i0, hi, hz0, hz1, hz2⟩ := info_parts info_fieldH
 have hl9 := (value_facts hv).1
 have C1 : Hid (∀ w, Calls Tryz.prog 118 #[.string (ba s)] w fun e w' => e = .returned (.bool true) ∧ Below w.heap.size w w') := fun w => by rw [← hv]; exact hval_any _ w (by rw [ba_size]; unfold maxLen; omega)
 have C2 : Hid (∀ w, Calls Tryz.prog 114 #[.string (ba s), .string ⟨#[59]⟩] w fun e w' => e = .returned (.tuple #[.string (ba (cutP 59 s).1), .string (ba (cutP 59 s).2.1), .bool (cutP 59 s).2.2]) ∧ Below w.heap.size w w') := fun w => cutP_any 59 s w (by omega)
 have hl1 := (cutP_length 59 s).1
 have hl2 := (cutP_length 59 s).2.1
 have C3 : Hid (∀ w, Calls Tryz.prog 79 #[.string (ba (cutP 59 s).1), .string ⟨#[32]⟩] w fun e w' => e = .returned (.string (ba (trimBy isSp (cutP 59 s).1))) ∧ Below w.heap.size w w') := fun w => trimSp_any _ _ rfl w (by rw [ba_size]; omega)
 have hl3 := trimBy_length isSp (cutP 59 s).1
 have C4 : Hid (∀ w, Calls Tryz.prog 120 #[.string (ba (trimBy isSp (cutP 59 s).1))] w fun e w' => e = .returned (.string (ba (small8 (trimBy isSp (cutP 59 s).1)))) ∧ Below w.heap.size w w') := fun w => small_any _ w (by omega) (fun c hc => value_ascii hv c ((cutP_mem 59 s c).1 (mem_trimBy hc)))
 have HF : Hid (paramsF s = outP (small8 (trimBy isSp (cutP 59 s).1)) (paramsGo (s.length + 1) (cutP 59 s).2.1 (cutP 59 s).2.2 [])) := by unfold Hid paramsF; rw [if_pos hv]
 clear hv hl1 hl3
 generalize small8 (trimBy isSp (cutP 59 s).1) = sm at *
 generalize trimBy isSp (cutP 59 s).1 = tm at *
 generalize cutP 59 s = x9 at *
 obtain ⟨a, r, m⟩ := x9
 simp only at *
 generalize ba a = sa at *
 generalize ba tm = stm at *
 obtain ⟨G, hG⟩ : ∃ G, s.length + 1 = G := ⟨_, rfl⟩
 have hGr : r.length < G := by omega
 rw [hG] at HF
 clear hG
 have hr9 : r.length ≤ 900 := by omega
 clear hl2 hl9
 generalize ba s = ss at *
 go_enter Tryz.func66, Tryz.ntmps66
 go_wp2_with fail
 refine (C1.out _).mono ?_
 rintro e w1 ⟨rfl, hb1⟩
 clear C1
 go_wp2_with fail
 refine (C2.out _).mono ?_
 rintro e w2 ⟨rfl, hb2⟩
 clear C2
 have hb0 : Below w.heap.size w w2 := hb1.trans (hb2.mono hb1.size)
 clear hb1 hb2
 go_wp2
 go_loopw [2, 3, 5, 6] (fun av lv rv mv wr => ∃ (fs : List FV) (R : List UInt8) (mo : Bool) (g : Nat), av = .string sa ∧ rv = .string (ba R) ∧ mv = .bool mo ∧ R.length < g ∧ R.length ≤ 900 ∧ fs.length ≤ 20 ∧ wr.ownsRow w.heap.size 105 2 lv fs.length (fv fs) ∧ Below w.heap.size w wr ∧ Hid (∀ f ∈ fs, f.1.size + f.2.size ≤ 2000) ∧ Hid (paramsGo g R mo (fs.map fl) = paramsGo G r m []))
  (fun _ _ rv _ _ => strLen rv)
 case atStart => exact ⟨[], r, m, G, rfl, rfl, rfl, hGr, hr9, by simp, World.ownsRow_nil _ _ _ _, hb0, (fun f hf => by cases hf), rfl⟩
 case round =>
  obtain ⟨fs, R, mo, g, rfl, rfl, rfl, hg, hR, h20, hown, hbel, HS, HP⟩ := hrel
  clear hGr hr9 hb0
  have hsz := hbel.size
  obtain ⟨g', rfl⟩ : ∃ g', g = g' + 1 := ⟨g - 1, by omega⟩
  obtain ⟨p1, c1, rfl, hc1, hc2, _, _, _, hfr⟩ := owned_fields hown
  cases mo
  ·have HN : Hid (paramsF s = (sm, fs.map fl, 0)) := by unfold Hid; rw [HF.out, ← HP.out, paramsGo_end]; rfl
   have hFL : FLen fs := fun f hf => by have := HS.out f hf; unfold maxLen; omega
   have HFR : Hid (FRow wr p1 fs) := hfr
   clear HF HP HS hown hfr
   go_wp2_with fail
   refine (C3.out _).mono ?_
   rintro e w3 ⟨rfl, hb3⟩
   clear C3
   go_wp2_with fail
   refine (C4.out _).mono ?_
   rintro e w4 ⟨rfl, hb4⟩
   clear C4
   have hb34 := hb3.trans (hb4.mono hb3.size)
   clear hb3 hb4
   go_wp2
   go_ret3
   show ParamsPost _ _ _ _
   rw [HN.out]
   exact ⟨hbel.trans (hb34.mono hsz), p1, c1, fs, rfl, rfl, hc1, hc2, HFR.out.below hb34, hFL⟩
  ·clear C3 C4
   have CP : Hid (∀ w, Calls Tryz.prog 119 #[.string (ba R)] w fun e w' => ParamPost w (paramRes R) e w') := fun w => param_any R w (by omega)
   cases hk : paramOk R
   ·have HN : Hid (paramsF s = ([], [], 1)) := by unfold Hid; rw [HF.out, ← HP.out, paramsGo_bad hk]; rfl
    have hpr : paramRes R = (([], []), [], false, false) := by rw [paramRes, if_neg (by simp [hk])]
    rw [hpr] at CP
    clear hpr hk HF HP HS hfr hown
    go_wp2_with fail
    refine (CP.out _).mono ?_
    rintro e w3 ⟨rfl, hb3⟩
    clear CP
    obtain ⟨m1, m2, m3, m4, m5, m6⟩ := made_two hb3
    clear hb3
    go_wp2
    go_ret3
    show ParamsPost _ _ _ _
    rw [HN.out]
    exact paramsPost_none ((hbel.trans (m6.mono hsz)).setCell hsz _ |>.setCell hsz _) 1
   ·have hno : nameOk R = true := by rw [paramOk, Bool.and_eq_true] at hk; exact hk.1
    have hrl := restS_length R hno
    have hnl := nameS_length R
    have hpr : paramRes R = (paramFld R, (restS R).2.1, (restS R).2.2.1, true) := by rw [paramRes, if_pos hk]
    rw [hpr] at CP
    obtain ⟨f, hf⟩ : ∃ f : FV, f = (ba (paramFld R).1, ba (paramFld R).2) := ⟨_, rfl⟩
    have hff : fl f = paramFld R := by rw [hf]; rfl
    have hfz : f.1.size + f.2.size ≤ 2000 := by
     rw [hf]
     simp only [ba_size, paramFld, small8_length]
     omega
    obtain ⟨NA, VA⟩ := f
    have hNA := (Prod.mk.inj hf).1
    have hVA := (Prod.mk.inj hf).2
    unfold ParamPost at CP
    simp only at CP
    rw [← hNA, ← hVA] at CP
    have HQ1 : Hid (20 < fs.length + 1 → paramsF s = ([], [], 2)) := fun h => by rw [HF.out, ← HP.out, paramsGo_many hk (by rw [List.length_map]; exact h)]; rfl
    have HQ2 : Hid (¬ 20 < fs.length + 1 → paramsGo g' (restS R).2.1 (restS R).2.2.1 ((fs ++ [(NA, VA)]).map fl) = paramsGo G r m []) := fun h => by rw [← HP.out, paramsGo_next hk (by rw [List.length_map]; exact h), List.map_append, List.map_singleton, hff]
    have HSn : Hid (∀ f ∈ fs ++ [(NA, VA)], f.1.size + f.2.size ≤ 2000) := by
     intro f hf
     rcases List.mem_append.1 hf with h1 | h1
     ·exact HS.out f h1
     ·simp at h1; subst h1; exact hfz
    have hr2 := hrl.2
    clear hpr hk HP HS hfr hNA hVA hf hff hfz hno hnl hrl
    generalize restS R = y at *
    obtain ⟨v, r2, mo, ok⟩ := y
    simp only at *
    go_wp2_with fail
    refine (CP.out _).mono ?_
    rintro e w3 ⟨rfl, hb3⟩
    clear CP
    obtain ⟨m1, m2, m3, m4, m5, m6⟩ := made_two hb3
    clear hb3
    have hb5 : Below wr.heap.size wr ((w3.setCell ⟨wr.heap.size, 0, none⟩ (.string NA)).setCell ⟨wr.heap.size, 1, none⟩ (.string VA)) := (m6.setCell (Nat.le_refl _) _).setCell (Nat.le_refl _) _
    have hbe5 : Below w.heap.size w ((w3.setCell ⟨wr.heap.size, 0, none⟩ (.string NA)).setCell ⟨wr.heap.size, 1, none⟩ (.string VA)) := hbel.trans (hb5.mono hsz)
    have hown5 := ownsRow_below hown hb5
    have hs5 : ((w3.setCell ⟨wr.heap.size, 0, none⟩ (.string NA)).setCell ⟨wr.heap.size, 1, none⟩ (.string VA)).heap.size = w3.heap.size := by simp
    have hs6 := m6.size
    clear hown
    go_wp2_with (at_builtin; refine wpList_append_own _ rfl (.tmp 28) (.tmp 30) 66 rfl w.heap.size 105 i0 (.agg #[.string ⟨#[]⟩, .string ⟨#[]⟩]) 2 32 Tryz.underlying66 hi hz0 hz1 hz2 rfl (by decide) _ _ _ rfl (hown5.alloc _) ⟨w3.heap.size, 0, none⟩ 1 1 [.string NA, .string VA] rfl rfl ?c1 ?c2 ?c3 ?c4 ?c5 ?_)
    case c1 => rw [← hs5]; exact cell_pair _ _ _ _
    case c2 => intro u hu; simp at hu; rcases hu with rfl | rfl <;> rfl
    case c3 => unfold maxLen; omega
    case c4 => omega
    case c5 => simp; omega
    intro v9 w9 hown9 hg9 _
    have RB : Below w.heap.size w w9 := (hbe5.alloc hbe5.size _).grown hg9 (by have := hbe5.size; simp at this ⊢; omega) (fun j hj => (hown5.lt j hj).1)
    have R9 : w9.ownsRow w.heap.size 105 2 v9 (fs ++ [(NA, VA)]).length (fv (fs ++ [(NA, VA)])) := by rw [fv_snoc, List.length_append]; exact hown9
    clear hg9 hown9 hown5 hb5 hbe5 m1 m2 m3 m4
    obtain ⟨p9, c9, rfl, hl1, hl2, _, _, _, _⟩ := owned_fields R9
    have HO : Hid (w9.ownsRow w.heap.size 105 2 (.slice p9 (fs ++ [(NA, VA)]).length c9) (fs ++ [(NA, VA)]).length (fv (fs ++ [(NA, VA)]))) := R9
    have e1 : (fs ++ [(NA, VA)]).length = fs.length + 1 := by simp
    rw [e1] at hl1 HO ⊢
    clear R9 e1
    by_cases h21 : 20 < fs.length + 1
    ·have HN : Hid (paramsF s = ([], [], 2)) := HQ1.out h21
     have h21' : (20 : Int) < (fs.length : Int) + 1 := by omega
     clear HQ1 HQ2
     go_wp2
     go_ret3
     show ParamsPost _ _ _ _
     rw [HN.out]
     exact paramsPost_none RB 2
    ·have HN : Hid (paramsGo g' r2 mo ((fs ++ [(NA, VA)]).map fl) = paramsGo G r m []) := HQ2.out h21
     have h21' : ¬ (20 : Int) < (fs.length : Int) + 1 := by omega
     clear HQ1 HQ2
     go_wp2
     go_roundw
     case rel => exact ⟨fs ++ [(NA, VA)], r2, mo, g', rfl, rfl, rfl, by omega, by omega, by simp; omega, by rw [show (fs ++ [(NA, VA)]).length = fs.length + 1 from by simp]; exact HO.out, RB, HSn, HN⟩
     case measure => simp [strLen, ba_size]; omega
theorem hparams_any (s : List UInt8) (w : World) (hs : s.length ≤ maxLen) :
  Calls Tryz.prog 66 #[.string (ba s)] w fun e w' => ParamsPost w (paramsF s) e w' := by
 cases hv : valueS s
 ·have C1 : Hid (∀ w, Calls Tryz.prog 118 #[.string (ba s)] w fun e w' => e = .returned (.bool false) ∧ Below w.heap.size w w') := fun w => by rw [← hv]; exact hval_any _ w (by rw [ba_size]; exact hs)
  have HN : Hid (paramsF s = ([], [], 1)) := by unfold Hid paramsF; rw [if_neg (by simp [hv])]
  clear hv
  go_enter Tryz.func66, Tryz.ntmps66
  go_wp2_with fail
  refine (C1.out _).mono ?_
  rintro e w1 ⟨rfl, hb1⟩
  clear C1
  go_wp2
  go_ret3
  show ParamsPost _ _ _ _
  rw [HN.out]
  exact paramsPost_none hb1 1
 ·exact hparams_value s w hv
end Go.Proofs.YtlndhdimamnnlaaGreatDoor



namespace Go.Proofs.YtlndhdimamnnlaaGreatDoor
open Go.RowKit
theorem rPost_no {f : Nat} {w w' : World} {g k e : Nat} {p : PT} (h : Ticks w g (k : Int) w') (he : e ≠ 0) (s0 s1 s2 s3 : ByteArray) (hw : Int) (a1 : Option Addr) (n1 c1 : Nat) (a2 : Option Addr) (n2 c2 : Nat) :
  RPost f w g (e, p, k) (.returned (.tuple #[.agg #[.string s0, .string s1, .string s2, .string s3, .int .i64 hw, .slice a1 n1 c1, .slice a2 n2 c2], .int .i64 (e : Int)])) w' :=
 ⟨h, fun h0 => absurd h0 he, fun _ => ⟨s0, s1, s2, s3, hw, a1, n1, c1, a2, n2, c2, rfl⟩⟩
theorem Ticks.set7 {w w' : World} {g : Nat} {m : Int} (h : Ticks w g m w') (r : Nat) (hr : w.heap.size ≤ r) (i : Nat) (v : Value) : Ticks w g m (w'.setCell ⟨r, i, none⟩ v) := Below.setCell h hr v
set_option maxHeartbeats 4000000 in
set_option maxRecDepth 100000 in
theorem mread_many (p : Option Addr) (n c : Nat) (d g k : Nat) (w : World) (hC : CountAt w g (k : Int)) (hk : k ≤ 12) (hbad : 12 < k + 1 ∨ 3 < d) (f : Nat) (pt : PT) :
  Calls Tryz.prog 29 #[.slice p n c, .int .i64 (d : Int), .pointer (some ⟨g, 0, none⟩)] w fun e w' => RPost f w g (2, pt, k + 1) e w' := by
 have hc0 := hC.cell
 have hf0 := hC.frozen
 have hgw := hC.lt
 have HC1 : Hid (CountAt (w.setCell ⟨g, 0, none⟩ (.int .i64 ((k : Int) + 1))) g ((k : Int) + 1)) := hC.set _
 have hc1 := HC1.out.cell
 have hT : Ticks w g ((k + 1 : Nat) : Int) ((w.setCell ⟨g, 0, none⟩ (.int .i64 ((k : Int) + 1))).alloc (.cells #[.string ⟨#[]⟩, .string ⟨#[]⟩, .string ⟨#[]⟩, .string ⟨#[]⟩, .int .i64 0, .slice none 0 0, .slice none 0 0] 25)) := by
  have e : ((k + 1 : Nat) : Int) = (k : Int) + 1 := by omega
  rw [e]
  exact (Below.refl _ _).alloc (by rw [set_size]; exact Nat.le_refl _) _
 have HT : Hid (Ticks w g ((k + 1 : Nat) : Int) ((w.setCell ⟨g, 0, none⟩ (.int .i64 ((k : Int) + 1))).alloc (.cells #[.string ⟨#[]⟩, .string ⟨#[]⟩, .string ⟨#[]⟩, .string ⟨#[]⟩, .int .i64 0, .slice none 0 0, .slice none 0 0] 25))) := hT
 clear hT hC
 by_cases h12 : 12 < k + 1
 ·have h12' : (12 : Int) < (k : Int) + 1 := by omega
  go_enter Tryz.func29, Tryz.ntmps29
  go_wp2_with fail
  refine bodyPost_ret (v := .tuple #[.agg #[.string ⟨#[]⟩, .string ⟨#[]⟩, .string ⟨#[]⟩, .string ⟨#[]⟩, .int .i64 0, .slice none 0 0, .slice none 0 0], .int .i64 2]) ?_ rfl (rPost_no HT.out (by decide) _ _ _ _ _ _ _ _ _ _ _)
  rw [results_cell_tmp rfl]
  go_simp
 ·have h12' : ¬ (12 : Int) < (k : Int) + 1 := by omega
  have h3 : (3 : Int) < (d : Int) := by omega
  go_enter Tryz.func29, Tryz.ntmps29
  go_wp2_with fail
  refine bodyPost_ret (v := .tuple #[.agg #[.string ⟨#[]⟩, .string ⟨#[]⟩, .string ⟨#[]⟩, .string ⟨#[]⟩, .int .i64 0, .slice none 0 0, .slice none 0 0], .int .i64 2]) ?_ rfl (rPost_no HT.out (by decide) _ _ _ _ _ _ _ _ _ _ _)
  rw [results_cell_tmp rfl]
  go_simp
def Env (w0 : World) : Prop := ∀ w', Below w0.heap.size w0 w' → HowTab w' ∧ FoldTabs w' ∧ Lib.Utf8Tabs 6 7 w'
theorem getE_getN (nm : ByteArray) : ∀ l : List FV, (getE (fun x => eqF x.data.toList nm.data.toList) l).data.toList = getN nm.data.toList (l.map fl)
 | [] => rfl
 | f :: l => by
  have ih := getE_getN nm l
  unfold getE getN at ih ⊢
  rw [List.map_cons, List.find?_cons, List.find?_cons]
  show (match (match eqF f.1.data.toList nm.data.toList with | true => some f | false => l.find? _) with | none => _ | some f => f.2).data.toList = match (match eqF f.1.data.toList nm.data.toList with | true => some (fl f) | false => (l.map fl).find? _) with | none => _ | some f => f.2
  cases eqF f.1.data.toList nm.data.toList
  ·exact ih
  ·rfl
theorem get_any (w0 : World) (hE : Env w0) (nm : ByteArray) (hnm : nm.size ≤ 1000) (p : Option Addr) (n c : Nat) (l : List FV) (en : n = l.length) (w : World) (hb : Below w0.heap.size w0 w) (hn : n ≤ maxLen) (hl : FLen l) (hr : FRow w p l) :
  Calls Tryz.prog 65 #[.slice p n c, .string nm] w fun e w' => e = .returned (.string (ba (getN nm.data.toList (l.map fl)))) ∧ Below w.heap.size w w' := by
 refine (hget_any (fun x => eqF x.data.toList nm.data.toList) nm p n c l en w hn (fun f hf w' hb' => ?_) hr).mono ?_
 ·have hw' : Below w0.heap.size w0 w' := hb.trans (hb'.mono hb.size)
  exact efold_any f.1 nm w' (hl f hf).1 (by unfold maxLen; omega) (hE w' hw').2.1 (hE w' hw').2.2
 ·rintro e w' ⟨rfl, h⟩
  refine ⟨?_, h⟩
  congr 2
  rw [← getE_getN, ba_self]
end Go.Proofs.YtlndhdimamnnlaaGreatDoor

