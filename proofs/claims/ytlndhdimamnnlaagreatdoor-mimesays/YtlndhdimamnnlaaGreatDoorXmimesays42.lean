
import Derived.Test.YtlndhdimamnnlaaGreatDoorXmimesays30
import Derived.Test.YtlndhdimamnnlaaGreatDoorXmimesays33
import Derived.Test.YtlndhdimamnnlaaGreatDoorXmimesays34
import Derived.Test.YtlndhdimamnnlaaGreatDoorXmimesays35
import Derived.Test.YtlndhdimamnnlaaGreatDoorXmimesays37
import Derived.Test.YtlndhdimamnnlaaGreatDoorXmimesays41
namespace Go.Proofs.YtlndhdimamnnlaaGreatDoor
open Go.RowKit
abbrev FnV (g g3 : Nat) : Value := .func (Fn.func 42) #[] #[.pointer (some ⟨g, 0, none⟩), .pointer (some ⟨g3, 0, none⟩)]
def FnAt (w : World) (g g3 : Nat) : Prop := w.heap[g3]? = some (.cells #[FnV g g3] 65)
def In8 (w : World) (g : Nat) (m : Int) (W : World) : Prop := Ticks w g m W ∧ W.heap[w.heap.size]? = some (.cells Z7 25) ∧ W.heap[w.heap.size + 1]? = some (.cells Z7 25)
theorem In8.below {w W W' : World} {g : Nat} {m : Int} (h : In8 w g m W) (hb : Below W.heap.size W W') : In8 w g m W' := ⟨h.1.then hb, m_kept h.2.1 hb, m_kept h.2.2 hb⟩
theorem in8_new (w : World) (g : Nat) (m : Int) : In8 w g m (((w.setCell ⟨g, 0, none⟩ (.int .i64 m)).alloc (.cells Z7 25)).alloc (.cells Z7 25)) := by
 have h7 := in7_new w g m
 have hb : Below ((w.setCell ⟨g, 0, none⟩ (.int .i64 m)).alloc (.cells Z7 25)).heap.size ((w.setCell ⟨g, 0, none⟩ (.int .i64 m)).alloc (.cells Z7 25)) (((w.setCell ⟨g, 0, none⟩ (.int .i64 m)).alloc (.cells Z7 25)).alloc (.cells Z7 25)) := (Below.refl _ _).alloc (Nat.le_refl _) _
 refine ⟨h7.1.then hb, m_kept h7.2 hb, ?_⟩
 have := m_new ((w.setCell ⟨g, 0, none⟩ (.int .i64 m)).alloc (.cells Z7 25)) (.cells Z7 25)
 have e : ((w.setCell ⟨g, 0, none⟩ (.int .i64 m)).alloc (.cells Z7 25)).heap.size = w.heap.size + 1 := by simp [World.setCell]
 rw [e] at this
 exact this
def ReadR (w0 : World) (f : Nat) : Prop := ∀ (p : Option Addr) (n c : Nat) (L : List UInt8) (d g g3 k : Nat) (w : World), n = L.length → f + d = 4 → Below w0.heap.size w0 w → w0.heap.size ≤ g → CountAt w g (k : Int) → FnAt w g g3 → g ≠ g3 → n ≤ 40000 → n ≤ c → c ≤ maxLen → (p = none → n = 0 ∧ c = 0) → BRow w p L → k ≤ 12 →
 Calls Tryz.prog 42 #[.slice p n c, .int .i64 (d : Int), .pointer (some ⟨g, 0, none⟩), .pointer (some ⟨g3, 0, none⟩)] w fun e w' => RPost f w g (readP f L k) e w'
theorem rgot_any (w0 : World) (hE : Env w0) (nm : ByteArray) (hnm : nm.size ≤ 1000) (p : Option Addr) (n c : Nat) (l : List FV) (en : n = l.length) (w : World) (hb : Below w0.heap.size w0 w) (hn : n ≤ maxLen) (hl : FLen l) (hr : FRow w p l) :
  Calls Tryz.prog 44 #[.slice p n c, .string nm] w fun e w' => e = .returned (.string (ba (getN nm.data.toList (l.map fl)))) ∧ Below w.heap.size w w' := by
 refine (got_any (fun x => eqF x.data.toList nm.data.toList) nm p n c l en w hn (fun f hf w' hb' => ?_) hr).mono ?_
 ·have hw' : Below w0.heap.size w0 w' := hb.trans (hb'.mono hb.size)
  exact efold_any f.1 nm w' (hl f hf).1 (by unfold maxLen; omega) (hE w' hw').2.1 (hE w' hw').2.2
 ·rintro e w' ⟨rfl, h⟩
  refine ⟨?_, h⟩
  congr 2
  rw [← getE_getN, ba_self]
set_option maxHeartbeats 4000000 in
set_option maxRecDepth 100000 in
theorem rb_many (p : Option Addr) (n c : Nat) (d g g3 k : Nat) (w : World) (hC : CountAt w g (k : Int)) (hk : k ≤ 12) (hbad : 12 < k + 1 ∨ 3 < d) (f : Nat) (pt : PT) :
  Calls Tryz.prog 42 #[.slice p n c, .int .i64 (d : Int), .pointer (some ⟨g, 0, none⟩), .pointer (some ⟨g3, 0, none⟩)] w fun e w' => RPost f w g (2, pt, k + 1) e w' := by
 have hc0 := hC.cell
 have hf0 := hC.frozen
 have hgw := hC.lt
 have HC1 : Hid (CountAt (w.setCell ⟨g, 0, none⟩ (.int .i64 ((k : Int) + 1))) g ((k : Int) + 1)) := hC.set _
 have hc1 := HC1.out.cell
 have P1 := in8_new w g ((k : Int) + 1)
 have ek : ((k + 1 : Nat) : Int) = (k : Int) + 1 := by omega
 clear hC
 by_cases h12 : 12 < k + 1
 all_goals
  first | (have h12' : (12 : Int) < (k : Int) + 1 := by omega) | skip
  first | (have h12' : ¬ (12 : Int) < (k : Int) + 1 := by omega) | skip
  first | (have h3 : (3 : Int) < (d : Int) := by omega) | skip
  go_enter Tryz.func42, Tryz.ntmps42
  go_upto_if 33 with fail
  obtain ⟨W1, hW1⟩ : ∃ W, W = ((w.setCell ⟨g, 0, none⟩ (.int .i64 ((k : Int) + 1))).alloc (.cells Z7 25)).alloc (.cells Z7 25) := ⟨_, rfl⟩
  rw [← hW1] at P1
  rw [← hW1]
  clear hW1 HC1 hc1 hc0 hf0
  obtain ⟨r0, r1, r2, r3, r4, r5, r6, rf⟩ := m_cells P1.2.1
  obtain ⟨y0, y1, y2, y3, y4, y5, y6, yf⟩ := m_cells P1.2.2
  go_wp2
  refine bodyPost_ret (v := .tuple #[.agg Z7, .int .i64 2]) ?_ rfl (rPost_no (by rw [ek]; exact fill7_ticks P1.1 (Nat.le_refl _) _ _ _ _ _ _ _) (by decide) _ _ _ _ _ _ _ _ _ _ _)
  rw [results_cell_tmp rfl]
  go_simp
theorem rb_append {w : World} {ops : Array Oper} {rest : List Oper} {o : Oper} {a : Act} {Q : Exit → Act → World → Prop} (hgd : o.guard = none) (s x : Operand)
  (ho : o.op = .call { callee := .builtin .append, args := #[s, x], argTypes := #[22, 22] })
  (base : Nat) (v : Value) (n : Nat) (xs : List Value) (hs : a.eval s = v) (hown : w.ownsRow base 5 1 v n xs)
  (p : Option Addr) (l : List UInt8) (m c : Nat) (em : m = l.length) (hx : a.eval x = .slice p m c) (hr : BRow w p l) (hp : p = none → m = 0 ∧ c = 0)
  (hb : n + m ≤ 140737488355328) (hbase : base ≤ w.heap.size)
  (h : ∀ v' w', w'.ownsRow base 5 1 v' (n + m) (xs ++ bv l) → w.grownBy w' v.ownBlock → wpList Tryz.prog ops Q rest (a.put o.dst v') w') : wpList Tryz.prog ops Q (o :: rest) a w := by
 obtain ⟨i0, hi, hz0, hz1, hz2⟩ := info_parts info_u8
 subst em
 cases p with
 | none =>
  obtain ⟨h0, rfl⟩ := hp rfl
  have hl : l = [] := List.length_eq_zero_iff.1 h0
  subst hl
  refine wpList_append_own_none hgd s x 22 ho base 5 i0 1 Tryz.underlying22 hi v n xs hs hown hx ?_
  refine h v w (by simpa [bv] using hown) (World.grownBy.refl _ _)
 | some ad =>
  refine wpList_append_own _ hgd s x 22 ho base 5 i0 (.int .u8 0) 1 1 Tryz.underlying22 hi hz0 hz1 hz2 rfl (by decide) v n xs hs hown ad l.length c (bv l) hx (by simp [bv]) ?_ ?_ (by unfold maxLen; omega) (by omega) hbase (fun v' w' h1 h2 _ => h v' w' h1 h2)
  ·intro j u hj
   obtain ⟨b, o', e, hc⟩ := hr (fun e => by rw [e] at hj; simp [bv] at hj)
   obtain rfl := Option.some.inj e
   rw [Addr.add_lit]
   simp only [bv, List.getElem?_map, Option.map_eq_some_iff] at hj
   obtain ⟨y, hy, rfl⟩ := hj
   obtain ⟨hjl, hy2⟩ := List.getElem?_eq_some_iff.1 hy
   rw [hc j hjl, List.getD_eq_getElem?_getD, hy]
   rfl
  ·intro u hu
   simp only [bv, List.mem_map] at hu
   obtain ⟨y, _, rfl⟩ := hu
   rfl
theorem bareI_short (l : List UInt8) (h : l.length < 2) : bareI l = l := by
 unfold bareI
 match l, h with
 | [], _ => rfl
 | [a], _ =>
  rw [if_neg]
  rintro ⟨h1, h2⟩
  simp at h1 h2
  rw [h1] at h2
  cases h2
 | _ :: _ :: _, h => exact absurd h (by simp)
theorem bareI_ends (l : List UInt8) (a b : UInt8) (ha : l.head? = some a) (hb : l.getLast? = some b) : bareI l = if a.toNat = 60 ∧ b.toNat = 62 then (l.drop 1).dropLast else l := by
 unfold bareI
 rw [ha, hb]
 have e1 : (some a = some (60 : UInt8)) ↔ a.toNat = 60 := by
  rw [Option.some_inj]
  exact ⟨fun h => by rw [h]; rfl, fun h => UInt8.toNat_inj.1 h⟩
 have e2 : (some b = some (62 : UInt8)) ↔ b.toNat = 62 := by
  rw [Option.some_inj]
  exact ⟨fun h => by rw [h]; rfl, fun h => UInt8.toNat_inj.1 h⟩
 simp only [e1, e2]
def manyR (M : List UInt8) (FS : List Fld) (R : Nat × List PT × Nat) : Nat × PT × Nat := if R.1 ≠ 0 then (R.1, pt0, R.2.2) else (0, { partOf M FS with kids := R.2.1 }, R.2.2)
def Keep (w : World) (g q : Nat) (w' : World) : Prop := w.heap.size ≤ w'.heap.size ∧ ∀ b, b < w.heap.size → b ≠ g → b ≠ q → w'.heap[b]? = w.heap[b]?
theorem owns_move {w w' : World} {B e s n : Nat} {v : Value} {xs : List Value} (h : w.ownsRow B e s v n xs) (hm : ∀ g, B ≤ g → w'.heap[g]? = w.heap[g]?) : w'.ownsRow B e s v n xs := by
 refine ⟨h.1, ?_⟩
 rcases h.2 with h0 | ⟨g, cap, cur, e1, e2, e3, e4⟩
 ·exact .inl h0
 ·exact .inr ⟨g, cap, cur, e1, e2, (hm g e2).trans e3, e4⟩
theorem Keep.owns {w w' : World} {g q : Nat} (hK : Keep w g q w') {B e s n : Nat} {v : Value} {xs : List Value} (h : w.ownsRow B e s v n xs) (hg : g < B) (hq : q < B) : w'.ownsRow B e s v n xs := by
 refine ⟨h.1, ?_⟩
 rcases h.2 with h0 | ⟨g2, cap, cur, e1, e2, e3, e4⟩
 ·exact .inl h0
 ·exact .inr ⟨g2, cap, cur, e1, e2, (hK.2 g2 (Array.getElem?_eq_some_iff.1 e3).1 (by omega) (by omega)).trans e3, e4⟩
theorem Keep.piece {w w' : World} {g q : Nat} (hK : Keep w g q w') {B : Nat} {y : SY} (h : PieceAt w B y) (hg : g < B) (hq : q < B) : PieceAt w' B y := by
 obtain ⟨g2, cs, mk, h1, h2, h3, h4⟩ := h
 exact ⟨g2, cs, mk, h1, h2, (hK.2 g2 (Array.getElem?_eq_some_iff.1 h3).1 (by omega) (by omega)).trans h3, h4⟩
set_option maxHeartbeats 16000000 in
set_option maxRecDepth 100000 in
theorem rb_step (w0 : World) (hE : MEnv w0) (f : Nat) (IH : ReadR w0 f) : ReadR w0 (f + 1) := by
 intro p n c L d g g3 k w en hd hb0 hg hC hFn hgg hn hc hcm hp hr hk
 subst en
 by_cases h12 : 12 < k + 1
 ·rw [readP, if_pos h12]
  exact rb_many p _ c d g g3 k w hC hk (.inl h12) (f + 1) pt0
 have hc0 := hC.cell
 have hf0 := hC.frozen
 have hgw := hC.lt
 have h12' : ¬ (12 : Int) < (k : Int) + 1 := by omega
 have h3 : ¬ (3 : Int) < (d : Int) := by omega
 have P1 := in8_new w g ((k : Int) + 1)
 have HC1 : Hid (CountAt (w.setCell ⟨g, 0, none⟩ (.int .i64 ((k : Int) + 1))) g ((k : Int) + 1)) := hC.set _
 have hc1 := HC1.out.cell
 have EK : Hid (((k + 1 : Nat) : Int) = (k : Int) + 1) := (by omega : ((k + 1 : Nat) : Int) = (k : Int) + 1)
 obtain ⟨RES, hRES⟩ : ∃ R, readP (f + 1) L k = R := ⟨_, rfl⟩
 have HRES : Hid (readP (f + 1) L k = RES) := hRES
 rw [hRES]
 clear hRES
 have HE : Hid (MEnv w0) := hE
 have HIH : Hid (ReadR w0 f) := IH
 have HFn : Hid (FnAt w g g3) := hFn
 have hg3 : g3 < w.heap.size := (Array.getElem?_eq_some_iff.1 hFn).1
 clear hE IH hFn
 go_enter Tryz.func42, Tryz.ntmps42
 go_wp2_with fail
 obtain ⟨W1, hW1⟩ : ∃ W, W = ((w.setCell ⟨g, 0, none⟩ (.int .i64 ((k : Int) + 1))).alloc (.cells Z7 25)).alloc (.cells Z7 25) := ⟨_, rfl⟩
 rw [← hW1] at P1
 rw [← hW1]
 clear hW1 HC1 hc1 hc0 hf0
 have HRW : Hid (∀ W, In8 w g ((k : Int) + 1) W → BRow W p L) := fun W h => h.1.bytes hC hr
 have HBW : Hid (∀ W, In8 w g ((k : Int) + 1) W → Below w0.heap.size w0 W) := fun W h => h.1.base hb0 hg
 have HCW : Hid (∀ W, In8 w g ((k : Int) + 1) W → CountAt W g ((k + 1 : Nat) : Int)) := fun W h => by rw [EK.out]; exact h.1.count hC
 have HHC : Hid (CountAt w g (k : Int)) := hC
 have HB0 : Hid (Below w0.heap.size w0 w) := hb0
 clear hr hC hb0
 refine (fread_any p _ c L rfl W1 hn hc hcm hp (HRW.out _ P1)).mono ?_
 rintro e w2 ⟨hb2, pf, cf, fs, rfl, hfs, hfc, hfm, hfr, hfl⟩
 have P2 := P1.below hb2
 clear P1 hb2
 obtain ⟨FS, bd, e1, hpa⟩ : ∃ a b c, parseF L = (a, b, c) := ⟨_, _, _, rfl⟩
 have HPA : Hid (parseF L = (FS, bd, e1)) := hpa
 have HFS : Hid (fs.map fl = FS) := by rw [hpa] at hfs; exact hfs
 have HFR : Hid (FRow w2 pf fs) := hfr
 have HFL : Hid (FLen fs) := hfl
 rw [hpa]
 clear hpa hfs hfr hfl
 by_cases he1 : e1 = 0
 ·subst he1
  obtain ⟨hck, hbd, _⟩ := parseF_more L FS bd HPA.out
  have HCK : Hid (checkF FS = 0) := hck
  clear hck
  have CG : ∀ (nm : List UInt8) (lw : ByteArray) W, lw.data.toList = nm.map Lib.lowerB → lw.size ≤ 1000 → (∀ c ∈ nm, c.toNat < 128) → In8 w g ((k : Int) + 1) W → FRow W pf fs → Calls Tryz.prog 44 #[.slice pf fs.length cf, .string lw] W fun e w' => e = .returned (.string (ba (getN nm FS))) ∧ Below W.heap.size W w' := fun nm lw W hlw hsz hnm h hf => by
   have := rgot_any w0 HE.out.1 lw hsz pf fs.length cf fs rfl W (HBW.out W h) (by omega) HFL.out hf
   rw [HFS.out, hlw, getN_low nm hnm FS (fields_tok HCK.out)] at this
   exact this
  have HGT : Hid (∀ W, In8 w g ((k : Int) + 1) W → FRow W pf fs → Calls Tryz.prog 44 #[.slice pf fs.length cf, .string ⟨#[99, 111, 110, 116, 101, 110, 116, 45, 116, 121, 112, 101]⟩] W fun e w' => e = .returned (.string (ba (getN nmType FS))) ∧ Below W.heap.size W w') := fun W h hf => CG nmType ⟨#[99, 111, 110, 116, 101, 110, 116, 45, 116, 121, 112, 101]⟩ W rfl (by decide) (by decide) h hf
  have HGI : Hid (∀ W, In8 w g ((k : Int) + 1) W → FRow W pf fs → Calls Tryz.prog 44 #[.slice pf fs.length cf, .string ⟨#[99, 111, 110, 116, 101, 110, 116, 45, 105, 100]⟩] W fun e w' => e = .returned (.string (ba (getN nmID FS))) ∧ Below W.heap.size W w') := fun W h hf => CG nmID ⟨#[99, 111, 110, 116, 101, 110, 116, 45, 105, 100]⟩ W rfl (by decide) (by decide) h hf
  have HGL : Hid (∀ W, In8 w g ((k : Int) + 1) W → FRow W pf fs → Calls Tryz.prog 44 #[.slice pf fs.length cf, .string ⟨#[99, 111, 110, 116, 101, 110, 116, 45, 108, 111, 99, 97, 116, 105, 111, 110]⟩] W fun e w' => e = .returned (.string (ba (getN nmLoc FS))) ∧ Below W.heap.size W w') := fun W h hf => CG nmLoc ⟨#[99, 111, 110, 116, 101, 110, 116, 45, 108, 111, 99, 97, 116, 105, 111, 110]⟩ W rfl (by decide) (by decide) h hf
  have HGW : Hid (∀ W, In8 w g ((k : Int) + 1) W → FRow W pf fs → Calls Tryz.prog 44 #[.slice pf fs.length cf, .string ⟨#[99, 111, 110, 116, 101, 110, 116, 45, 116, 114, 97, 110, 115, 102, 101, 114, 45, 101, 110, 99, 111, 100, 105, 110, 103]⟩] W fun e w' => e = .returned (.string (ba (getN nmHow FS))) ∧ Below W.heap.size W w') := fun W h hf => CG nmHow ⟨#[99, 111, 110, 116, 101, 110, 116, 45, 116, 114, 97, 110, 115, 102, 101, 114, 45, 101, 110, 99, 111, 100, 105, 110, 103]⟩ W rfl (by decide) (by decide) h hf
  clear CG HFS HFL
  obtain ⟨KD, hKD⟩ : ∃ K, kindOf FS = K := ⟨_, rfl⟩
  have HKD : Hid (kindOf FS = KD) := hKD
  have HKL : Hid (KD.length ≤ 900) := by rw [← hKD]; exact kindOf_len HCK.out
  clear hKD
  go_wp2_with fail
  refine (HGT.out _ P2 HFR.out).mono ?_
  rintro e w3 ⟨rfl, hb3⟩
  have P3 := P2.below hb3
  have HFR3 : Hid (FRow w3 pf fs) := HFR.out.below hb3
  clear P2 hb3 HFR HGT
  go_upto_if 48 with fail
  go_cut [12] (fun s wx => s = .string (ba KD) ∧ wx = w3)
  case first =>
   by_cases hT : getN nmType FS = []
   ·have he : (ba (getN nmType FS)).toList.isEmpty = true := by rw [ba_isEmpty, hT]; rfl
    rw [he]
    go_wp2_with fail
    go_meet
    refine ⟨?_, rfl⟩
    rw [← HKD.out]
    unfold kindOf
    rw [if_pos hT]
    rfl
   ·have he : (ba (getN nmType FS)).toList.isEmpty = false := by
     rw [ba_isEmpty]
     cases hg : getN nmType FS with
     | nil => exact absurd hg hT
     | cons a l => rfl
    rw [he]
    go_wp2_with fail
    go_meet
    refine ⟨?_, rfl⟩
    rw [← HKD.out]
    unfold kindOf
    rw [if_neg hT]
  case rest =>
  obtain ⟨rfl, rfl⟩ := hcut
  obtain ⟨w3, hw3⟩ : ∃ x, x = wc := ⟨_, rfl⟩
  subst hw3
  have CPO := pof_any (ba KD) w3 (by rw [ba_size]; have := HKL.out; unfold maxLen; omega) (fun w' hb => (HE.out.1 w' ((HBW.out _ P3).trans (hb.mono (HBW.out _ P3).size))).2.2)
  rw [ba_data] at CPO
  have CPO' : Hid (Calls Tryz.prog 45 #[.string (ba KD)] w3 fun e w' => ParamsPost w3 (paramsF KD) e w') := CPO
  clear CPO
  go_wp2_with fail
  refine CPO'.out.mono ?_
  rintro e w4 ⟨hb4, pp, cp, ps, rfl, hps, hpc, hpm, hpr, hpl⟩
  have P4 := P3.below hb4
  have HFR4 : Hid (FRow w4 pf fs) := HFR3.out.below hb4
  have HPR : Hid (FRow w4 pp ps) := hpr
  have HPL : Hid (FLen ps) := hpl
  clear P3 hb4 HFR3 hpr hpl CPO'
  obtain ⟨M, PS, e2, hpp⟩ : ∃ a b c, paramsF KD = (a, b, c) := ⟨_, _, _, rfl⟩
  have HPP : Hid (paramsF KD = (M, PS, e2)) := hpp
  have HPS : Hid (ps.map fl = PS) := by rw [hpp] at hps; exact hps
  have HML : Hid (M.length ≤ 900) := by
   have := paramsF_main KD
   rw [hpp] at this
   exact Nat.le_trans this HKL.out
  rw [hpp]
  clear hpp hps
  by_cases he2 : e2 = 0
  ·subst he2
   have CQ : ∀ (nm : ByteArray) W, nm.size ≤ 1000 → In8 w g ((k : Int) + 1) W → FRow W pp ps → Calls Tryz.prog 44 #[.slice pp ps.length cp, .string nm] W fun e w' => e = .returned (.string (ba (getN nm.data.toList PS))) ∧ Below W.heap.size W w' := fun nm W hnm h hf => by
    have := rgot_any w0 HE.out.1 nm hnm pp ps.length cp ps rfl W (HBW.out W h) (by omega) HPL.out hf
    rw [HPS.out] at this
    exact this
   have HGB : Hid (∀ W, In8 w g ((k : Int) + 1) W → FRow W pp ps → Calls Tryz.prog 44 #[.slice pp ps.length cp, .string ⟨#[98, 111, 117, 110, 100, 97, 114, 121]⟩] W fun e w' => e = .returned (.string (ba (getN nmBound PS))) ∧ Below W.heap.size W w') := fun W h hf => CQ ⟨#[98, 111, 117, 110, 100, 97, 114, 121]⟩ W (by decide) h hf
   have HGC : Hid (∀ W, In8 w g ((k : Int) + 1) W → FRow W pp ps → Calls Tryz.prog 44 #[.slice pp ps.length cp, .string ⟨#[99, 104, 97, 114, 115, 101, 116]⟩] W fun e w' => e = .returned (.string (ba (getN nmChar PS))) ∧ Below W.heap.size W w') := fun W h hf => CQ ⟨#[99, 104, 97, 114, 115, 101, 116]⟩ W (by decide) h hf
   clear CQ
   go_wp2_with fail
   refine (HGI.out _ P4 HFR4.out).mono ?_
   rintro e w5 ⟨rfl, hb5⟩
   have P5 := P4.below hb5
   have HFR5 : Hid (FRow w5 pf fs) := HFR4.out.below hb5
   have HPR5 : Hid (FRow w5 pp ps) := HPR.out.below hb5
   clear P4 hb5 HFR4 HPR HGI
   obtain ⟨IB, hIB⟩ : ∃ x, ba (getN nmID FS) = x := ⟨_, rfl⟩
   have hIBd : IB.data.toList = getN nmID FS := by rw [← hIB, ba_data]
   have hIBs : IB.size ≤ 900 := by rw [Lib.size_eq, hIBd]; exact getN_len HCK.out nmID
   rw [hIB]
   clear hIB
   go_wp2_with fail
   refine (HGL.out _ P5 HFR5.out).mono ?_
   rintro e w7 ⟨rfl, hb7⟩
   have P7 := P5.below hb7
   have HFR7 : Hid (FRow w7 pf fs) := HFR5.out.below hb7
   have HPR7 : Hid (FRow w7 pp ps) := HPR5.out.below hb7
   clear P5 hb7 HFR5 HPR5 HGL
   obtain ⟨LO, hLO⟩ : ∃ x, ba (getN nmLoc FS) = x := ⟨_, rfl⟩
   have HLO : Hid (ba (getN nmLoc FS) = LO) := hLO
   rw [hLO]
   clear hLO
   obtain ⟨MB, hMB⟩ : ∃ x, ba M = x := ⟨_, rfl⟩
   have HMB : Hid (ba M = MB) := hMB
   rw [hMB]
   clear hMB
   obtain ⟨ID, hIDd⟩ : ∃ x : ByteArray, x.data.toList = bareI IB.data.toList := ⟨ba (bareI IB.data.toList), ba_data _⟩
   have HID : Hid (ID.data.toList = bareI (getN nmID FS)) := by unfold Hid; rw [hIDd, hIBd]
   have hrq : w.heap.size + 1 < w7.heap.size := (Array.getElem?_eq_some_iff.1 P7.2.2).1
   obtain ⟨W8, hW8⟩ : ∃ W, W = w7.alloc (.cells #[.string MB, .string ⟨#[]⟩, .string IB, .string LO, .int .i64 0, .slice none 0 0, .slice none 0 0] 25) := ⟨_, rfl⟩
   have B8 : Below w7.heap.size w7 W8 := by rw [hW8]; exact (Below.refl _ _).alloc (Nat.le_refl _) _
   have Q8 : W8.heap[w7.heap.size]? = some (.cells #[.string MB, .string ⟨#[]⟩, .string IB, .string LO, .int .i64 0, .slice none 0 0, .slice none 0 0] 25) := by rw [hW8]; exact m_new _ _
   have P8 := P7.below B8
   have hgq : g < w7.heap.size := by omega
   obtain ⟨q, hq⟩ : ∃ q, w7.heap.size = q := ⟨_, rfl⟩
   have HF7 : Hid (∀ W, Below q w7 W → FRow W pf fs ∧ FRow W pp ps) := fun W hb => ⟨HFR7.out.below (by rw [hq]; exact hb), HPR7.out.below (by rw [hq]; exact hb)⟩
   rw [hq] at Q8 hrq hgq B8
   have hq8 : q < W8.heap.size := (Array.getElem?_eq_some_iff.1 Q8).1
   obtain ⟨c0, c1, c2, c3, c4, c5, c6, cfz⟩ := m_cells Q8
   obtain ⟨bb, hbb⟩ : ∃ bb : Bool, bb = decide (bareI IB.data.toList ≠ IB.data.toList) := ⟨_, rfl⟩
   have hbT : bb = true → ∃ n1, IB.size = n1 + 1 ∧ 1 ≤ n1 ∧ IB.extract 1 n1 = ID := by
    intro hb
    rw [hb] at hbb
    have hne := of_decide_eq_true hbb.symm
    obtain ⟨n1, hn1⟩ : ∃ n1, IB.size = n1 + 1 := ⟨IB.size - 1, by
     rcases Nat.lt_or_ge IB.size 2 with h | h
     ·exact absurd (bareI_short _ (by rw [← Lib.size_eq]; exact h)) hne
     ·omega⟩
    have hn11 : 1 ≤ n1 := by
     rcases Nat.lt_or_ge IB.size 2 with h | h
     ·exact absurd (bareI_short _ (by rw [← Lib.size_eq]; exact h)) hne
     ·omega
    refine ⟨n1, hn1, hn11, ?_⟩
    apply ByteArray.ext
    apply Array.toList_inj.1
    rw [hIDd]
    have hbx : (IB.extract 1 n1).data.toList = (IB.data.toList.drop 1).dropLast := by
     rw [Lib.extract_data, List.dropLast_eq_take, List.length_drop, ← Lib.size_eq, hn1]
     rfl
    rw [hbx]
    unfold bareI at hne ⊢
    split at hne
    ·rename_i h
     rw [if_pos h]
    ·exact absurd rfl hne
   have hbF : bb = false → ID = IB := by
    intro hb
    rw [hb] at hbb
    have he := of_decide_eq_false hbb.symm
    apply ByteArray.ext
    apply Array.toList_inj.1
    rw [hIDd]
    exact Classical.byContradiction he
   have HBT : Hid (bb = true → ∃ n1, IB.size = n1 + 1 ∧ 1 ≤ n1 ∧ IB.extract 1 n1 = ID) := hbT
   have HBF : Hid (bb = false → ID = IB) := hbF
   have HBB : Hid (bb = decide (bareI IB.data.toList ≠ IB.data.toList)) := hbb
   clear hbT hbF hbb
   go_upto_region 16 with fail
   rw [← hW8]
   clear hW8 hq P7 HFR7 HPR7
   go_cut [16, 83] (fun nv bv wx => nv = .int .i64 (IB.size : Int) ∧ bv = .bool bb ∧ wx = W8)
   case first =>
    by_cases hsz : IB.size < 2
    ·have hsz' : ¬ (2 : Int) ≤ (IB.size : Int) := by omega
     have hb : bb = false := by rw [HBB.out, bareI_short _ (by rw [← Lib.size_eq]; exact hsz)]; simp
     subst hb
     go_wp2_with fail
     go_meet
     exact ⟨rfl, rfl, rfl⟩
    ·obtain ⟨n1, hn1⟩ : ∃ n1, IB.size = n1 + 1 := ⟨IB.size - 1, by omega⟩
     have hn11 : 1 ≤ n1 := by omega
     obtain ⟨a0, t0, h01, -, -, h04⟩ := ba_head IB n1 hn1
     obtain ⟨a1, t1, h11, -, -, h14⟩ := ba_tail IB n1 hn1
     have hb01 := bareI_ends IB.data.toList a0 a1 (by rw [h04]; rfl) (by rw [h14]; simp)
     have hlen : ((IB.data.toList.drop 1).dropLast).length ≠ IB.data.toList.length := by
      rw [List.length_dropLast, List.length_drop, ← Lib.size_eq]
      omega
     clear h04 h14 t0 t1
     by_cases h0 : a0.toNat = 60
     ·have z0 : ((a0.toNat : Int) == 60) = true := by rw [h0]; rfl
      by_cases h1 : a1.toNat = 62
      ·have z1 : ((a1.toNat : Int) == 62) = true := by rw [h1]; rfl
       have hb : bb = true := by
        rw [HBB.out, hb01, if_pos ⟨h0, h1⟩]
        exact decide_eq_true (fun e => hlen (congrArg List.length e))
       subst hb
       clear hb01 hsz hlen
       go_wp2_with fail
       go_meet
       exact ⟨by rw [hn1]; rfl, rfl, rfl⟩
      ·have z1 : ((a1.toNat : Int) == 62) = false := by rw [beq_eq_false_iff_ne]; omega
       have hb : bb = false := by rw [HBB.out, hb01, if_neg (fun h => h1 h.2)]; simp
       subst hb
       clear hb01 hsz hlen
       go_wp2_with fail
       go_meet
       exact ⟨by rw [hn1]; rfl, rfl, rfl⟩
     ·have z0 : ((a0.toNat : Int) == 60) = false := by rw [beq_eq_false_iff_ne]; omega
      have hb : bb = false := by rw [HBB.out, hb01, if_neg (fun h => h0 h.1)]; simp
      subst hb
      clear hb01 hsz hlen
      go_wp2_with fail
      go_meet
      exact ⟨by rw [hn1]; rfl, rfl, rfl⟩
   case rest =>
   obtain ⟨rfl, rfl, rfl⟩ := hcut
   obtain ⟨W8, hw8⟩ : ∃ x, x = wc := ⟨_, rfl⟩
   subst hw8
   go_upto_if 83 with fail
   go_cut [16] (fun nv wx => nv = .int .i64 (IB.size : Int) ∧ In8 w g ((k : Int) + 1) wx ∧ wx.heap[q]? = some (.cells #[.string MB, .string ⟨#[]⟩, .string ID, .string LO, .int .i64 0, .slice none 0 0, .slice none 0 0] 25) ∧ Below q w7 wx)
   case first =>
    cases hb : bb
    ·have hID := HBF.out hb
     clear HBT HBF HBB
     subst hb
     go_wp2_with fail
     go_meet
     exact ⟨rfl, P8, by rw [hID]; exact Q8, B8⟩
    ·obtain ⟨n1, hn1, hn11, hID⟩ := HBT.out hb
     clear HBT HBF HBB
     subst hb
     go_wp2_with fail
     go_meet
     exact ⟨by rw [hn1], ⟨P8.1.set7 q (by omega) 2 _, m_other P8.2.1 (by omega) 2 _, m_other P8.2.2 (by omega) 2 _⟩, m_set Q8 2 _, B8.setCell (Nat.le_refl _) _⟩
   case rest =>
   obtain ⟨rfl, P9, Q9, B9⟩ := hcut
   obtain ⟨w9, hw9⟩ : ∃ x, x = wc := ⟨_, rfl⟩
   subst hw9
   clear P8 Q8 B8 c0 c1 c2 c3 c4 c5 c6 cfz hIDd hIBd hIBs hq8
   have hq9 : q < w9.heap.size := (Array.getElem?_eq_some_iff.1 Q9).1
   obtain ⟨qS, dS, hsl, hs1, hs2, hs3, hs4⟩ := slice_end p L.length c bd L rfl hbd hc hcm hp
   have HS4 : Hid (∀ W, BRow W p L → BRow W qS (L.drop bd)) := hs4
   clear hs4
   have ED : Hid (((d + 1 : Nat) : Int) = (d : Int) + 1) := (by omega : ((d + 1 : Nat) : Int) = (d : Int) + 1)
   have hMBs : MB.size ≤ maxLen := by rw [← HMB.out, ba_size]; have := HML.out; unfold maxLen; omega
   have CM0 := rmany_any MB w9 hMBs
   have hmb : manyS MB.data.toList = manyS M := by rw [← HMB.out]; rfl
   rw [hmb] at CM0
   have CM : Hid (Calls Tryz.prog 32 #[.string MB] w9 fun e w' => e = .returned (.bool (manyS M)) ∧ w' = w9) := CM0
   have HMBs : Hid (MB.size ≤ maxLen) := hMBs
   clear CM0 hmb hMBs
   cases hm : manyS M with
   | true =>
    rw [hm] at CM
    go_wp2_with fail
    refine CM.out.mono ?_
    rintro e w10 ⟨rfl, hw10⟩
    have hw10' := hw10.symm
    subst hw10'
    clear CM
    go_wp2_with fail
    refine (HGB.out _ P9 (HF7.out _ B9).2).mono ?_
    rintro e w10 ⟨rfl, hb10⟩
    have P10 := P9.below hb10
    have Q10 := m_kept Q9 hb10
    clear HGB HGC HGW
    obtain ⟨BD, hBD⟩ : ∃ x, ba (getN nmBound PS) = x := ⟨_, rfl⟩
    have hBDd : BD.data.toList = getN nmBound PS := by rw [← hBD, ba_data]
    rw [hBD]
    clear hBD hb10 P9 Q9 B9 HF7
    have hBDs : BD.size ≤ maxLen := by rw [Lib.size_eq, hBDd, ← HPS.out]; exact getN_fl _ _ HPL.out
    unfold maxLen at hBDs
    have hres0 := readP_many f L k bd FS PS KD M h12 HPA.out HKD.out HPP.out hm
    rw [HRES.out, ← hBDd] at hres0
    have hLd : (L.drop bd).length ≤ 40000 := by rw [List.length_drop]; omega
    have hemp := isEmpty_size BD
    by_cases hbad : BD.size = 0 ∨ 60 < BD.size
    ·have hsp : splitS (L.drop bd) BD.data.toList = ([], 3) := by
      unfold splitS
      rw [if_neg (by omega), if_pos]
      rcases hbad with h | h
      ·exact .inl (List.length_eq_zero_iff.1 (by rw [← Lib.size_eq]; exact h))
      ·exact .inr (by rw [← Lib.size_eq]; exact h)
     have hpr3 : partsR f (L.drop bd) BD.data.toList (k + 1) = (3, [], k + 1) := by
      unfold partsR
      rw [hsp]
      rfl
     rw [hpr3] at hres0
     obtain ⟨r0, r1, r2, r3, r4, r5, r6, rf⟩ := m_cells P10.2.1
     obtain ⟨y0, y1, y2, y3, y4, y5, y6, yf⟩ := m_cells P10.2.2
     have HR3 : Hid (RES = (3, pt0, k + 1)) := by unfold Hid; rw [hres0]; rfl
     clear hres0 hsp hpr3
     by_cases hb0 : BD.size = 0
     ·rw [decide_eq_true hb0] at hemp
      clear hbad hb0
      go_wp2
      rw [HR3.out]
      refine bodyPost_ret (v := .tuple #[.agg Z7, .int .i64 3]) ?_ rfl (rPost_no (by rw [EK.out]; exact fill7_ticks P10.1 (Nat.le_refl _) _ _ _ _ _ _ _) (by decide) _ _ _ _ _ _ _ _ _ _ _)
      rw [results_cell_tmp rfl]
      go_simp
     ·rw [decide_eq_false hb0] at hemp
      have h60 : (60 : Int) < (BD.size : Int) := by omega
      clear hbad hb0
      go_wp2
      rw [HR3.out]
      refine bodyPost_ret (v := .tuple #[.agg Z7, .int .i64 3]) ?_ rfl (rPost_no (by rw [EK.out]; exact fill7_ticks P10.1 (Nat.le_refl _) _ _ _ _ _ _ _) (by decide) _ _ _ _ _ _ _ _ _ _ _)
      rw [results_cell_tmp rfl]
      go_simp
    ·have hB1 : 1 ≤ BD.size := by omega
     have hB60 : BD.size ≤ 60 := by omega
     have h60 : ¬ (60 : Int) < (BD.size : Int) := by omega
     rw [decide_eq_false (by omega)] at hemp
     clear hbad
     obtain ⟨S, hS⟩ : ∃ S, splitS (L.drop bd) BD.data.toList = S := ⟨_, rfl⟩
     have CS : Hid (Calls Tryz.prog 13 #[.slice qS (L.length - bd) dS, .string BD] w10 fun e w' => SplitPostR w10 S e w') := by
      unfold Hid
      obtain ⟨mx, hmx⟩ := (HE.out.2 _ (HBW.out _ P10)).2.1
      rw [← hS]
      exact rsplit_any qS (L.length - bd) dS (L.drop bd) (by rw [List.length_drop]) BD hB1 hB60 mx w10 (by omega) hs3 (HS4.out _ (HRW.out _ P10)) hmx
     have HLs : Hid (∀ x ∈ S.1, x.length ≤ 40000) := fun x hx => by rw [← hS] at hx; have := splitS_len _ _ x hx; omega
     unfold partsR at hres0
     rw [hS] at hres0
     obtain ⟨PI, ES⟩ := S
     simp only at hres0 HLs
     have HRS : Hid ((ES ≠ 0 → RES = (ES, pt0, k + 1)) ∧ (ES = 0 → RES = manyR M FS (readAll (readP f) PI (k + 1) []))) := by
      refine ⟨fun h => ?_, fun h => ?_⟩
      ·rw [if_pos h] at hres0
       simp only at hres0
       rw [if_pos h] at hres0
       exact hres0
      ·subst h
       rw [if_neg (show ¬ ((0 : Nat) ≠ 0) by simp)] at hres0
       exact hres0
     clear hres0 hS hLd HRW
     go_wp2_with fail
     refine CS.out.mono ?_
     rintro e w11 ⟨hb11, v, rfl, hv1, hv2⟩
     clear CS
     have P11 := P10.below hb11
     have Q11 := m_kept Q10 hb11
     have hq10 : q < w10.heap.size := (Array.getElem?_eq_some_iff.1 Q10).1
     have h1011 := hb11.size
     by_cases hES : ES = 0
     ·obtain ⟨Y, hY, hown, hso⟩ := hv2 hES
      obtain rfl : ES = 0 := hES
      have HRT : Hid (RES = manyR M FS (readAll (readP f) PI (k + 1) [])) := HRS.out.2 rfl
      clear HRS
      simp only at hY hown
      clear hv1 hv2
      obtain ⟨qv, cv, rfl, hw1, hw2, hw3, hwc⟩ := owned_cells hown
      obtain ⟨m, hmm⟩ : ∃ m, PI.length = m := ⟨_, rfl⟩
      have HM : Hid (PI.length = m ∧ Y.length = m) := ⟨hmm, by rw [← hmm, ← hY, List.length_map]⟩
      rw [hmm] at hw1 hown
      have hm4 : m ≤ 9223372036854775807 := by unfold maxLen at hw2; omega
      simp only [hmm]
      have HY : Hid (Y.map (·.1) = PI) := hY
      have HP : Hid (∀ (i : Nat) (wr : World), i < m → Keep w11 g q wr → ∃ b o y, qv = some ⟨b, o, none⟩ ∧ Y[i]? = some y ∧ wr.cell? ⟨b, o + i, none⟩ = some (.slice y.2.1 y.1.length y.2.2) ∧ y.1.length ≤ y.2.2 ∧ y.2.2 ≤ maxLen ∧ (y.2.1 = none → y.1.length = 0 ∧ y.2.2 = 0) ∧ BRow wr y.2.1 y.1) := fun i wr hi hK => by
       have hiY : i < Y.length := by rw [HM.out.2]; exact hi
       have ho2 := hK.owns hown (by omega) (by omega)
       obtain ⟨q2, c2, e2, _, _, _, hc2⟩ := owned_cells ho2
       cases e2
       obtain ⟨b, o, rfl, hcell⟩ := hc2 (fun e => by have := congrArg List.length e; rw [syv, List.length_map, List.length_nil] at this; omega)
       have hy : Y[i]? = some Y[i] := List.getElem?_eq_getElem hiY
       have hpc := hK.piece (hso Y[i] (List.getElem_mem hiY)) (by omega) (by omega)
       have hpc' := hpc
       obtain ⟨gp, cs, mk, p1, p2, p3, p4, p5, p6⟩ := hpc
       refine ⟨b, o, Y[i], rfl, hy, ?_, p4, p5, ?_, hpc'.row⟩
       ·exact hcell i _ (by rw [syv, List.getElem?_map, hy]; rfl)
       ·intro hnone
        rw [p1] at hnone
        cases hnone
      have HFc : Hid (∀ wr, Keep w11 g q wr → wr.cell? ⟨g3, 0, none⟩ = some (FnV g g3)) := fun wr hK => by
       have h11 := (P11.1.block g3 hg3 hgg.symm).trans HFn.out
       have := (hK.2 g3 (by omega) hgg.symm (by omega)).trans h11
       exact (m_cell this 0).trans rfl
      have HFb : Hid (∀ wr, Keep w11 g q wr → FnAt wr g g3) := fun wr hK => (hK.2 g3 (by omega) hgg.symm (by omega)).trans ((P11.1.block g3 hg3 hgg.symm).trans HFn.out)
      have HK0 : Hid (Keep w11 g q w11) := ⟨Nat.le_refl _, fun _ _ _ _ => rfl⟩
      have HR12 : Hid (w11.heap[w.heap.size]? = some (.cells Z7 25) ∧ w11.heap[w.heap.size + 1]? = some (.cells Z7 25)) := ⟨P11.2.1, P11.2.2⟩
      have HT11 : Hid (Ticks w g ((k + 1 : Nat) : Int) w11) := by unfold Hid; rw [EK.out]; exact P11.1
      have HQ11 : Hid (w11.heap[q]? = some (.cells #[.string MB, .string ⟨#[]⟩, .string ID, .string LO, .int .i64 0, .slice none 0 0, .slice none 0 0] 25)) := Q11
      have HB11 : Hid (Below w0.heap.size w0 w11) := HBW.out _ P11
      obtain ⟨i0, hi, hz0, hz1, hz2⟩ := info_parts info_part
      have hg11 : g < w11.heap.size := by omega
      have hdw : IntKind.i64.wrap ((d : Int) + 1) = (d : Int) + 1 := wrap_small _ (by omega) (by omega)
      clear hown hso hwc hY hmm hw3 hb11 P11 Q11 P10 Q10 HBW HCW
      go_wp2_with fail
      go_loopw [113] (fun iv wr => ∃ (i x : Nat) (qL : Option Addr) (n6 c6 : Nat) (Z : List PZ), i ≤ m ∧ x ≤ 12 ∧ iv = .int .i64 i ∧ n6 ≤ x ∧ Hid (n6 = Z.length) ∧ Hid (Ticks w g (x : Int) wr) ∧ Hid (Keep w11 g q wr) ∧ wr.heap[q]? = some (.cells #[.string MB, .string ⟨#[]⟩, .string ID, .string LO, .int .i64 0, .slice none 0 0, .slice qL n6 c6] 25) ∧ Hid (wr.ownsRow w11.heap.size 25 7 (.slice qL n6 c6) n6 (pzv Z)) ∧ Hid (∀ z ∈ Z, PFar wr (fun b => w11.heap.size ≤ b ∧ (Value.slice qL n6 c6).ownBlock ≠ some b ∧ b < wr.heap.size) f z.1 z.2.1.1 z.2.1.2 z.2.2.1 z.2.2.2) ∧ Hid (readAll (readP f) (PI.drop i) x (Z.map (·.1)) = readAll (readP f) PI (k + 1) [])) (fun iv _ => m - (intOf iv).toNat)
      case atStart => exact ⟨0, k + 1, none, 0, 0, [], Nat.zero_le _, by omega, rfl, Nat.zero_le _, rfl, HT11, HK0, HQ11.out, World.ownsRow_nil _ _ _ _, (fun z hz => by cases hz), rfl⟩
      case round =>
       obtain ⟨i, x, qL, n6, c6, Z, him, hx, rfl, hn6, HN6, HT, HK, Qr, HO, HF, HR⟩ := hrel
       obtain ⟨c0, c1, c2, c3, c4, c5, c6', cfz⟩ := m_cells Qr
       have hsr : w11.heap.size ≤ wr.heap.size := HK.out.1
       by_cases hlt : i < m
       ·have hlz : (i : Int) < (m : Int) := by omega
        obtain ⟨b, o, y, rfl, hy, hcy, hy1, hy2, hy3, hy4⟩ := HP.out i wr hlt HK.out
        have hfc := HFc.out wr HK.out
        have hyP : PI.drop i = y.1 :: PI.drop (i + 1) := by
         have hiP : i < PI.length := by rw [HM.out.1]; exact hlt
         rw [List.drop_eq_getElem_cons hiP]
         congr 1
         have h1 := congrArg (·[i]?) HY.out
         simp only [List.getElem?_map, hy, List.getElem?_eq_getElem hiP] at h1
         exact (Option.some.inj h1).symm
        have hy40 : y.1.length ≤ 40000 := HLs.out y.1 (by rw [← HY.out]; exact List.mem_map.2 ⟨y, List.mem_of_getElem? hy, rfl⟩)
        have HCr : Hid (CountAt wr g (x : Int)) := HT.out.count HHC.out
        have HBr : Hid (Below w0.heap.size w0 wr) := HT.out.base HB0.out hg
        have CR := HIH.out y.2.1 y.1.length y.2.2 y.1 (d + 1) g g3 x wr rfl (by omega) HBr.out hg HCr.out (HFb.out wr HK.out) hgg hy40 hy1 hy2 hy3 hy4 hx
        rw [ED.out] at CR
        rw [hyP, readAll] at HR
        have hfew := readP_few f y.1 x
        have hmore := readP_grows f y.1 x
        generalize hRP : readP f y.1 x = RP at *
        obtain ⟨er, pr, xr⟩ := RP
        simp only at HR hfew hmore
        obtain ⟨ny, hny⟩ : ∃ ny, y.1.length = ny := ⟨_, rfl⟩
        rw [hny] at hcy CR
        have CR' : Hid (Calls Tryz.prog 42 #[.slice y.2.1 ny y.2.2, .int .i64 ((d : Int) + 1), .pointer (some ⟨g, 0, none⟩), .pointer (some ⟨g3, 0, none⟩)] wr fun e w' => RPost f wr g (er, pr, xr) e w') := CR
        generalize y.2.1 = py at *
        generalize y.2.2 = cy at *
        clear CR hy hyP hy1 hy2 hy3 hy4 hy40 hny hRP
        go_wp2_with fail
        refine CR'.out.mono ?_
        rintro e w2 ⟨ht2, hok, hno⟩
        simp only at ht2 hok hno
        have HT2 : Hid (Ticks wr g (xr : Int) w2) := ht2
        have hs2 := ht2.size
        have HK2 : Hid (Keep w11 g q w2) := ⟨by omega, fun b hb h1 h2 => (ht2.block b (by omega) h1).trans (HK.out.2 b hb h1 h2)⟩
        have HTw : Hid (Ticks w g (xr : Int) w2) := HT.out.trans ht2 HHC.out
        have Q2 : w2.heap[q]? = some (.cells #[.string MB, .string ⟨#[]⟩, .string ID, .string LO, .int .i64 0, .slice none 0 0, .slice qL n6 c6] 25) := (ht2.block q (by omega) (by omega)).trans Qr
        clear CR' ht2 c0 c1 c2 c3 c4 c5 c6' cfz Qr
        by_cases hEr : er = 0
        ·obtain ⟨pb, cb, pk, ck, rfl, hfar⟩ := hok hEr
         rw [if_pos hEr] at HR
         have hxr : xr ≤ 12 := hfew hEr
         obtain rfl : er = 0 := hEr
         have HO2 : Hid (w2.ownsRow w11.heap.size 25 7 (.slice qL n6 c6) n6 (pzv Z)) := HT2.out.owns HO.out hg11
         have HF2 : Hid (∀ z ∈ Z ++ [(pr, (pb, cb), (pk, ck))], PFar w2 (fun b => w11.heap.size ≤ b ∧ (Value.slice qL n6 c6).ownBlock ≠ some b ∧ b < w2.heap.size) f z.1 z.2.1.1 z.2.1.2 z.2.2.1 z.2.2.2) := fun z hz => by
          rcases List.mem_append.1 hz with h | h
          ·exact (HT2.out.far (fun b hb => by have := hb.1; omega) (HF.out z h)).kind fun b hb => ⟨hb.1, hb.2.1, by have := hb.2.2; omega⟩
          ·obtain rfl : z = (pr, (pb, cb), (pk, ck)) := by simpa using h
           exact hfar.kind fun b hb => ⟨Nat.le_trans hsr hb.1, (fun e => by have := (HO.out.lt b e).2; have := hb.1; omega), hb.2⟩
         have HZm : Hid ((Z ++ [(pr, (pb, cb), (pk, ck))]).map (·.1) = Z.map (·.1) ++ [pr]) := by unfold Hid; rw [List.map_append]; rfl
         have HZv : Hid (pzv (Z ++ [(pr, (pb, cb), (pk, ck))]) = pzv Z ++ [.string pr.ty, .string pr.cs, .string pr.id, .string pr.loc, .int .i64 pr.how, .slice pb pr.body.length cb, .slice pk pr.kids.length ck]) := by unfold Hid; rw [pzv_append]; simp [pzv, pzc]
         have HZl : Hid ((Z ++ [(pr, (pb, cb), (pk, ck))]).length = n6 + 1) := by unfold Hid; rw [List.length_append, ← HN6.out]; rfl
         generalize Z ++ [(pr, (pb, cb), (pk, ck))] = Z2 at *
         have HR2 : Hid (readAll (readP f) (PI.drop (i + 1)) xr (Z2.map (·.1)) = readAll (readP f) PI (k + 1) []) := by unfold Hid; rw [HZm.out]; exact HR.out
         obtain ⟨ty, cs, id, loc, how, body, kids⟩ := pr
         simp only at HZv
         obtain ⟨nb, hnb⟩ : ∃ nb, body.length = nb := ⟨_, rfl⟩
         obtain ⟨nk, hnk⟩ : ∃ nk, kids.length = nk := ⟨_, rfl⟩
         rw [hnb, hnk] at HZv
         simp only [hnb, hnk]
         obtain ⟨W3, hW3⟩ : ∃ W, W = w2.alloc (.cells #[.string ty, .string cs, .string id, .string loc, .int .i64 how, .slice pb nb cb, .slice pk nk ck] 25) := ⟨_, rfl⟩
         have g3' : Below w2.heap.size w2 W3 := by rw [hW3]; exact (Below.refl _ _).alloc (Nat.le_refl _) _
         have k3 : W3.heap[w2.heap.size]? = some (.cells #[.string ty, .string cs, .string id, .string loc, .int .i64 how, .slice pb nb cb, .slice pk nk ck] 25) := by rw [hW3]; exact m_new _ _
         have Q3 := m_kept Q2 g3'
         have hs3' := g3'.size
         have hlt3 : w2.heap.size < W3.heap.size := (Array.getElem?_eq_some_iff.1 k3).1
         have HO3 := ownsRow_below HO2.out g3'
         obtain ⟨u0, u1, u2, u3, u4, u5, u6, uf⟩ := m_cells k3
         obtain ⟨c0, c1, c2, c3, c4, c5, c6', cfz⟩ := m_cells Q3
         clear hok hno hfar hfew HR HO HF hnb hnk HT HZm HK
         have hn13 : n6 + 1 ≤ 9223372036854775807 := by omega
         go_upto_region 30 with fail
         rw [← hW3]
         clear hW3
         go_wp2_with (at_builtin; go_loud (refine wpList_append_lies _ rfl (.tmp 130) (.tmp 132) 23 rfl w11.heap.size 25 i0 (.agg #[.string ⟨#[]⟩, .string ⟨#[]⟩, .string ⟨#[]⟩, .string ⟨#[]⟩, .int .i64 0, .slice none 0 0, .slice none 0 0]) 7 120 Tryz.underlying23 hi hz0 hz1 hz2 rfl (by decide) _ _ _ rfl (HO3.alloc _) ⟨W3.heap.size, 0, none⟩ 1 1 [.string ty, .string cs, .string id, .string loc, .int .i64 how, .slice pb nb cb, .slice pk nk ck] rfl rfl ?c1 ?c2 (by decide) ?c3 ?c4 ?c5 (W3.heap.size + 1) ?c6 ?_))
         case c1 => exact cell_seven _ [_, _, _, _, _, _, _] _ _ (by simp)
         case c2 => intro u hu; simp at hu; rcases hu with rfl | rfl | rfl | rfl | rfl | rfl | rfl <;> rfl
         case c3 => unfold maxLen; omega
         case c4 => omega
         case c5 => simp; omega
         case c6 => simp
         intro g9 c9 w9' hown9 hg9 hlies hlt9
         have hs9 : W3.heap.size + 1 ≤ w9'.heap.size := by have := hg9.size; simp at this; omega
         have hb9q : ∀ b, b < w11.heap.size → w9'.heap[b]? = w2.heap[b]? := fun b hb => by
          rw [hg9.block b (by simp; omega) (fun e => by have := (HO2.out.lt b e.symm).1; omega), Below.heap_alloc _ _ _ (by omega), g3'.block b (by omega)]
         have Q9' : w9'.heap[q]? = some (.cells #[.string MB, .string ⟨#[]⟩, .string ID, .string LO, .int .i64 0, .slice none 0 0, .slice qL n6 c6] 25) := (hb9q q (by omega)).trans Q2
         obtain ⟨W10, hW10⟩ : ∃ W, W = w9'.setCell ⟨q, 6, none⟩ (.slice (some ⟨g9, 0, none⟩) (n6 + 1) c9) := ⟨_, rfl⟩
         have hs10 : W10.heap.size = w9'.heap.size := by rw [hW10]; exact set_sz _ _ _
         have hb10 : ∀ b, b ≠ q → W10.heap[b]? = w9'.heap[b]? := fun b hb => by rw [hW10, Below.heap_setCell _ _ _ _ hb]
         have Q10 : W10.heap[q]? = some (.cells #[.string MB, .string ⟨#[]⟩, .string ID, .string LO, .int .i64 0, .slice none 0 0, .slice (some ⟨g9, 0, none⟩) (n6 + 1) c9] 25) := by rw [hW10]; exact m_set Q9' 6 _
         have HT10 : Hid (Ticks w g (xr : Int) W10) := by
          unfold Hid
          have h1 : Ticks w g (xr : Int) (W3.alloc (.cells #[.string ty, .string cs, .string id, .string loc, .int .i64 how, .slice pb nb cb, .slice pk nk ck] 25)) := (HTw.out.then g3').then ((Below.refl _ _).alloc (Nat.le_refl _) _)
          have h2 : Below w.heap.size (w.setCell ⟨g, 0, none⟩ (.int .i64 (xr : Int))) (W3.alloc (.cells #[.string ty, .string cs, .string id, .string loc, .int .i64 how, .slice pb nb cb, .slice pk nk ck] 25)) := h1
          have h3 : Ticks w g (xr : Int) w9' := h2.grown hg9 (by simp; omega) (fun j hj => by have := (HO2.out.lt j hj).1; omega)
          rw [hW10]
          exact h3.set7 q (by omega) 6 _
         have HK10 : Hid (Keep w11 g q W10) := ⟨by omega, fun b hb h1 h2 => by rw [hb10 b h2, hb9q b hb]; exact HK2.out.2 b hb h1 h2⟩
         have hlg9 : w11.heap.size ≤ g9 := by
          rcases hown9.2 with ⟨e, _⟩ | ⟨gg, cap, cur, e, hgg', _⟩
          ·cases e
          ·injection e with e _ _
           injection e with e
           injection e with e _ _
           omega
         have HO10 : Hid (W10.ownsRow w11.heap.size 25 7 (.slice (some ⟨g9, 0, none⟩) (n6 + 1) c9) (n6 + 1) (pzv Z2)) := by
          unfold Hid
          rw [HZv.out]
          exact owns_move hown9 (fun gg hgg' => hb10 gg (by omega))
         have HF10 : Hid (∀ z ∈ Z2, PFar W10 (fun b => w11.heap.size ≤ b ∧ (Value.slice (some ⟨g9, 0, none⟩) (n6 + 1) c9).ownBlock ≠ some b ∧ b < W10.heap.size) f z.1 z.2.1.1 z.2.1.2 z.2.2.1 z.2.2.2) := fun z hz => by
          have hmv := PFar.move (w' := W10) (fun b hb hlt => by
           rw [hb10 b (by have := hb.1; omega), hg9.block b (by simp; omega) (fun e => hb.2.1 e.symm), Below.heap_alloc _ _ _ (by omega), g3'.block b hlt]) (HF2.out z hz)
          refine hmv.kind fun b hb => ⟨hb.1, fun e => ?_, by have := hb.2.2; omega⟩
          have e' : g9 = b := by simpa [Value.ownBlock] using e
          rcases hlies with h | h
          ·exact hb.2.1 (by rw [h, e'])
          ·have := hb.2.2; omega
         obtain ⟨v0, v1, v2, v3, v4, v5, v6, vf⟩ := m_cells Q9'
         clear hown9 hg9 HO3 c0 c1 c2 c3 c4 c5 c6' cfz u0 u1 u2 u3 u4 u5 u6 uf
         go_wp2_with fail
         go_roundw
         case rel =>
          (repeat apply Exists.intro)
          refine ⟨?_, rfl⟩
          rw [← hW10]
          exact ⟨i + 1, xr, some ⟨g9, 0, none⟩, n6 + 1, c9, Z2, by omega, hxr, by go_num, by omega, HZl.out.symm, HT10, HK10, Q10, HO10, HF10, HR2⟩
         case measure => simp [intOf]; omega
        ·obtain ⟨s0, s1, s2, s3, hh, a1, n1, c1', a2, n2, c2', rfl⟩ := hno hEr
         rw [if_neg hEr] at HR
         have hErb : ((er : Int) != 0) = true := by simp; exact hEr
         have hErz : ¬ ((er : Int) = 0) := by omega
         have hres : RES = (er, pt0, xr) := by
          rw [HRT.out, ← HR.out, manyR, if_pos hEr]
         obtain ⟨W3, hW3⟩ : ∃ W, W = w2.alloc (.cells #[.string s0, .string s1, .string s2, .string s3, .int .i64 hh, .slice a1 n1 c1', .slice a2 n2 c2'] 25) := ⟨_, rfl⟩
         have g3' : Below w2.heap.size w2 W3 := by rw [hW3]; exact (Below.refl _ _).alloc (Nat.le_refl _) _
         have R3 : W3.heap[w.heap.size]? = some (.cells Z7 25) := m_kept ((HK2.out.2 w.heap.size (by omega) (by omega) (by omega)).trans HR12.out.1) g3'
         have Y3 : W3.heap[w.heap.size + 1]? = some (.cells Z7 25) := m_kept ((HK2.out.2 (w.heap.size + 1) (by omega) (by omega) (by omega)).trans HR12.out.2) g3'
         have T3 : Ticks w g (xr : Int) W3 := HTw.out.then g3'
         obtain ⟨r0, r1, r2, r3, r4, r5, r6, rf⟩ := m_cells R3
         obtain ⟨y0, y1, y2, y3, y4, y5, y6, yf⟩ := m_cells Y3
         clear hok hno hfew hEr HO HF
         have HRE : Hid (RES = (er, pt0, xr)) := hres
         clear hres
         go_upto_region 28 with fail
         rw [← hW3]
         clear hW3
         go_wp2
         rw [HRE.out]
         refine bodyPost_ret (v := .tuple #[.agg Z7, .int .i64 (er : Int)]) ?_ rfl (rPost_no (fill7_ticks T3 (Nat.le_refl _) _ _ _ _ _ _ _) (by omega) _ _ _ _ _ _ _ _ _ _ _)
         rw [results_cell_tmp rfl]
         go_simp
       ·have hlz : ¬ ((i : Int) < (m : Int)) := by omega
        have hRe : readAll (readP f) PI (k + 1) [] = (0, Z.map (·.1), x) := by
         rw [← HR.out, List.drop_of_length_le (by rw [HM.out.1]; omega), readAll]
        have hres : RES = (0, ⟨MB, ⟨#[]⟩, ID, LO, 0, [], Z.map (·.1)⟩, x) := by
         have hpt : ({ partOf M FS with kids := Z.map (·.1) } : PT) = ⟨MB, ⟨#[]⟩, ID, LO, 0, [], Z.map (·.1)⟩ := by
          unfold partOf
          rw [HMB.out, HLO.out, ← HID.out]
          rfl
         rw [HRT.out, hRe, manyR, if_neg (by simp), hpt]
        obtain ⟨q9, c9, hv9, h91, h92, h93, hk9⟩ := KFar.of_list (Q := fun b => w11.heap.size ≤ b ∧ b < wr.heap.size) HO.out HN6.out (fun b h1 h2 => ⟨h1, h2⟩) (fun z hz => (HF.out z hz).kind fun b h => ⟨h.1, h.2.2⟩)
        have hq9 : qL = q9 ∧ c6 = c9 := by cases hv9; exact ⟨rfl, rfl⟩
        obtain ⟨rfl, rfl⟩ := hq9
        have HK9 : Hid (KFar wr (fun b => w11.heap.size ≤ b ∧ b < wr.heap.size) (f + 1) qL (Z.map (·.1))) := hk9
        have HN9 : Hid (n6 = (Z.map (·.1)).length) := by unfold Hid; rw [List.length_map]; exact HN6.out
        have R3 : wr.heap[w.heap.size]? = some (.cells Z7 25) := (HK.out.2 w.heap.size (by omega) (by omega) (by omega)).trans HR12.out.1
        obtain ⟨r0, r1, r2, r3, r4, r5, r6, rf⟩ := m_cells R3
        have HTx : Hid (Ticks w g (x : Int) wr) := HT.out
        have hqr : ¬ q = w.heap.size := by omega
        have HRE : Hid (RES = (0, ⟨MB, ⟨#[]⟩, ID, LO, 0, [], Z.map (·.1)⟩, x)) := hres
        clear hRe HR HO HF hv9 hk9 HP HFc HFb HT hres
        go_wp2
        rw [HRE.out]
        generalize Z.map (·.1) = KS at *
        have hkl : KS.length = n6 := HN9.out.symm
        refine bodyPost_ret (v := .tuple #[.agg #[.string MB, .string ⟨#[]⟩, .string ID, .string LO, .int .i64 0, .slice none 0 0, .slice qL n6 c6], .int .i64 0]) ?_ rfl ⟨fill7_ticks HTx.out (Nat.le_refl _) _ _ _ _ _ _ _, fun _ => ⟨none, 0, qL, c6, by simp only; rw [hkl]; rfl, ?_⟩, fun h => absurd rfl h⟩
        ·rw [results_cell_tmp rfl]
         go_simp
        ·have hil := bareI_len (getN nmID FS)
         have hil2 := getN_len HCK.out nmID
         have hll := getN_len HCK.out nmLoc
         have s2 : ID.size ≤ maxLen := by rw [Lib.size_eq, HID.out]; unfold maxLen; omega
         have s3 : LO.size ≤ maxLen := by rw [← HLO.out, ba_size]; unfold maxLen; omega
         refine ⟨(fun a h => by cases h), ⟨HMBs.out, Nat.zero_le _, s2, s3, by show _ ≤ (0 : Int); decide, by show (0 : Int) ≤ _; decide, Nat.zero_le _, by show KS.length ≤ _; omega⟩, ⟨Nat.le_refl _, by decide, fun _ => rfl⟩, fun h => absurd rfl h, ⟨by show KS.length ≤ c6; omega, h92, h93⟩, ?_⟩
         refine KFar.kind (fun b hb => ?_) _ _ _ (KFar.move (fun b hb _ => fill7_block _ _ _ _ _ _ _ _ _ b (by have hb' : w11.heap.size ≤ b ∧ b < wr.heap.size := hb; omega)) _ _ _ HK9.out)
         have hb' : w11.heap.size ≤ b ∧ b < wr.heap.size := hb
         rw [fill7_size]
         omega
     ·obtain rfl : v = .slice none 0 0 := hv1 hES
      have hres : RES = (ES, pt0, k + 1) := HRS.out.1 hES
      clear HRS
      obtain ⟨r0, r1, r2, r3, r4, r5, r6, rf⟩ := m_cells P11.2.1
      obtain ⟨c0, c1, c2, c3, c4, c5, c6, cfz⟩ := m_cells Q11
      have hqr : ¬ q = w.heap.size := by omega
      have HRE : Hid (RES = (ES, pt0, k + 1)) := hres
      clear hv1 hv2 hres
      go_wp2_with fail
      refine wp_loop_rounds 1 ?_
      rw [rounds_succ]
      go_wp2
      rw [HRE.out]
      refine bodyPost_ret (v := .tuple #[.agg #[.string MB, .string ⟨#[]⟩, .string ID, .string LO, .int .i64 0, .slice none 0 0, .slice none 0 0], .int .i64 (ES : Int)]) ?_ rfl (rPost_no (by rw [EK.out]; exact fill7_ticks P11.1 (Nat.le_refl _) _ _ _ _ _ _ _) hES _ _ _ _ _ _ _ _ _ _ _)
      rw [results_cell_tmp rfl]
      go_simp
   | false =>
    rw [hm] at CM
    go_wp2_with fail
    refine CM.out.mono ?_
    rintro e w10 ⟨rfl, hw10⟩
    have hw10' := hw10.symm
    subst hw10'
    clear CM
    go_wp2_with fail
    refine (HGC.out _ P9 (HF7.out _ B9).2).mono ?_
    rintro e w10 ⟨rfl, hb10⟩
    have P10 := P9.below hb10
    have Q10 := m_kept Q9 hb10
    have B10 : Below q w7 w10 := B9.trans (hb10.mono (by omega))
    have hq10 : q < w10.heap.size := (Array.getElem?_eq_some_iff.1 Q10).1
    obtain ⟨CS, hCS⟩ : ∃ x, ba (getN nmChar PS) = x := ⟨_, rfl⟩
    have HCS : Hid (ba (getN nmChar PS) = CS) := hCS
    rw [hCS]
    clear hCS hb10 P9 Q9 B9 HGB HGC
    obtain ⟨c0, c1, c2, c3, c4, c5, c6, cfz⟩ := m_cells Q10
    obtain ⟨W11, hW11⟩ : ∃ W, W = w10.setCell ⟨q, 1, none⟩ (.string CS) := ⟨_, rfl⟩
    have P11 : In8 w g ((k : Int) + 1) W11 := by rw [hW11]; exact ⟨P10.1.set7 q (by omega) 1 _, m_other P10.2.1 (by omega) 1 _, m_other P10.2.2 (by omega) 1 _⟩
    have Q11 : W11.heap[q]? = some (.cells #[.string MB, .string CS, .string ID, .string LO, .int .i64 0, .slice none 0 0, .slice none 0 0] 25) := by rw [hW11]; exact m_set Q10 1 _
    have B11 : Below q w7 W11 := by rw [hW11]; exact B10.setCell (Nat.le_refl _) _
    have hq11 : q < W11.heap.size := (Array.getElem?_eq_some_iff.1 Q11).1
    go_wp2_with fail
    rw [← hW11]
    clear hW11 P10 Q10 B10 c0 c1 c2 c3 c4 c5 c6 cfz
    refine (HGW.out _ P11 (HF7.out _ B11).1).mono ?_
    rintro e w12 ⟨rfl, hb12⟩
    have P12 := P11.below hb12
    have Q12 := m_kept Q11 hb12
    have hq12 : q < w12.heap.size := (Array.getElem?_eq_some_iff.1 Q12).1
    obtain ⟨HV, hHV⟩ : ∃ x, ba (getN nmHow FS) = x := ⟨_, rfl⟩
    have hHVd : HV.data.toList = getN nmHow FS := by rw [← hHV, ba_data]
    have hHVs : HV.size ≤ 900 := by rw [Lib.size_eq, hHVd]; exact getN_len HCK.out nmHow
    rw [hHV]
    clear hHV hb12 P11 Q11 B11 HGW HF7
    have hres0 := readP_one f L k bd FS PS KD M h12 HPA.out HKD.out HPP.out hm
    rw [HRES.out, ← hHVd] at hres0
    have hLd : (L.drop bd).length ≤ 40000 := by rw [List.length_drop]; omega
    obtain ⟨hen1, hen2⟩ := HE.out
    have CL0 := Tryz.strings_ToLower_any HV w12 (by omega) (hen1 _ (HBW.out _ P12)).2.1.2.2 (hen1 _ (HBW.out _ P12)).2.2
    obtain ⟨T, hT⟩ : ∃ T : ByteArray, (⟨(Lib.toLowerD HV.data.toList).toArray⟩ : ByteArray) = T := ⟨_, rfl⟩
    have hTd : Lib.toLowerD HV.data.toList = T.data.toList := by rw [← hT]
    rw [hT] at CL0
    have CLo : Hid (Calls Tryz.prog 46 #[.string HV] w12 fun e w' => e = .returned (.string T) ∧ Below w12.heap.size w12 w') := CL0
    clear CL0 hT
    have hdecP : decP HV.data.toList (L.drop bd) = (match howOf T.data.toList with
     | none => (0, [], 4)
     | some 0 => if 4000 < (L.drop bd).length then (0, [], 2) else (0, L.drop bd, 0)
     | some 1 => (1, (readS (L.drop bd)).1, (readS (L.drop bd)).2)
     | some _ => (2, (readQ (L.drop bd)).1, (readQ (L.drop bd)).2)) := by unfold decP; rw [hTd]; rfl
    rw [hdecP] at hres0
    clear hdecP hTd hHVd hHVs
    have e0' := str_is_empty T
    have e0 := isEmpty_size T
    have e1 : (T.toList == ([55, 98, 105, 116] : List UInt8)) = decide (T.data.toList = bit7) := str_const T [55, 98, 105, 116]
    have e2 : (T.toList == ([56, 98, 105, 116] : List UInt8)) = decide (T.data.toList = how0) := str_const T [56, 98, 105, 116]
    have e3 : (T.toList == ([98, 105, 110, 97, 114, 121] : List UInt8)) = decide (T.data.toList = binS) := str_const T [98, 105, 110, 97, 114, 121]
    have e4 : (T.toList == ([98, 97, 115, 101, 54, 52] : List UInt8)) = decide (T.data.toList = how1) := str_const T [98, 97, 115, 101, 54, 52]
    have e5 : (T.toList == ([113, 117, 111, 116, 101, 100, 45, 112, 114, 105, 110, 116, 97, 98, 108, 101] : List UInt8)) = decide (T.data.toList = how2) := str_const T [113, 117, 111, 116, 101, 100, 45, 112, 114, 105, 110, 116, 97, 98, 108, 101]
    have hsP : ∀ W, In8 w g ((k : Int) + 1) W → BRow W qS (L.drop bd) := fun W h => HS4.out W (HRW.out W h)
    have HSP : Hid (∀ W, In8 w g ((k : Int) + 1) W → BRow W qS (L.drop bd)) := hsP
    have hld : L.length - bd = (L.drop bd).length := by rw [List.length_drop]
    have HLD : Hid (L.length - bd = (L.drop bd).length) := hld
    have h4c : ∀ W, In8 w g ((k : Int) + 1) W → (convert 22 9 (.slice qS (L.length - bd) dS)).run Tryz.prog W = .ok (.string ⟨(L.drop bd).toArray⟩) W := fun W h => conv_bytes W qS (L.length - bd) dS (L.drop bd) hld (hsP W h) hs3
    have HCV : Hid (∀ W, In8 w g ((k : Int) + 1) W → (convert 22 9 (.slice qS (L.length - bd) dS)).run Tryz.prog W = .ok (.string ⟨(L.drop bd).toArray⟩) W) := h4c
    have CBR : Hid (∀ W, In8 w g ((k : Int) + 1) W → Calls Tryz.prog 47 #[.string ⟨(L.drop bd).toArray⟩] W fun e w' => ReadPostN W (readS (L.drop bd)) e w') := fun W h => bread_new ⟨(L.drop bd).toArray⟩ W (by show (L.drop bd).toArray.size ≤ _; rw [List.size_toArray]; unfold maxLen; omega)
    have CQR : Hid (∀ W, In8 w g ((k : Int) + 1) W → Calls Tryz.prog 48 #[.string ⟨(L.drop bd).toArray⟩] W fun e w' => ReadPostN W (readQ (L.drop bd)) e w') := fun W h => by
     obtain ⟨mx, hmx⟩ := (hen2 _ (HBW.out _ h)).2.1
     exact qread_new ⟨(L.drop bd).toArray⟩ mx W (by show (L.drop bd).toArray.size ≤ _; rw [List.size_toArray]; unfold maxLen; omega) hmx
    clear hsP h4c hld
    have hil := bareI_len (getN nmID FS)
    have hil2 := getN_len HCK.out nmID
    have hll := getN_len HCK.out nmLoc
    have s2 : ID.size ≤ maxLen := by rw [Lib.size_eq, HID.out]; unfold maxLen; omega
    have s3 : LO.size ≤ maxLen := by rw [← HLO.out, ba_size]; unfold maxLen; omega
    have s4 : CS.size ≤ maxLen := by rw [← HCS.out, ba_size, ← HPS.out]; exact getN_fl _ _ HPL.out
    have HSZ : Hid (ID.size ≤ maxLen ∧ LO.size ≤ maxLen ∧ CS.size ≤ maxLen) := ⟨s2, s3, s4⟩
    have HPTq : Hid (∀ (h : Int) (B : List UInt8), ({ partOf M FS with cs := ba (getN nmChar PS), how := h, body := B } : PT) = ⟨MB, CS, ID, LO, h, B, []⟩) := fun h B => by
     unfold partOf
     rw [HMB.out, HLO.out, HCS.out, ← HID.out]
     rfl
    clear hil hil2 hll s2 s3 s4
    have hqr : ¬ q = w.heap.size := by omega
    have HRS : Hid (RES = _) := hres0
    clear hres0
    go_wp2_with fail
    refine CLo.out.mono ?_
    rintro e w13 ⟨rfl, hb13⟩
    have P13 := P12.below hb13
    have Q13 := m_kept Q12 hb13
    have hq13 : q < w13.heap.size := (Array.getElem?_eq_some_iff.1 Q13).1
    clear CLo hb13 P12 Q12
    obtain ⟨c0, c1, c2, c3, c4, c5, c6, cfz⟩ := m_cells Q13
    obtain ⟨r0, r1, r2, r3, r4, r5, r6, rf⟩ := m_cells P13.2.1
    obtain ⟨nL, hnL⟩ : ∃ nL, L.length - bd = nL := ⟨_, rfl⟩
    rw [hnL] at HCV HLD hs1 hs3 hsl ⊢
    have hnL4 : nL ≤ 40000 := by omega
    by_cases q0 : T.size = 0
    ·rw [decide_eq_true q0] at e0 e0'
     have hT0 : T.data.toList = [] := List.length_eq_zero_iff.1 (by rw [← Lib.size_eq]; exact q0)
     have hh : howOf T.data.toList = some 0 := by unfold howOf; rw [if_pos (.inl hT0)]
     clear e1 e2 e3 e4 e5 q0 hT0
     have hRS := HRS.out
     rw [hh] at hRS
     simp only at hRS
     rw [← HLD.out] at hRS
     have HRP : Hid (RES = _) := hRS
     clear hRS HRS HCV CBR CQR
     obtain ⟨W14, hW14⟩ : ∃ W, W = w13.alloc (.cells #[] 5) := ⟨_, rfl⟩
     have b14 : Below w13.heap.size w13 W14 := by rw [hW14]; exact (Below.refl _ _).alloc (Nat.le_refl _) _
     have own14 : W14.ownsRow w13.heap.size 5 1 (.slice (some ⟨w13.heap.size, 0, none⟩) 0 0) 0 [] := by
      rw [hW14]
      exact ⟨rfl, .inr ⟨w13.heap.size, 0, #[], rfl, Nat.le_refl _, m_new _ _, Nat.le_refl _, by decide, rfl, rfl⟩⟩
     have P14 := P13.below b14
     have Q14 := m_kept Q13 b14
     have hrow14 := HSP.out _ P14
     have hs14 := b14.size
     go_wp2_with (at_builtin; show wpList _ _ _ _ _ (w13.alloc (.cells #[] 5)); rw [← hW14]; go_loud (refine rb_append rfl (.tmp 149) (.tmp 150) rfl w13.heap.size _ _ _ rfl own14 qS (L.drop bd) nL dS HLD.out rfl hrow14 hs3 ?d1 ?d2 ?_))
     case d1 => omega
     case d2 => omega
     intro v15 w15 own15 grow15
     rw [← hW14] at grow15
     have hb15 : Below w13.heap.size w13 w15 := b14.grown grow15 hs14 (fun j hj => (own14.lt j hj).1)
     have P15 := P13.below hb15
     have Q15 := m_kept Q13 hb15
     have own15' : w15.ownsRow w13.heap.size 5 1 v15 (L.drop bd).length (bv (L.drop bd)) := by rw [← HLD.out]; simpa using own15
     obtain ⟨pX, cX, rfl, l1, l2, l3, hbX⟩ := owned_bytes own15'
     have hfr : FreshP w13 w15 pX cX := own_freshP own15' (Nat.le_refl _)
     rw [← HLD.out] at l1 l3
     simp only [← HLD.out]
     clear hW14 b14 own14 P14 Q14 hrow14 own15 own15' grow15 P13 Q13
     obtain ⟨WX, hWX⟩ : ∃ W, W = w15.setCell ⟨q, 5, none⟩ (.slice pX nL cX) := ⟨_, rfl⟩
     have TX : Ticks w g ((k : Int) + 1) WX := by rw [hWX]; exact P15.1.set7 q (by omega) 5 _
     have QX : WX.heap[q]? = some (.cells #[.string MB, .string CS, .string ID, .string LO, .int .i64 0, .slice pX nL cX, .slice none 0 0] 25) := by rw [hWX]; exact m_set Q15 5 _
     have RX : WX.heap[w.heap.size]? = some (.cells Z7 25) := by rw [hWX]; exact m_other P15.2.1 (by omega) 5 _
     have hsX : WX.heap.size = w15.heap.size := by rw [hWX]; exact set_sz _ _ _
     have HFX : Hid ((∀ a, pX = some a → q < a.block ∧ a.block < WX.heap.size) ∧ (pX = none → cX = 0)) := ⟨fun a ha => by have := hfr.1 a ha; omega, hfr.2⟩
     obtain ⟨BO, hBO⟩ : ∃ BO, L.drop bd = BO := ⟨_, rfl⟩
     have HNX : Hid (BO.length = nL) := by unfold Hid; rw [← hBO]; exact HLD.out.symm
     have HBX : Hid (BRow WX pX BO) := by
      unfold Hid
      rw [← hBO]
      exact BRow.move (Q := fun b => q < b) (fun b hb _ => by rw [hWX, Below.heap_setCell _ _ _ _ (by have hb' : q < b := hb; show b ≠ q; omega)]) hbX (fun a ha => by have := hfr.1 a ha; show q < a.block; omega)
     have hlX : nL ≤ cX ∧ cX ≤ maxLen := ⟨l1, l2⟩
     rw [hBO] at HRP
     clear c0 c1 c2 c3 c4 c5 c6 cfz r0 r1 r2 r3 r4 r5 r6 rf hbX hfr hBO
     obtain ⟨c0, c1, c2, c3, c4, c5, c6, cfz⟩ := m_cells Q15
     go_upto_region 41 with fail
     rw [← hWX]
     clear hWX c0 c1 c2 c3 c4 c5 c6 cfz P15 Q15
     obtain ⟨c0, c1, c2, c3, c4, c5, c6, cfz⟩ := m_cells QX
     obtain ⟨r0, r1, r2, r3, r4, r5, r6, rf⟩ := m_cells RX
     by_cases h4 : 4000 < nL
     ·have h4' : (4000 : Int) < (nL : Int) := by omega
      have HRE : Hid (RES = (2, pt0, k + 1)) := by
       have := HRP.out
       rw [if_pos h4] at this
       exact this
      clear HRP
      go_wp2
      rw [HRE.out]
      refine bodyPost_ret (v := .tuple #[.agg #[.string MB, .string CS, .string ID, .string LO, .int .i64 0, .slice pX nL cX, .slice none 0 0], .int .i64 2]) ?_ rfl (rPost_no (by rw [EK.out]; exact fill7_ticks TX (Nat.le_refl _) _ _ _ _ _ _ _) (by decide) _ _ _ _ _ _ _ _ _ _ _)
      rw [results_cell_tmp rfl]
      go_simp
     ·have h4' : ¬ (4000 : Int) < (nL : Int) := by omega
      have HRE : Hid (RES = (0, ⟨MB, CS, ID, LO, 0, BO, []⟩, k + 1)) := by
       have := HRP.out
       rw [if_neg h4] at this
       have h2 := HPTq.out (0 : Int) BO
       unfold Hid
       rw [← h2]
       exact this
      clear HRP
      go_wp2
      rw [HRE.out]
      refine bodyPost_ret (v := .tuple #[.agg #[.string MB, .string CS, .string ID, .string LO, .int .i64 0, .slice pX nL cX, .slice none 0 0], .int .i64 0]) ?_ rfl ⟨by rw [EK.out]; exact fill7_ticks TX (Nat.le_refl _) _ _ _ _ _ _ _, fun _ => ⟨pX, cX, none, 0, by simp only; rw [HNX.out]; rfl, ?_⟩, fun h => absurd rfl h⟩
      ·rw [results_cell_tmp rfl]
       go_simp
      ·obtain ⟨s2, s3, s4⟩ := HSZ.out
       obtain ⟨f1, f2⟩ := HFX.out
       have hin : InB (fun b => q < b ∧ b < WX.heap.size) pX := f1
       refine ⟨(fun a ha => ?_), ⟨HMBs.out, s4, s2, s3, by show _ ≤ (0 : Int); decide, by show (0 : Int) ≤ _; decide, by show BO.length ≤ _; rw [HNX.out]; omega, Nat.zero_le _⟩, ⟨by show BO.length ≤ cX; rw [HNX.out]; omega, hlX.2, f2⟩, BRow.move (fun b hb _ => ?_) HBX.out hin, ⟨Nat.le_refl _, by decide, fun _ => rfl⟩, KFar.nil _ _ _ _⟩
       ·have h : q < a.block ∧ a.block < WX.heap.size := f1 a ha
        rw [fill7_size]
        omega
       ·have hb' : q < b ∧ b < WX.heap.size := hb
        exact fill7_block _ _ _ _ _ _ _ _ _ b (by omega)
    ·rw [decide_eq_false q0] at e0 e0'
     have hT0 : ¬ T.data.toList = [] := fun e => q0 (by rw [Lib.size_eq, e]; rfl)
     by_cases q1 : T.data.toList = bit7
     ·have hh : howOf T.data.toList = some 0 := by unfold howOf; rw [if_pos (.inr (.inl q1))]
      rw [decide_eq_true q1] at e1
      clear e2 e3 e4 e5 q0 q1 hT0
      have hRS := HRS.out
      rw [hh] at hRS
      simp only at hRS
      rw [← HLD.out] at hRS
      have HRP : Hid (RES = _) := hRS
      clear hRS HRS HCV CBR CQR
      obtain ⟨W14, hW14⟩ : ∃ W, W = w13.alloc (.cells #[] 5) := ⟨_, rfl⟩
      have b14 : Below w13.heap.size w13 W14 := by rw [hW14]; exact (Below.refl _ _).alloc (Nat.le_refl _) _
      have own14 : W14.ownsRow w13.heap.size 5 1 (.slice (some ⟨w13.heap.size, 0, none⟩) 0 0) 0 [] := by
       rw [hW14]
       exact ⟨rfl, .inr ⟨w13.heap.size, 0, #[], rfl, Nat.le_refl _, m_new _ _, Nat.le_refl _, by decide, rfl, rfl⟩⟩
      have P14 := P13.below b14
      have Q14 := m_kept Q13 b14
      have hrow14 := HSP.out _ P14
      have hs14 := b14.size
      go_wp2_with (at_builtin; show wpList _ _ _ _ _ (w13.alloc (.cells #[] 5)); rw [← hW14]; go_loud (refine rb_append rfl (.tmp 149) (.tmp 150) rfl w13.heap.size _ _ _ rfl own14 qS (L.drop bd) nL dS HLD.out rfl hrow14 hs3 ?d1 ?d2 ?_))
      case d1 => omega
      case d2 => omega
      intro v15 w15 own15 grow15
      rw [← hW14] at grow15
      have hb15 : Below w13.heap.size w13 w15 := b14.grown grow15 hs14 (fun j hj => (own14.lt j hj).1)
      have P15 := P13.below hb15
      have Q15 := m_kept Q13 hb15
      have own15' : w15.ownsRow w13.heap.size 5 1 v15 (L.drop bd).length (bv (L.drop bd)) := by rw [← HLD.out]; simpa using own15
      obtain ⟨pX, cX, rfl, l1, l2, l3, hbX⟩ := owned_bytes own15'
      have hfr : FreshP w13 w15 pX cX := own_freshP own15' (Nat.le_refl _)
      rw [← HLD.out] at l1 l3
      simp only [← HLD.out]
      clear hW14 b14 own14 P14 Q14 hrow14 own15 own15' grow15 P13 Q13
      obtain ⟨WX, hWX⟩ : ∃ W, W = w15.setCell ⟨q, 5, none⟩ (.slice pX nL cX) := ⟨_, rfl⟩
      have TX : Ticks w g ((k : Int) + 1) WX := by rw [hWX]; exact P15.1.set7 q (by omega) 5 _
      have QX : WX.heap[q]? = some (.cells #[.string MB, .string CS, .string ID, .string LO, .int .i64 0, .slice pX nL cX, .slice none 0 0] 25) := by rw [hWX]; exact m_set Q15 5 _
      have RX : WX.heap[w.heap.size]? = some (.cells Z7 25) := by rw [hWX]; exact m_other P15.2.1 (by omega) 5 _
      have hsX : WX.heap.size = w15.heap.size := by rw [hWX]; exact set_sz _ _ _
      have HFX : Hid ((∀ a, pX = some a → q < a.block ∧ a.block < WX.heap.size) ∧ (pX = none → cX = 0)) := ⟨fun a ha => by have := hfr.1 a ha; omega, hfr.2⟩
      obtain ⟨BO, hBO⟩ : ∃ BO, L.drop bd = BO := ⟨_, rfl⟩
      have HNX : Hid (BO.length = nL) := by unfold Hid; rw [← hBO]; exact HLD.out.symm
      have HBX : Hid (BRow WX pX BO) := by
       unfold Hid
       rw [← hBO]
       exact BRow.move (Q := fun b => q < b) (fun b hb _ => by rw [hWX, Below.heap_setCell _ _ _ _ (by have hb' : q < b := hb; show b ≠ q; omega)]) hbX (fun a ha => by have := hfr.1 a ha; show q < a.block; omega)
      have hlX : nL ≤ cX ∧ cX ≤ maxLen := ⟨l1, l2⟩
      rw [hBO] at HRP
      clear c0 c1 c2 c3 c4 c5 c6 cfz r0 r1 r2 r3 r4 r5 r6 rf hbX hfr hBO
      obtain ⟨c0, c1, c2, c3, c4, c5, c6, cfz⟩ := m_cells Q15
      go_upto_region 41 with fail
      rw [← hWX]
      clear hWX c0 c1 c2 c3 c4 c5 c6 cfz P15 Q15
      obtain ⟨c0, c1, c2, c3, c4, c5, c6, cfz⟩ := m_cells QX
      obtain ⟨r0, r1, r2, r3, r4, r5, r6, rf⟩ := m_cells RX
      by_cases h4 : 4000 < nL
      ·have h4' : (4000 : Int) < (nL : Int) := by omega
       have HRE : Hid (RES = (2, pt0, k + 1)) := by
        have := HRP.out
        rw [if_pos h4] at this
        exact this
       clear HRP
       go_wp2
       rw [HRE.out]
       refine bodyPost_ret (v := .tuple #[.agg #[.string MB, .string CS, .string ID, .string LO, .int .i64 0, .slice pX nL cX, .slice none 0 0], .int .i64 2]) ?_ rfl (rPost_no (by rw [EK.out]; exact fill7_ticks TX (Nat.le_refl _) _ _ _ _ _ _ _) (by decide) _ _ _ _ _ _ _ _ _ _ _)
       rw [results_cell_tmp rfl]
       go_simp
      ·have h4' : ¬ (4000 : Int) < (nL : Int) := by omega
       have HRE : Hid (RES = (0, ⟨MB, CS, ID, LO, 0, BO, []⟩, k + 1)) := by
        have := HRP.out
        rw [if_neg h4] at this
        have h2 := HPTq.out (0 : Int) BO
        unfold Hid
        rw [← h2]
        exact this
       clear HRP
       go_wp2
       rw [HRE.out]
       refine bodyPost_ret (v := .tuple #[.agg #[.string MB, .string CS, .string ID, .string LO, .int .i64 0, .slice pX nL cX, .slice none 0 0], .int .i64 0]) ?_ rfl ⟨by rw [EK.out]; exact fill7_ticks TX (Nat.le_refl _) _ _ _ _ _ _ _, fun _ => ⟨pX, cX, none, 0, by simp only; rw [HNX.out]; rfl, ?_⟩, fun h => absurd rfl h⟩
       ·rw [results_cell_tmp rfl]
        go_simp
       ·obtain ⟨s2, s3, s4⟩ := HSZ.out
        obtain ⟨f1, f2⟩ := HFX.out
        have hin : InB (fun b => q < b ∧ b < WX.heap.size) pX := f1
        refine ⟨(fun a ha => ?_), ⟨HMBs.out, s4, s2, s3, by show _ ≤ (0 : Int); decide, by show (0 : Int) ≤ _; decide, by show BO.length ≤ _; rw [HNX.out]; omega, Nat.zero_le _⟩, ⟨by show BO.length ≤ cX; rw [HNX.out]; omega, hlX.2, f2⟩, BRow.move (fun b hb _ => ?_) HBX.out hin, ⟨Nat.le_refl _, by decide, fun _ => rfl⟩, KFar.nil _ _ _ _⟩
        ·have h : q < a.block ∧ a.block < WX.heap.size := f1 a ha
         rw [fill7_size]
         omega
        ·have hb' : q < b ∧ b < WX.heap.size := hb
         exact fill7_block _ _ _ _ _ _ _ _ _ b (by omega)
     ·rw [decide_eq_false q1] at e1
      by_cases q2 : T.data.toList = how0
      ·have hh : howOf T.data.toList = some 0 := by unfold howOf; rw [if_pos (.inr (.inr (.inl q2)))]
       rw [decide_eq_true q2] at e2
       clear e3 e4 e5 q0 q1 q2 hT0
       have hRS := HRS.out
       rw [hh] at hRS
       simp only at hRS
       rw [← HLD.out] at hRS
       have HRP : Hid (RES = _) := hRS
       clear hRS HRS HCV CBR CQR
       obtain ⟨W14, hW14⟩ : ∃ W, W = w13.alloc (.cells #[] 5) := ⟨_, rfl⟩
       have b14 : Below w13.heap.size w13 W14 := by rw [hW14]; exact (Below.refl _ _).alloc (Nat.le_refl _) _
       have own14 : W14.ownsRow w13.heap.size 5 1 (.slice (some ⟨w13.heap.size, 0, none⟩) 0 0) 0 [] := by
        rw [hW14]
        exact ⟨rfl, .inr ⟨w13.heap.size, 0, #[], rfl, Nat.le_refl _, m_new _ _, Nat.le_refl _, by decide, rfl, rfl⟩⟩
       have P14 := P13.below b14
       have Q14 := m_kept Q13 b14
       have hrow14 := HSP.out _ P14
       have hs14 := b14.size
       go_wp2_with (at_builtin; show wpList _ _ _ _ _ (w13.alloc (.cells #[] 5)); rw [← hW14]; go_loud (refine rb_append rfl (.tmp 149) (.tmp 150) rfl w13.heap.size _ _ _ rfl own14 qS (L.drop bd) nL dS HLD.out rfl hrow14 hs3 ?d1 ?d2 ?_))
       case d1 => omega
       case d2 => omega
       intro v15 w15 own15 grow15
       rw [← hW14] at grow15
       have hb15 : Below w13.heap.size w13 w15 := b14.grown grow15 hs14 (fun j hj => (own14.lt j hj).1)
       have P15 := P13.below hb15
       have Q15 := m_kept Q13 hb15
       have own15' : w15.ownsRow w13.heap.size 5 1 v15 (L.drop bd).length (bv (L.drop bd)) := by rw [← HLD.out]; simpa using own15
       obtain ⟨pX, cX, rfl, l1, l2, l3, hbX⟩ := owned_bytes own15'
       have hfr : FreshP w13 w15 pX cX := own_freshP own15' (Nat.le_refl _)
       rw [← HLD.out] at l1 l3
       simp only [← HLD.out]
       clear hW14 b14 own14 P14 Q14 hrow14 own15 own15' grow15 P13 Q13
       obtain ⟨WX, hWX⟩ : ∃ W, W = w15.setCell ⟨q, 5, none⟩ (.slice pX nL cX) := ⟨_, rfl⟩
       have TX : Ticks w g ((k : Int) + 1) WX := by rw [hWX]; exact P15.1.set7 q (by omega) 5 _
       have QX : WX.heap[q]? = some (.cells #[.string MB, .string CS, .string ID, .string LO, .int .i64 0, .slice pX nL cX, .slice none 0 0] 25) := by rw [hWX]; exact m_set Q15 5 _
       have RX : WX.heap[w.heap.size]? = some (.cells Z7 25) := by rw [hWX]; exact m_other P15.2.1 (by omega) 5 _
       have hsX : WX.heap.size = w15.heap.size := by rw [hWX]; exact set_sz _ _ _
       have HFX : Hid ((∀ a, pX = some a → q < a.block ∧ a.block < WX.heap.size) ∧ (pX = none → cX = 0)) := ⟨fun a ha => by have := hfr.1 a ha; omega, hfr.2⟩
       obtain ⟨BO, hBO⟩ : ∃ BO, L.drop bd = BO := ⟨_, rfl⟩
       have HNX : Hid (BO.length = nL) := by unfold Hid; rw [← hBO]; exact HLD.out.symm
       have HBX : Hid (BRow WX pX BO) := by
        unfold Hid
        rw [← hBO]
        exact BRow.move (Q := fun b => q < b) (fun b hb _ => by rw [hWX, Below.heap_setCell _ _ _ _ (by have hb' : q < b := hb; show b ≠ q; omega)]) hbX (fun a ha => by have := hfr.1 a ha; show q < a.block; omega)
       have hlX : nL ≤ cX ∧ cX ≤ maxLen := ⟨l1, l2⟩
       rw [hBO] at HRP
       clear c0 c1 c2 c3 c4 c5 c6 cfz r0 r1 r2 r3 r4 r5 r6 rf hbX hfr hBO
       obtain ⟨c0, c1, c2, c3, c4, c5, c6, cfz⟩ := m_cells Q15
       go_upto_region 41 with fail
       rw [← hWX]
       clear hWX c0 c1 c2 c3 c4 c5 c6 cfz P15 Q15
       obtain ⟨c0, c1, c2, c3, c4, c5, c6, cfz⟩ := m_cells QX
       obtain ⟨r0, r1, r2, r3, r4, r5, r6, rf⟩ := m_cells RX
       by_cases h4 : 4000 < nL
       ·have h4' : (4000 : Int) < (nL : Int) := by omega
        have HRE : Hid (RES = (2, pt0, k + 1)) := by
         have := HRP.out
         rw [if_pos h4] at this
         exact this
        clear HRP
        go_wp2
        rw [HRE.out]
        refine bodyPost_ret (v := .tuple #[.agg #[.string MB, .string CS, .string ID, .string LO, .int .i64 0, .slice pX nL cX, .slice none 0 0], .int .i64 2]) ?_ rfl (rPost_no (by rw [EK.out]; exact fill7_ticks TX (Nat.le_refl _) _ _ _ _ _ _ _) (by decide) _ _ _ _ _ _ _ _ _ _ _)
        rw [results_cell_tmp rfl]
        go_simp
       ·have h4' : ¬ (4000 : Int) < (nL : Int) := by omega
        have HRE : Hid (RES = (0, ⟨MB, CS, ID, LO, 0, BO, []⟩, k + 1)) := by
         have := HRP.out
         rw [if_neg h4] at this
         have h2 := HPTq.out (0 : Int) BO
         unfold Hid
         rw [← h2]
         exact this
        clear HRP
        go_wp2
        rw [HRE.out]
        refine bodyPost_ret (v := .tuple #[.agg #[.string MB, .string CS, .string ID, .string LO, .int .i64 0, .slice pX nL cX, .slice none 0 0], .int .i64 0]) ?_ rfl ⟨by rw [EK.out]; exact fill7_ticks TX (Nat.le_refl _) _ _ _ _ _ _ _, fun _ => ⟨pX, cX, none, 0, by simp only; rw [HNX.out]; rfl, ?_⟩, fun h => absurd rfl h⟩
        ·rw [results_cell_tmp rfl]
         go_simp
        ·obtain ⟨s2, s3, s4⟩ := HSZ.out
         obtain ⟨f1, f2⟩ := HFX.out
         have hin : InB (fun b => q < b ∧ b < WX.heap.size) pX := f1
         refine ⟨(fun a ha => ?_), ⟨HMBs.out, s4, s2, s3, by show _ ≤ (0 : Int); decide, by show (0 : Int) ≤ _; decide, by show BO.length ≤ _; rw [HNX.out]; omega, Nat.zero_le _⟩, ⟨by show BO.length ≤ cX; rw [HNX.out]; omega, hlX.2, f2⟩, BRow.move (fun b hb _ => ?_) HBX.out hin, ⟨Nat.le_refl _, by decide, fun _ => rfl⟩, KFar.nil _ _ _ _⟩
         ·have h : q < a.block ∧ a.block < WX.heap.size := f1 a ha
          rw [fill7_size]
          omega
         ·have hb' : q < b ∧ b < WX.heap.size := hb
          exact fill7_block _ _ _ _ _ _ _ _ _ b (by omega)
      ·rw [decide_eq_false q2] at e2
       by_cases q3 : T.data.toList = binS
       ·have hh : howOf T.data.toList = some 0 := by unfold howOf; rw [if_pos (.inr (.inr (.inr q3)))]
        rw [decide_eq_true q3] at e3
        clear e4 e5 q0 q1 q2 q3 hT0
        have hRS := HRS.out
        rw [hh] at hRS
        simp only at hRS
        rw [← HLD.out] at hRS
        have HRP : Hid (RES = _) := hRS
        clear hRS HRS HCV CBR CQR
        obtain ⟨W14, hW14⟩ : ∃ W, W = w13.alloc (.cells #[] 5) := ⟨_, rfl⟩
        have b14 : Below w13.heap.size w13 W14 := by rw [hW14]; exact (Below.refl _ _).alloc (Nat.le_refl _) _
        have own14 : W14.ownsRow w13.heap.size 5 1 (.slice (some ⟨w13.heap.size, 0, none⟩) 0 0) 0 [] := by
         rw [hW14]
         exact ⟨rfl, .inr ⟨w13.heap.size, 0, #[], rfl, Nat.le_refl _, m_new _ _, Nat.le_refl _, by decide, rfl, rfl⟩⟩
        have P14 := P13.below b14
        have Q14 := m_kept Q13 b14
        have hrow14 := HSP.out _ P14
        have hs14 := b14.size
        go_wp2_with (at_builtin; show wpList _ _ _ _ _ (w13.alloc (.cells #[] 5)); rw [← hW14]; go_loud (refine rb_append rfl (.tmp 149) (.tmp 150) rfl w13.heap.size _ _ _ rfl own14 qS (L.drop bd) nL dS HLD.out rfl hrow14 hs3 ?d1 ?d2 ?_))
        case d1 => omega
        case d2 => omega
        intro v15 w15 own15 grow15
        rw [← hW14] at grow15
        have hb15 : Below w13.heap.size w13 w15 := b14.grown grow15 hs14 (fun j hj => (own14.lt j hj).1)
        have P15 := P13.below hb15
        have Q15 := m_kept Q13 hb15
        have own15' : w15.ownsRow w13.heap.size 5 1 v15 (L.drop bd).length (bv (L.drop bd)) := by rw [← HLD.out]; simpa using own15
        obtain ⟨pX, cX, rfl, l1, l2, l3, hbX⟩ := owned_bytes own15'
        have hfr : FreshP w13 w15 pX cX := own_freshP own15' (Nat.le_refl _)
        rw [← HLD.out] at l1 l3
        simp only [← HLD.out]
        clear hW14 b14 own14 P14 Q14 hrow14 own15 own15' grow15 P13 Q13
        obtain ⟨WX, hWX⟩ : ∃ W, W = w15.setCell ⟨q, 5, none⟩ (.slice pX nL cX) := ⟨_, rfl⟩
        have TX : Ticks w g ((k : Int) + 1) WX := by rw [hWX]; exact P15.1.set7 q (by omega) 5 _
        have QX : WX.heap[q]? = some (.cells #[.string MB, .string CS, .string ID, .string LO, .int .i64 0, .slice pX nL cX, .slice none 0 0] 25) := by rw [hWX]; exact m_set Q15 5 _
        have RX : WX.heap[w.heap.size]? = some (.cells Z7 25) := by rw [hWX]; exact m_other P15.2.1 (by omega) 5 _
        have hsX : WX.heap.size = w15.heap.size := by rw [hWX]; exact set_sz _ _ _
        have HFX : Hid ((∀ a, pX = some a → q < a.block ∧ a.block < WX.heap.size) ∧ (pX = none → cX = 0)) := ⟨fun a ha => by have := hfr.1 a ha; omega, hfr.2⟩
        obtain ⟨BO, hBO⟩ : ∃ BO, L.drop bd = BO := ⟨_, rfl⟩
        have HNX : Hid (BO.length = nL) := by unfold Hid; rw [← hBO]; exact HLD.out.symm
        have HBX : Hid (BRow WX pX BO) := by
         unfold Hid
         rw [← hBO]
         exact BRow.move (Q := fun b => q < b) (fun b hb _ => by rw [hWX, Below.heap_setCell _ _ _ _ (by have hb' : q < b := hb; show b ≠ q; omega)]) hbX (fun a ha => by have := hfr.1 a ha; show q < a.block; omega)
        have hlX : nL ≤ cX ∧ cX ≤ maxLen := ⟨l1, l2⟩
        rw [hBO] at HRP
        clear c0 c1 c2 c3 c4 c5 c6 cfz r0 r1 r2 r3 r4 r5 r6 rf hbX hfr hBO
        obtain ⟨c0, c1, c2, c3, c4, c5, c6, cfz⟩ := m_cells Q15
        go_upto_region 41 with fail
        rw [← hWX]
        clear hWX c0 c1 c2 c3 c4 c5 c6 cfz P15 Q15
        obtain ⟨c0, c1, c2, c3, c4, c5, c6, cfz⟩ := m_cells QX
        obtain ⟨r0, r1, r2, r3, r4, r5, r6, rf⟩ := m_cells RX
        by_cases h4 : 4000 < nL
        ·have h4' : (4000 : Int) < (nL : Int) := by omega
         have HRE : Hid (RES = (2, pt0, k + 1)) := by
          have := HRP.out
          rw [if_pos h4] at this
          exact this
         clear HRP
         go_wp2
         rw [HRE.out]
         refine bodyPost_ret (v := .tuple #[.agg #[.string MB, .string CS, .string ID, .string LO, .int .i64 0, .slice pX nL cX, .slice none 0 0], .int .i64 2]) ?_ rfl (rPost_no (by rw [EK.out]; exact fill7_ticks TX (Nat.le_refl _) _ _ _ _ _ _ _) (by decide) _ _ _ _ _ _ _ _ _ _ _)
         rw [results_cell_tmp rfl]
         go_simp
        ·have h4' : ¬ (4000 : Int) < (nL : Int) := by omega
         have HRE : Hid (RES = (0, ⟨MB, CS, ID, LO, 0, BO, []⟩, k + 1)) := by
          have := HRP.out
          rw [if_neg h4] at this
          have h2 := HPTq.out (0 : Int) BO
          unfold Hid
          rw [← h2]
          exact this
         clear HRP
         go_wp2
         rw [HRE.out]
         refine bodyPost_ret (v := .tuple #[.agg #[.string MB, .string CS, .string ID, .string LO, .int .i64 0, .slice pX nL cX, .slice none 0 0], .int .i64 0]) ?_ rfl ⟨by rw [EK.out]; exact fill7_ticks TX (Nat.le_refl _) _ _ _ _ _ _ _, fun _ => ⟨pX, cX, none, 0, by simp only; rw [HNX.out]; rfl, ?_⟩, fun h => absurd rfl h⟩
         ·rw [results_cell_tmp rfl]
          go_simp
         ·obtain ⟨s2, s3, s4⟩ := HSZ.out
          obtain ⟨f1, f2⟩ := HFX.out
          have hin : InB (fun b => q < b ∧ b < WX.heap.size) pX := f1
          refine ⟨(fun a ha => ?_), ⟨HMBs.out, s4, s2, s3, by show _ ≤ (0 : Int); decide, by show (0 : Int) ≤ _; decide, by show BO.length ≤ _; rw [HNX.out]; omega, Nat.zero_le _⟩, ⟨by show BO.length ≤ cX; rw [HNX.out]; omega, hlX.2, f2⟩, BRow.move (fun b hb _ => ?_) HBX.out hin, ⟨Nat.le_refl _, by decide, fun _ => rfl⟩, KFar.nil _ _ _ _⟩
          ·have h : q < a.block ∧ a.block < WX.heap.size := f1 a ha
           rw [fill7_size]
           omega
          ·have hb' : q < b ∧ b < WX.heap.size := hb
           exact fill7_block _ _ _ _ _ _ _ _ _ b (by omega)
       ·rw [decide_eq_false q3] at e3
        by_cases q4 : T.data.toList = how1
        ·have hh : howOf T.data.toList = some 1 := by unfold howOf; rw [if_neg (by rintro (a | a | a | a) <;> contradiction), if_pos q4]
         rw [decide_eq_true q4] at e4
         clear e5 q0 q1 q2 q3 q4 hT0
         have hRS := HRS.out
         rw [hh] at hRS
         simp only at hRS
         have HRP : Hid (RES = _) := hRS
         clear hRS HRS
         obtain ⟨W14, hW14⟩ : ∃ W, W = w13.setCell ⟨q, 4, none⟩ (.int .i64 1) := ⟨_, rfl⟩
         have P14 : In8 w g ((k : Int) + 1) W14 := by rw [hW14]; exact ⟨P13.1.set7 q (by omega) 4 _, m_other P13.2.1 (by omega) 4 _, m_other P13.2.2 (by omega) 4 _⟩
         have Q14 : W14.heap[q]? = some (.cells #[.string MB, .string CS, .string ID, .string LO, .int .i64 1, .slice none 0 0, .slice none 0 0] 25) := by rw [hW14]; exact m_set Q13 4 _
         have hq14 : q < W14.heap.size := (Array.getElem?_eq_some_iff.1 Q14).1
         have hcv14 := HCV.out _ P14
         obtain ⟨RD, hRD⟩ : ∃ RD, readS (L.drop bd) = RD := ⟨_, rfl⟩
         have CR : Hid (Calls Tryz.prog 47 #[.string ⟨(L.drop bd).toArray⟩] W14 fun e w' => ReadPostN W14 RD e w') := by
          unfold Hid
          rw [← hRD]
          exact CBR.out _ P14
         rw [hRD] at HRP
         clear hRD HCV CBR CQR
         obtain ⟨SB, hSB⟩ : ∃ SB : ByteArray, (⟨(L.drop bd).toArray⟩ : ByteArray) = SB := ⟨_, rfl⟩
         rw [hSB] at hcv14 CR
         clear hSB
         obtain ⟨BO, e3'⟩ := RD
         simp only at HRP
         go_upto_region 45 with fail
         rw [← hW14]
         clear hW14 c0 c1 c2 c3 c4 c5 c6 cfz r0 r1 r2 r3 r4 r5 r6 rf P13 Q13
         go_wp2_with fail
         refine CR.out.mono ?_
         rintro e w15 ⟨hb15, pX, cX, rfl, l1, l2, hbX, hfr⟩
         simp only at l1 hbX ⊢
         have P15 := P14.below hb15
         have Q15 := m_kept Q14 hb15
         clear CR hcv14 hb15 P14 Q14
         obtain ⟨nX, hnX⟩ : ∃ nX, BO.length = nX := ⟨_, rfl⟩
         rw [hnX] at l1
         simp only [hnX]
         have HNX : Hid (BO.length = nX) := hnX
         obtain ⟨WX, hWX⟩ : ∃ W, W = w15.setCell ⟨q, 5, none⟩ (.slice pX nX cX) := ⟨_, rfl⟩
         have TX : Ticks w g ((k : Int) + 1) WX := by rw [hWX]; exact P15.1.set7 q (by omega) 5 _
         have QX : WX.heap[q]? = some (.cells #[.string MB, .string CS, .string ID, .string LO, .int .i64 1, .slice pX nX cX, .slice none 0 0] 25) := by rw [hWX]; exact m_set Q15 5 _
         have RX : WX.heap[w.heap.size]? = some (.cells Z7 25) := by rw [hWX]; exact m_other P15.2.1 (by omega) 5 _
         have hsX : WX.heap.size = w15.heap.size := by rw [hWX]; exact set_sz _ _ _
         have HFX : Hid ((∀ a, pX = some a → q < a.block ∧ a.block < WX.heap.size) ∧ (pX = none → cX = 0)) := ⟨fun a ha => by have := hfr.1 a ha; omega, hfr.2⟩
         have HBX : Hid (BRow WX pX BO) := BRow.move (Q := fun b => q < b) (fun b hb _ => by rw [hWX, Below.heap_setCell _ _ _ _ (by have hb' : q < b := hb; show b ≠ q; omega)]) hbX (fun a ha => by have := hfr.1 a ha; show q < a.block; omega)
         have hlX : nX ≤ cX ∧ cX ≤ maxLen := ⟨l1, l2⟩
         obtain ⟨c0, c1, c2, c3, c4, c5, c6, cfz⟩ := m_cells Q15
         clear hbX hfr hnX
         go_upto_region 49 with fail
         rw [← hWX]
         clear hWX c0 c1 c2 c3 c4 c5 c6 cfz P15 Q15
         obtain ⟨c0, c1, c2, c3, c4, c5, c6, cfz⟩ := m_cells QX
         obtain ⟨r0, r1, r2, r3, r4, r5, r6, rf⟩ := m_cells RX
         by_cases he3 : e3' = 0
         ·subst he3
          have HRE : Hid (RES = (0, ⟨MB, CS, ID, LO, 1, BO, []⟩, k + 1)) := by
           have := HRP.out
           rw [if_neg (by simp)] at this
           have h2 := HPTq.out (1 : Int) BO
           unfold Hid
           rw [← h2]
           exact this
          clear HRP
          go_wp2
          rw [HRE.out]
          refine bodyPost_ret (v := .tuple #[.agg #[.string MB, .string CS, .string ID, .string LO, .int .i64 1, .slice pX nX cX, .slice none 0 0], .int .i64 0]) ?_ rfl ⟨by rw [EK.out]; exact fill7_ticks TX (Nat.le_refl _) _ _ _ _ _ _ _, fun _ => ⟨pX, cX, none, 0, by simp only; rw [HNX.out]; rfl, ?_⟩, fun h => absurd rfl h⟩
          ·rw [results_cell_tmp rfl]
           go_simp
          ·obtain ⟨s2, s3, s4⟩ := HSZ.out
           obtain ⟨f1, f2⟩ := HFX.out
           have hin : InB (fun b => q < b ∧ b < WX.heap.size) pX := f1
           refine ⟨(fun a ha => ?_), ⟨HMBs.out, s4, s2, s3, by show _ ≤ (1 : Int); decide, by show (1 : Int) ≤ _; decide, by show BO.length ≤ _; rw [HNX.out]; omega, Nat.zero_le _⟩, ⟨by show BO.length ≤ cX; rw [HNX.out]; omega, hlX.2, f2⟩, BRow.move (fun b hb _ => ?_) HBX.out hin, ⟨Nat.le_refl _, by decide, fun _ => rfl⟩, KFar.nil _ _ _ _⟩
           ·have h : q < a.block ∧ a.block < WX.heap.size := f1 a ha
            rw [fill7_size]
            omega
           ·have hb' : q < b ∧ b < WX.heap.size := hb
            exact fill7_block _ _ _ _ _ _ _ _ _ b (by omega)
         ·have HRE : Hid (RES = (e3', pt0, k + 1)) := by
           have := HRP.out
           rw [if_pos he3] at this
           exact this
          clear HRP
          go_wp2
          rw [HRE.out]
          refine bodyPost_ret (v := .tuple #[.agg #[.string MB, .string CS, .string ID, .string LO, .int .i64 1, .slice pX nX cX, .slice none 0 0], .int .i64 (e3' : Int)]) ?_ rfl (rPost_no (by rw [EK.out]; exact fill7_ticks TX (Nat.le_refl _) _ _ _ _ _ _ _) he3 _ _ _ _ _ _ _ _ _ _ _)
          rw [results_cell_tmp rfl]
          go_simp
        ·rw [decide_eq_false q4] at e4
         by_cases q5 : T.data.toList = how2
         ·have hh : howOf T.data.toList = some 2 := by unfold howOf; rw [if_neg (by rintro (a | a | a | a) <;> contradiction), if_neg q4, if_pos q5]
          rw [decide_eq_true q5] at e5
          clear q0 q1 q2 q3 q4 q5 hT0
          have hRS := HRS.out
          rw [hh] at hRS
          simp only at hRS
          have HRP : Hid (RES = _) := hRS
          clear hRS HRS
          obtain ⟨W14, hW14⟩ : ∃ W, W = w13.setCell ⟨q, 4, none⟩ (.int .i64 2) := ⟨_, rfl⟩
          have P14 : In8 w g ((k : Int) + 1) W14 := by rw [hW14]; exact ⟨P13.1.set7 q (by omega) 4 _, m_other P13.2.1 (by omega) 4 _, m_other P13.2.2 (by omega) 4 _⟩
          have Q14 : W14.heap[q]? = some (.cells #[.string MB, .string CS, .string ID, .string LO, .int .i64 2, .slice none 0 0, .slice none 0 0] 25) := by rw [hW14]; exact m_set Q13 4 _
          have hq14 : q < W14.heap.size := (Array.getElem?_eq_some_iff.1 Q14).1
          have hcv14 := HCV.out _ P14
          obtain ⟨RD, hRD⟩ : ∃ RD, readQ (L.drop bd) = RD := ⟨_, rfl⟩
          have CR : Hid (Calls Tryz.prog 48 #[.string ⟨(L.drop bd).toArray⟩] W14 fun e w' => ReadPostN W14 RD e w') := by
           unfold Hid
           rw [← hRD]
           exact CQR.out _ P14
          rw [hRD] at HRP
          clear hRD HCV CBR CQR
          obtain ⟨SB, hSB⟩ : ∃ SB : ByteArray, (⟨(L.drop bd).toArray⟩ : ByteArray) = SB := ⟨_, rfl⟩
          rw [hSB] at hcv14 CR
          clear hSB
          obtain ⟨BO, e3'⟩ := RD
          simp only at HRP
          go_upto_region 48 with fail
          rw [← hW14]
          clear hW14 c0 c1 c2 c3 c4 c5 c6 cfz r0 r1 r2 r3 r4 r5 r6 rf P13 Q13
          go_wp2_with fail
          refine CR.out.mono ?_
          rintro e w15 ⟨hb15, pX, cX, rfl, l1, l2, hbX, hfr⟩
          simp only at l1 hbX ⊢
          have P15 := P14.below hb15
          have Q15 := m_kept Q14 hb15
          clear CR hcv14 hb15 P14 Q14
          obtain ⟨nX, hnX⟩ : ∃ nX, BO.length = nX := ⟨_, rfl⟩
          rw [hnX] at l1
          simp only [hnX]
          have HNX : Hid (BO.length = nX) := hnX
          obtain ⟨WX, hWX⟩ : ∃ W, W = w15.setCell ⟨q, 5, none⟩ (.slice pX nX cX) := ⟨_, rfl⟩
          have TX : Ticks w g ((k : Int) + 1) WX := by rw [hWX]; exact P15.1.set7 q (by omega) 5 _
          have QX : WX.heap[q]? = some (.cells #[.string MB, .string CS, .string ID, .string LO, .int .i64 2, .slice pX nX cX, .slice none 0 0] 25) := by rw [hWX]; exact m_set Q15 5 _
          have RX : WX.heap[w.heap.size]? = some (.cells Z7 25) := by rw [hWX]; exact m_other P15.2.1 (by omega) 5 _
          have hsX : WX.heap.size = w15.heap.size := by rw [hWX]; exact set_sz _ _ _
          have HFX : Hid ((∀ a, pX = some a → q < a.block ∧ a.block < WX.heap.size) ∧ (pX = none → cX = 0)) := ⟨fun a ha => by have := hfr.1 a ha; omega, hfr.2⟩
          have HBX : Hid (BRow WX pX BO) := BRow.move (Q := fun b => q < b) (fun b hb _ => by rw [hWX, Below.heap_setCell _ _ _ _ (by have hb' : q < b := hb; show b ≠ q; omega)]) hbX (fun a ha => by have := hfr.1 a ha; show q < a.block; omega)
          have hlX : nX ≤ cX ∧ cX ≤ maxLen := ⟨l1, l2⟩
          obtain ⟨c0, c1, c2, c3, c4, c5, c6, cfz⟩ := m_cells Q15
          clear hbX hfr hnX
          go_upto_region 49 with fail
          rw [← hWX]
          clear hWX c0 c1 c2 c3 c4 c5 c6 cfz P15 Q15
          obtain ⟨c0, c1, c2, c3, c4, c5, c6, cfz⟩ := m_cells QX
          obtain ⟨r0, r1, r2, r3, r4, r5, r6, rf⟩ := m_cells RX
          by_cases he3 : e3' = 0
          ·subst he3
           have HRE : Hid (RES = (0, ⟨MB, CS, ID, LO, 2, BO, []⟩, k + 1)) := by
            have := HRP.out
            rw [if_neg (by simp)] at this
            have h2 := HPTq.out (2 : Int) BO
            unfold Hid
            rw [← h2]
            exact this
           clear HRP
           go_wp2
           rw [HRE.out]
           refine bodyPost_ret (v := .tuple #[.agg #[.string MB, .string CS, .string ID, .string LO, .int .i64 2, .slice pX nX cX, .slice none 0 0], .int .i64 0]) ?_ rfl ⟨by rw [EK.out]; exact fill7_ticks TX (Nat.le_refl _) _ _ _ _ _ _ _, fun _ => ⟨pX, cX, none, 0, by simp only; rw [HNX.out]; rfl, ?_⟩, fun h => absurd rfl h⟩
           ·rw [results_cell_tmp rfl]
            go_simp
           ·obtain ⟨s2, s3, s4⟩ := HSZ.out
            obtain ⟨f1, f2⟩ := HFX.out
            have hin : InB (fun b => q < b ∧ b < WX.heap.size) pX := f1
            refine ⟨(fun a ha => ?_), ⟨HMBs.out, s4, s2, s3, by show _ ≤ (2 : Int); decide, by show (2 : Int) ≤ _; decide, by show BO.length ≤ _; rw [HNX.out]; omega, Nat.zero_le _⟩, ⟨by show BO.length ≤ cX; rw [HNX.out]; omega, hlX.2, f2⟩, BRow.move (fun b hb _ => ?_) HBX.out hin, ⟨Nat.le_refl _, by decide, fun _ => rfl⟩, KFar.nil _ _ _ _⟩
            ·have h : q < a.block ∧ a.block < WX.heap.size := f1 a ha
             rw [fill7_size]
             omega
            ·have hb' : q < b ∧ b < WX.heap.size := hb
             exact fill7_block _ _ _ _ _ _ _ _ _ b (by omega)
          ·have HRE : Hid (RES = (e3', pt0, k + 1)) := by
            have := HRP.out
            rw [if_pos he3] at this
            exact this
           clear HRP
           go_wp2
           rw [HRE.out]
           refine bodyPost_ret (v := .tuple #[.agg #[.string MB, .string CS, .string ID, .string LO, .int .i64 2, .slice pX nX cX, .slice none 0 0], .int .i64 (e3' : Int)]) ?_ rfl (rPost_no (by rw [EK.out]; exact fill7_ticks TX (Nat.le_refl _) _ _ _ _ _ _ _) he3 _ _ _ _ _ _ _ _ _ _ _)
           rw [results_cell_tmp rfl]
           go_simp
         ·have hh : howOf T.data.toList = none := by unfold howOf; rw [if_neg (by rintro (a | a | a | a) <;> contradiction), if_neg q4, if_neg q5]
          rw [decide_eq_false q5] at e5
          clear q0 q1 q2 q3 q4 q5 hT0
          have hRS := HRS.out
          rw [hh] at hRS
          simp only at hRS
          have HRE : Hid (RES = (4, pt0, k + 1)) := hRS
          clear hRS HRS HCV CBR CQR
          have TX := P13.1
          go_wp2
          rw [HRE.out]
          refine bodyPost_ret (v := .tuple #[.agg #[.string MB, .string CS, .string ID, .string LO, .int .i64 0, .slice none 0 0, .slice none 0 0], .int .i64 4]) ?_ rfl (rPost_no (by rw [EK.out]; exact fill7_ticks TX (Nat.le_refl _) _ _ _ _ _ _ _) (by decide) _ _ _ _ _ _ _ _ _ _ _)
          rw [results_cell_tmp rfl]
          go_simp
  ·have hz1 : ¬ (e2 : Int) = 0 := by omega
   have hz2 : ((e2 : Int) == 0) = false := by rw [beq_eq_false_iff_ne]; exact hz1
   obtain ⟨r0, r1, r2, r3, r4, r5, r6, rf⟩ := m_cells P4.2.1
   obtain ⟨y0, y1, y2, y3, y4, y5, y6, yf⟩ := m_cells P4.2.2
   go_wp2
   have hres : RES = (e2, pt0, k + 1) := by
    rw [← HRES.out, readP, if_neg h12, HPA.out, if_neg (by simp)]
    simp only
    rw [HKD.out, HPP.out, if_pos he2]
   rw [hres]
   refine bodyPost_ret (v := .tuple #[.agg Z7, .int .i64 (e2 : Int)]) ?_ rfl (rPost_no (by rw [EK.out]; exact fill7_ticks P4.1 (Nat.le_refl _) _ _ _ _ _ _ _) he2 _ _ _ _ _ _ _ _ _ _ _)
   rw [results_cell_tmp rfl]
   go_simp
 ·have hz1 : ¬ (e1 : Int) = 0 := by omega
  have hz2 : ((e1 : Int) == 0) = false := by rw [beq_eq_false_iff_ne]; exact hz1
  obtain ⟨r0, r1, r2, r3, r4, r5, r6, rf⟩ := m_cells P2.2.1
  obtain ⟨y0, y1, y2, y3, y4, y5, y6, yf⟩ := m_cells P2.2.2
  go_wp2
  have hres : RES = (e1, pt0, k + 1) := by
   rw [← HRES.out, readP, if_neg h12, HPA.out, if_pos he1]
  rw [hres]
  refine bodyPost_ret (v := .tuple #[.agg Z7, .int .i64 (e1 : Int)]) ?_ rfl (rPost_no (by rw [EK.out]; exact fill7_ticks P2.1 (Nat.le_refl _) _ _ _ _ _ _ _) he1 _ _ _ _ _ _ _ _ _ _ _)
  rw [results_cell_tmp rfl]
  go_simp
theorem rb_any (w0 : World) (hE : MEnv w0) : ∀ f, ReadR w0 f
 | 0 => fun p n c _ d g g3 k w _ hd _ _ hC _ _ _ _ _ _ _ hk => by
  rw [readP]
  exact rb_many p n c d g g3 k w hC hk (.inr (by omega)) 0 pt0
 | f + 1 => rb_step w0 hE f (rb_any w0 hE f)
end Go.Proofs.YtlndhdimamnnlaaGreatDoor

