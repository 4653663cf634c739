
import Derived.Test.YtbbfcbodhmeanaaGreatDoorXrewritenone32
namespace Go.Proofs.YtbbfcbodhmeanaaGreatDoor
open Go.RowKit
theorem nv_set2:∀ (R:List NM) (i:Nat) (a:Int) (b:ByteArray),i < R.length→((nv R).set (i * 2) (.int .i64 a)).set (i * 2 + 1) (.string b) = nv (R.set i (a,b))
 | [],i,_,_,h=>by simp at h
 | f::R,0,a,b,_=>by simp [nv]
 | f::R,i + 1,a,b,h=>by
  rw [show nv (f::R) = Value.int .i64 f.1::Value.string f.2::nv R from rfl,show (i + 1) * 2 = i * 2 + 2 from by omega]
  simp only [List.set_cons_succ,show i * 2 + 2 + 1 = i * 2 + 1 + 2 from by omega]
  rw [nv_set2 R i a b (by simpa using h)]
  rfl
theorem nv_take (R:List NM):∀ i,(nv R).take (i * 2) = nv (R.take i):=by
 induction R with
 | nil=>intro i;simp [nv]
 | cons f R ih =>
  intro i
  match i with
  | 0=>simp [nv]
  | i + 1 =>
   rw [show nv (f::R) = Value.int .i64 f.1::Value.string f.2::nv R from rfl,show (i + 1) * 2 = i * 2 + 1 + 1 from by omega,List.take_succ_cons,List.take_succ_cons,ih,List.take_succ_cons]
   rfl
theorem nkept_snoc (gs:List GL) (l:List NM) (f:NM):nkept gs (l ++ [f]) = nkept gs l ++ (if leadsTo gs f.1 = true then [] else [f]):=by
 unfold nkept
 rw [List.filter_append]
 by_cases h:leadsTo gs f.1 = true <;> simp [h]
theorem ntake_getD (l:List NM) (k:Nat) (h:k < l.length):l.take (k + 1) = l.take k ++ [l.getD k nm0]:=by
 rw [List.take_add_one,List.getElem?_eq_getElem h]
 simp [List.getD_eq_getElem?_getD,List.getElem?_eq_getElem h]
theorem nkept_all (gs:List GL) (l:List NM) (h:∀ f ∈ l,leadsTo gs f.1 = false):nkept gs l = l:=by
 unfold nkept
 rw [List.filter_eq_self]
 intro f hf
 simp [h f hf]
structure NKept (gs:List GL) (l:List NM) (i j:Nat) (R:List NM):Prop where
 lt:i < j
 le:j≤l.length
 len:R.length = l.length
 ahead:R.take i = nkept gs (l.take j)
 many:i = (nkept gs (l.take j)).length
 behind:R.drop j = l.drop j
theorem NKept.at_ {gs:List GL} {l:List NM} {i j:Nat} {R:List NM} (h:NKept gs l i j R) (hj:j < l.length):R.getD j nm0 = l.getD j nm0:=by
 have:=h.behind
 rw [nv_at R j (by rw [h.len];exact hj),nv_at l j hj] at this
 exact (List.cons.inj this).1
theorem NKept.drops {gs:List GL} {l:List NM} {i j:Nat} {R:List NM} (h:NKept gs l i j R) (hj:j < l.length) (hs:leadsTo gs (l.getD j nm0).1 = true):NKept gs l i (j + 1) R:=by
 have hk:nkept gs (l.take (j + 1)) = nkept gs (l.take j):=by rw [ntake_getD l j hj,nkept_snoc,if_pos hs,List.append_nil]
 refine ⟨by have:=h.lt;omega,by omega,h.len,by rw [hk];exact h.ahead,by rw [hk];exact h.many,?_⟩
 have:=h.behind
 rw [nv_at R j (by rw [h.len];exact hj),nv_at l j hj] at this
 exact (List.cons.inj this).2
theorem NKept.keeps {gs:List GL} {l:List NM} {i j:Nat} {R:List NM} (h:NKept gs l i j R) (hj:j < l.length) (hs:leadsTo gs (l.getD j nm0).1 = false):NKept gs l (i + 1) (j + 1) (R.set i (l.getD j nm0)):=by
 have hlt:=h.lt
 have hk:nkept gs (l.take (j + 1)) = nkept gs (l.take j) ++ [l.getD j nm0]:=by rw [ntake_getD l j hj,nkept_snoc,if_neg (by rw [hs];decide)]
 refine ⟨by omega,by omega,by rw [List.length_set];exact h.len,?_,?_,?_⟩
 ·rw [hk,← h.ahead,List.take_add_one,List.getElem?_set_self (by rw [h.len];omega),List.take_set_of_le (Nat.le_refl _)]
  rfl
 ·rw [hk,List.length_append,← h.many];rfl
 ·rw [List.drop_set_of_lt (by omega)]
  have:=h.behind
  rw [nv_at R j (by rw [h.len];exact hj),nv_at l j hj] at this
  exact (List.cons.inj this).2
set_option maxHeartbeats 4000000 in
theorem ndelete_some (B g : Nat) (gs : List GL) (i0 sb n c1 : Nat) (l : List NM) (en : n = l.length) (w : World) (hn : n ≤ 10000000000000) (hg : ∀ W, Below B w W → AskAt W g gs) (hB : B ≤ w.heap.size)
    (hi0 : i0 < n) (hi1 : ∀ j, j < i0 → leadsTo gs (l.getD j nm0).1 = false) (hi2 : leadsTo gs (l.getD i0 nm0).1 = true) (hown : w.ownsRow B 56 2 (.slice (some ⟨sb, 0, none⟩) n c1) n (nv l)) :
    Calls Tryz.prog 28 #[.slice (some ⟨sb, 0, none⟩) n c1, .func (Fn.func 30) #[] #[.pointer (some ⟨g, 0, none⟩)]] w fun e w' => Below B w w' ∧ ∃ v', e = .returned v' ∧ w'.ownsRow B 56 2 v' (nkept gs l).length (nv (nkept gs l)) := by
  have hownL := hown
  rw [en] at hownL
  obtain ⟨p0, c0, hv0, hcn, hcm, _, hob, _, hfr⟩ := owned_names hownL
  obtain ⟨hp0, hc0⟩ : p0 = some ⟨sb, 0, none⟩ ∧ c0 = c1 := by injection hv0 with h1 h2 h3; exact ⟨h1.symm, h3.symm⟩
  subst hp0 hc0
  rw [← en] at hcn
  obtain ⟨b', o', he', hcell⟩ := hfr (fun e => by rw [e] at en; simp at en; omega)
  obtain ⟨rfl, rfl⟩ : b' = sb ∧ o' = 0 := by injection he' with he'; injection he' with h1 h2; exact ⟨h1.symm, h2.symm⟩
  rw [← en] at hcell
  have hgsB : B ≤ b' ∧ b' < w.heap.size := by rcases hown.2 with ⟨h', _⟩ | ⟨g', cap', cur, h', hb, hh, _⟩
                                              · simp at h'
                                              · have e1 : b' = g' := by injection h' with h1; injection h1 with h1; injection h1
                                                subst e1
                                                exact ⟨hb, (Array.getElem?_eq_some_iff.1 hh).1⟩
  have CI : Hid (Calls Tryz.prog 36 #[.slice (some ⟨b', 0, none⟩) n c0, .func (Fn.func 30) #[] #[.pointer (some ⟨g, 0, none⟩)]] w fun e w' => e = .returned (.int .i64 (i0 : Int)) ∧ Below w.heap.size w w') :=
    nfind_some g gs (i0 : Int) b' 0 n c0 l en w (by omega) hn (fun W h => hg W (h.mono hB)) (fun j hj h => hi1 j (by omega)) (fun j hj h => (show j = i0 by omega) ▸ hi2) (by omega) (by omega) hcell
  have HK0 : Hid (NKept gs l i0 (i0 + 1) l) := by
    have hk0 : nkept gs (l.take (i0 + 1)) = l.take i0 := by
      rw [ntake_getD l i0 (by omega), nkept_snoc, if_pos hi2, List.append_nil]
      refine nkept_all gs _ (fun f hf => ?_)
      obtain ⟨j, hj, rfl⟩ := List.getElem_of_mem hf
      rw [List.length_take] at hj
      have := hi1 j (by omega)
      rw [List.getElem_take]
      simpa [List.getD_eq_getElem?_getD, List.getElem?_eq_getElem (show j < l.length by omega)] using this
    exact ⟨by omega, by omega, rfl, hk0.symm, by rw [hk0, List.length_take]; omega, rfl⟩
  have HG : Hid (∀ w', Below B w w' → AskAt w' g gs) := hg
  have EN : Hid (n = l.length) := en
  clear hownL hfr hcell he' hv0 hg hi1 hi2 hob en
  have hne : ((i0 : Int) == -1) = false := by rw [beq_eq_false_iff_ne]; omega
  have HOW : Hid (w.ownsRow B 56 2 (.slice (some ⟨b', 0, none⟩) n c0) n (nv l)) := hown
  clear hown
  go_enter Tryz.func28, Tryz.ntmps28
  go_wp2_with fail
  refine CI.out.mono ?_
  rintro e w1 ⟨rfl, hb1⟩
  clear CI
  have hown1 := ownsRow_below HOW.out hb1
  clear HOW
  go_wp2
  go_loopw [5, 6] (fun iv jv wr => ∃ (i j : Nat) (R : List NM), iv = .int .i64 i ∧ jv = .int .i64 j ∧ j ≤ n ∧ wr.ownsRow B 56 2 (.slice (some ⟨b', 0, none⟩) n c0) n (nv R) ∧ Below B w wr ∧ Hid (NKept gs l i j R)) (fun _ jv _ => n - (intOf jv).toNat)
  case atStart => exact ⟨i0, i0 + 1, l, rfl, by go_num, by omega, hown1, hb1.mono hB, HK0⟩
  case round =>
    obtain ⟨i, j, R, rfl, rfl, hjn, hown, hbel, HK⟩ := hrel
    clear hown1 hb1 hne
    have hsz := hbel.size
    have hij := HK.out.lt
    have hszB : B ≤ wr.heap.size := by omega
    have hRl : R.length = n := by rw [HK.out.len, EN.out]
    by_cases hlt : j < n
    · have hjl : j < l.length := by rw [← EN.out]; exact hlt
      have hat := HK.out.at_ hjl
      have hget := nv_get R j (by omega)
      have hgi := nv_get R i (by omega)
      rw [hat] at hget
      have hfl : (nv R).length = n * 2 := by rw [nv_length, hRl]
      have hc1 : wr.cell? ⟨b', j * 2, none⟩ = some (.int .i64 (l.getD j nm0).1) := (hown.cellAt (j * 2) (by omega)).trans hget.1
      have hc2 : wr.cell? ⟨b', j * 2 + 1, none⟩ = some (.string (l.getD j nm0).2) := (hown.cellAt (j * 2 + 1) (by omega)).trans hget.2
      have hd1 : wr.cell? ⟨b', i * 2, none⟩ = some (.int .i64 (R.getD i nm0).1) := (hown.cellAt (i * 2) (by omega)).trans hgi.1
      have hd2 : wr.cell? ⟨b', i * 2 + 1, none⟩ = some (.string (R.getD i nm0).2) := (hown.cellAt (i * 2 + 1) (by omega)).trans hgi.2
      have hf1 := hown.frozenAt (i * 2)
      have hf2 := hown.frozenAt (i * 2 + 1)
      have HKd : Hid (leadsTo gs (l.getD j nm0).1 = true → NKept gs l i (j + 1) R) := HK.out.drops hjl
      have HKk : Hid (leadsTo gs (l.getD j nm0).1 = false → NKept gs l (i + 1) (j + 1) (R.set i (l.getD j nm0))) := HK.out.keeps hjl
      have CD : ∀ w', Below B w w' → Calls Tryz.prog 30 #[.agg #[.int .i64 (l.getD j nm0).1, .string (l.getD j nm0).2], .pointer (some ⟨g, 0, none⟩)] w' fun e w'' => e = .returned (.bool (leadsTo gs (l.getD j nm0).1)) ∧ Below w'.heap.size w' w'' := fun w' hb => del_ask g gs _ _ w' (HG.out w' hb)
      clear hget hgi hat
      generalize l.getD j nm0 = f at *
      obtain ⟨FA, FB⟩ := f
      generalize R.getD i nm0 = f2 at *
      obtain ⟨GA, GB⟩ := f2
      simp only at hc1 hc2 hd1 hd2 HKd HKk CD
      have hbs : b' < wr.heap.size := World.block_lt_of_cell? wr _ hc1
      have hbn : ¬ b' = wr.heap.size := by omega
      cases hs : leadsTo gs FA
      · rw [hs] at CD HKk
        have HKk' : Hid (NKept gs l (i + 1) (j + 1) (R.set i (FA, FB))) := HKk.out rfl
        have CD' : Hid (∀ w', Below B w w' → Calls Tryz.prog 30 #[.agg #[.int .i64 FA, .string FB], .pointer (some ⟨g, 0, none⟩)] w' fun e w'' => e = .returned (.bool false) ∧ Below w'.heap.size w' w'') := CD
        clear CD hs HKd HKk
        go_wp2_with fail
        refine (CD'.out _ (hbel.alloc hszB _)).mono ?_
        rintro e w2 ⟨rfl, hb2⟩
        clear CD'
        obtain ⟨m1, m2, m3, m4, m5, m6⟩ := nmade_two hb2
        have hd1' : w2.cell? ⟨b', i * 2, none⟩ = some (.int .i64 GA) := (m6.cell (p := ⟨b', i * 2, none⟩) hbs).trans hd1
        have hd2' : w2.cell? ⟨b', i * 2 + 1, none⟩ = some (.string GB) := (m6.cell (p := ⟨b', i * 2 + 1, none⟩) hbs).trans hd2
        have hf1' : w2.frozen? ⟨b', i * 2, none⟩ = false := (m6.frozen (p := ⟨b', i * 2, none⟩) hbs).trans hf1
        have hf2' : w2.frozen? ⟨b', i * 2 + 1, none⟩ = false := (m6.frozen (p := ⟨b', i * 2 + 1, none⟩) hbs).trans hf2
        have hin : (i : Int) < (n : Int) := by omega
        have own2 := ownsRow_below hown m6
        have st1 := (own2.stored (i * 2) (.int .i64 FA)).1
        have st2 := (st1.stored (i * 2 + 1) (.string FB)).1
        rw [nv_set2 R i FA FB (by omega)] at st2
        have HST : Hid (((w2.setCell ⟨b', i * 2, none⟩ (.int .i64 FA)).setCell ⟨b', i * 2 + 1, none⟩ (.string FB)).ownsRow B 56 2 (.slice (some ⟨b', 0, none⟩) n c0) n (nv (R.set i (FA, FB)))) := st2
        have hbe2 : Below B w ((w2.setCell ⟨b', i * 2, none⟩ (.int .i64 FA)).setCell ⟨b', i * 2 + 1, none⟩ (.string FB)) := ((hbel.trans (m6.mono (by omega))).setCell hgsB.1 _).setCell hgsB.1 _
        clear st1 st2 own2 hb2 hc1 hc2 hd1 hd2 hf1 hf2 hown
        go_wp2
        go_roundw
        case rel => exact ⟨i + 1, j + 1, R.set i (FA, FB), by go_num, by go_num, by omega, HST.out, hbe2, HKk'⟩
        case measure => simp [intOf]; omega
      · rw [hs] at CD HKd
        have HKd' : Hid (NKept gs l i (j + 1) R) := HKd.out rfl
        have CD' : Hid (∀ w', Below B w w' → Calls Tryz.prog 30 #[.agg #[.int .i64 FA, .string FB], .pointer (some ⟨g, 0, none⟩)] w' fun e w'' => e = .returned (.bool true) ∧ Below w'.heap.size w' w'') := CD
        clear CD hs HKd HKk hd1 hd2 hf1 hf2
        go_wp2_with fail
        refine (CD'.out _ (hbel.alloc hszB _)).mono ?_
        rintro e w2 ⟨rfl, hb2⟩
        clear CD'
        obtain ⟨m1, m2, m3, m4, m5, m6⟩ := nmade_two hb2
        have own2 := ownsRow_below hown m6
        have hbe2 : Below B w w2 := hbel.trans (m6.mono (by omega))
        clear hb2 hown
        go_wp2
        go_roundw
        case rel => exact ⟨i, j + 1, R, rfl, by go_num, by omega, own2, hbe2, HKd'⟩
        case measure => simp [intOf]; omega
    · obtain rfl : j = n := by omega
      obtain ⟨w9, hcl, hown9, hbe9⟩ := nclear_tail hown (show i < j by omega)
      have hci : ¬ c0 = i := by omega
      have hic : (i : Int) ≤ (c0 : Int) := by omega
      have hin : (i : Int) ≤ (j : Int) := by omega
      have HR : Hid (w9.ownsRow B 56 2 (.slice (some ⟨b', 0, none⟩) i c0) (nkept gs l).length (nv (nkept gs l))) := by
        have h1 := HK.out.ahead
        have h2 := HK.out.many
        rw [EN.out, List.take_length] at h1 h2
        unfold Hid
        rw [← h2, ← h1, ← nv_take]
        exact hown9
      have HB9 : Below B w w9 := hbel.trans hbe9
      clear hown hown9 HK hbe9
      go_wp2
      go_ret
      exact ⟨HB9, _, rfl, HR.out⟩
end Go.Proofs.YtbbfcbodhmeanaaGreatDoor



namespace Go.Proofs.YtbbfcbodhmeanaaGreatDoor
open Go.RowKit
theorem ndelete_any (B g:Nat) (gs:List GL) (lv:Value) (l:List NM) (w:World) (hn:l.length≤10000000000000) (hg:∀ W,Below B w W→AskAt W g gs) (hB:B≤w.heap.size)
  (hown:w.ownsRow B 56 2 lv l.length (nv l)) :
  Calls Tryz.prog 28 #[lv,.func (Fn.func 30) #[] #[.pointer (some ⟨g,0,none⟩)]] w fun e w'=>Below B w w'∧∃ v',e = .returned v'∧w'.ownsRow B 56 2 v' (nkept gs l).length (nv (nkept gs l)):=by
 obtain ⟨p0,c0,hv0,hcn,hcm,hp0,hob,hgg,hfr⟩:=owned_names hown
 by_cases hex:∃ f ∈ l,leadsTo gs f.1 = true
 ·have hlt:l.findIdx (fun f=>leadsTo gs f.1) < l.length:=List.findIdx_lt_length_of_exists hex
  have hne:l ≠ []:=fun e=>by rw [e] at hlt;simp at hlt
  obtain ⟨sb,rfl,_⟩:=hgg hne
  subst hv0
  refine ndelete_some B g gs (l.findIdx fun f=>leadsTo gs f.1) sb l.length c0 l rfl w hn hg hB hlt (fun j hj=>?_) ?_ hown
  ·have:=List.not_of_lt_findIdx hj
   simpa [List.getD_eq_getElem?_getD,List.getElem?_eq_getElem (Nat.lt_trans hj hlt)] using this
  ·have:=List.findIdx_getElem (w:=hlt)
   simpa [List.getD_eq_getElem?_getD,List.getElem?_eq_getElem hlt] using this
 ·have hall:∀ f ∈ l,leadsTo gs f.1 = false:=fun f hf=>by
   cases h:leadsTo gs f.1 with
   | false=>rfl
   | true=>exact absurd ⟨f,hf,h⟩ hex
  have HR:Hid (w.ownsRow B 56 2 (.slice p0 l.length c0) (nkept gs l).length (nv (nkept gs l))):=by
   unfold Hid;rw [nkept_all gs l hall,← hv0];exact hown
  have CI:Hid (Calls Tryz.prog 36 #[.slice p0 l.length c0,.func (Fn.func 30) #[] #[.pointer (some ⟨g,0,none⟩)]] w fun e w'=>e = .returned (.int .i64 (-1))∧Below w.heap.size w w'):=by
   by_cases h0:l = []
   ·subst h0
    refine (nfind_nil g p0 c0 w).mono ?_
    rintro e w' ⟨rfl,rfl⟩
    exact ⟨rfl,Below.refl _ _⟩
   ·obtain ⟨b,o,rfl,hc⟩:=hfr h0
    exact nfind_some g gs (-1) b o l.length c0 l rfl w (List.length_pos_iff.2 h0) hn (fun W h=>hg W (h.mono hB)) (fun j hj _=>hall _ (nv_mem l j hj)) (fun j hj h=>by omega) (by omega) (by omega) hc
  subst hv0
  generalize l.length = n at *
  clear hown hfr hgg hob hp0 hall hex
  go_enter Tryz.func28,Tryz.ntmps28
  go_wp2_with fail
  refine CI.out.mono ?_
  rintro e w1 ⟨rfl,hb1⟩
  clear CI
  go_wp2
  go_ret
  exact ⟨hb1.mono hB,_,rfl,ownsRow_below HR.out hb1⟩
theorem nv_cell {w:World} {b o:Nat} {l:List NM} (hc:∀ i,i < l.length→w.cell? ⟨b,o + i * 2,none⟩ = some (.int .i64 (l.getD i nm0).1)∧w.cell? ⟨b,o + i * 2 + 1,none⟩ = some (.string (l.getD i nm0).2)) (j:Nat) (u:Value) (hj:(nv l)[j]? = some u):w.cell? ⟨b,o + j,none⟩ = some u:=by
 have hjl:j < l.length * 2:=by rw [← nv_length];exact (List.getElem?_eq_some_iff.1 hj).1
 have h1:=hc (j / 2) (by omega)
 have h2:=nv_get l (j / 2) (by omega)
 rcases Nat.mod_two_eq_zero_or_one j with e | e
 ·have ej:j = j / 2 * 2:=by omega
  rw [ej,h2.1] at hj
  rw [ej,h1.1,hj]
 ·have ej:j = j / 2 * 2 + 1:=by omega
  rw [ej,h2.2] at hj
  rw [ej,← Nat.add_assoc,h1.2,hj]
theorem nv_one (l:List NM):∀ u ∈ nv l,u.oneCell' = true:=by
 intro u hu
 unfold nv at hu
 rw [List.mem_flatMap] at hu
 obtain ⟨f,_,hf⟩:=hu
 simp at hf
 rcases hf with rfl | rfl <;> rfl
theorem wpList_append_nrow {w:World} {ops:Array Oper} {rest:List Oper} {o:Oper} {a:Act} {Q:Exit→Act→World→Prop} (hgd:o.guard = none) (s x:Operand)
  (ho:o.op = .call { callee:=.builtin .append,args:=#[s,x],argTypes:=#[48,48] })
  (base:Nat) (v:Value) (n:Nat) (xs:List Value) (hs:a.eval s = v) (hown:w.ownsRow base 56 2 v n xs)
  (p:Option Addr) (l:List NM) (m c:Nat) (em:m = l.length) (hx:a.eval x = .slice p m c) (hr:NRow w p l) (hp:p = none→m = 0∧c = 0)
  (hb:(n + m) * 24≤140737488355328) (hbase:base≤w.heap.size)
  (h:∀ v' w',w'.ownsRow base 56 2 v' (n + m) (xs ++ nv l)→w.grownBy w' v.ownBlock→wpList Tryz.prog ops Q rest (a.put o.dst v') w'):wpList Tryz.prog ops Q (o::rest) a w:=by
 obtain ⟨i0,hi,hz0,hz1,hz2⟩:=info_parts info_name
 subst em
 cases p with
 | none =>
  obtain ⟨h0,rfl⟩:=hp rfl
  have hl:l = []:=List.length_eq_zero_iff.1 h0
  subst hl
  refine wpList_append_own_none hgd s x 48 ho base 56 i0 2 Tryz.underlying48 hi v n xs hs hown hx ?_
  refine h v w (by simpa [nv] using hown) (World.grownBy.refl _ _)
 | some ad =>
  refine wpList_append_own _ hgd s x 48 ho base 56 i0 (.agg #[.int .i64 0,.string ⟨#[]⟩]) 2 24 Tryz.underlying48 hi hz0 hz1 hz2 rfl (by decide) v n xs hs hown ad l.length c (nv l) hx (by rw [nv_length]) ?_ (nv_one l) (by unfold maxLen;omega) hb hbase (fun v' w' h1 h2 _=>h v' w' h1 h2)
  intro j u hj
  obtain ⟨b,o',e,hc⟩:=hr (fun e=>by rw [e] at hj;simp [nv] at hj)
  obtain rfl:=Option.some.inj e
  rw [Addr.add_lit]
  exact nv_cell hc j u hj
theorem nown_new (w:World) (t:List NM) (C:Array Value) (hC:C = (nv t).toArray) (hl:t.length≤maxLen):(w.alloc (.cells C 56)).ownsRow w.heap.size 56 2 (.slice (some ⟨w.heap.size,0,none⟩) t.length t.length) t.length (nv t):=by
 subst hC
 refine ⟨nv_length t,.inr ⟨w.heap.size,t.length,(nv t).toArray,rfl,Nat.le_refl _,by show (w.heap.push _)[w.heap.size]? = _;simp,Nat.le_refl _,hl,by rw [List.size_toArray,nv_length],?_⟩⟩
 show (nv t).take _ = _
 rw [← nv_length,List.take_length]
theorem nclone_nil (w:World):Calls Tryz.prog 29 #[.slice none 0 0] w fun e w'=>e = .returned (.slice none 0 0)∧w' = w:=by
 have hnil:=Lib.run_eql_slice_nil (P:=Tryz.prog) w 48 56 none 0 0 0 0 Tryz.underlying48
 go_enter Tryz.func29,Tryz.ntmps29
 go_wp2
 go_ret
 exact ⟨rfl,rfl⟩
set_option maxHeartbeats 1000000 in
theorem nclone_any (p:Option Addr) (n c:Nat) (l:List NM) (en:n = l.length) (w:World) (hn:n * 24≤140737488355328) (hp:p = none→n = 0∧c = 0) (hr:NRow w p l) :
  Calls Tryz.prog 29 #[.slice p n c] w fun e w'=>Below w.heap.size w w'∧∃ v,e = .returned v∧w'.ownsRow w.heap.size 56 2 v l.length (nv l):=by
 cases p with
 | none =>
  obtain ⟨rfl,rfl⟩:=hp rfl
  obtain rfl:l = []:=List.length_eq_zero_iff.1 en.symm
  refine (nclone_nil w).mono ?_
  rintro e w' ⟨rfl,rfl⟩
  exact ⟨Below.refl _ _,_,rfl,World.ownsRow_nil _ _ _ _⟩
 | some a =>
  have hnil:=Lib.run_eql_slice_nil (P:=Tryz.prog) w 48 56 (some a) n c 0 0 Tryz.underlying48
  have ho:=nown_new w [] #[] rfl (by decide)
  have HR:Hid (NRow w (some a) l):=hr
  have EN:Hid (n = l.length):=en
  clear hr en hp
  go_enter Tryz.func29,Tryz.ntmps29
  go_wp2_with (at_builtin;refine wpList_append_nrow rfl (.tmp 5) (.tmp 6) rfl w.heap.size _ _ _ rfl ho (some a) l n c EN.out rfl (HR.out.below ((Below.refl _ _).alloc (Nat.le_refl _) _)) (fun h=>by cases h) ?d1 ?d2 ?_)
  case d1=>show (0 + n) * 24≤_;omega
  case d2=>simp
  intro v1 w1 own1 grow1
  have hb1:Below w.heap.size w w1:=((Below.refl _ _).alloc (Nat.le_refl _) _).grown grow1 (by simp) (fun j hj=>(ho.lt j hj).1)
  have R:w1.ownsRow w.heap.size 56 2 v1 l.length (nv l):=by
   rw [← EN.out]
   simpa [nv] using own1
  clear own1 grow1 ho
  go_wp2
  go_ret
  exact ⟨hb1,v1,rfl,R⟩
end Go.Proofs.YtbbfcbodhmeanaaGreatDoor



namespace Go.Proofs.YtbbfcbodhmeanaaGreatDoor
def cnt:PT→Nat
 | ⟨_,_,_,_,_,_,kids⟩=>1 + (kids.attach.map fun ⟨k,_⟩=>cnt k).sum
theorem cnt_eq (p:PT):cnt p = 1 + (p.kids.map cnt).sum:=by
 obtain ⟨a,b,c,d,e,f,kids⟩:=p
 rw [cnt]
 congr 2
 show List.map (fun x:{ x // x ∈ kids }=>cnt x.1) kids.attach = List.map cnt kids
 conv=>rhs;rw [← List.attach_map_subtype_val kids,List.map_map]
 rfl
theorem cnt_pos (p:PT):1≤cnt p:=by rw [cnt_eq];omega
def cnts (l:List (PT × PT)):Nat:=(l.map fun x=>cnt x.1).sum
theorem cnts_snoc (l:List (PT × PT)) (x:PT × PT):cnts (l ++ [x]) = cnts l + cnt x.1:=by simp [cnts]
theorem cnts_length:∀ l:List (PT × PT),l.length≤cnts l
 | []=>Nat.le_refl _
 | x::l=>by
  have:=cnts_length l
  have h:=cnt_pos x.1
  simp only [cnts,List.map_cons,List.sum_cons,List.length_cons] at this ⊢
  omega
end Go.Proofs.YtbbfcbodhmeanaaGreatDoor



namespace Go.Proofs.YtbbfcbodhmeanaaGreatDoor
open Go.RowKit
theorem check_err (parts:Int):∀ (l:List NM) (last:Int) (seen:List (List UInt8)),checkN parts last seen l = 0 ∨ checkN parts last seen l = 1 ∨ checkN parts last seen l = 5 ∨ checkN parts last seen l = 6
 | [],_,_=>.inl rfl
 | n::l,last,seen=>by
  rw [checkN]
  split
  ·exact .inr (.inr (.inl rfl))
  ·split
   ·exact .inr (.inl rfl)
   ·split
    ·exact .inr (.inr (.inr rfl))
    ·exact check_err parts l _ _
theorem callS_not (i:Nat) (l:List NM):(∀ n ∈ l,n.1 ≠ (i:Int))→callS l i = ⟨#[]⟩:=by
 refine snoc_rec (P:=fun l=>(∀ n ∈ l,n.1 ≠ (i:Int))→callS l i = ⟨#[]⟩) (fun _=>rfl) (fun l x ih h=>?_) l
 rw [callS_snoc]
 simp only
 rw [if_neg (fun e=>h x (by simp) e.symm)]
 exact ih (fun n hn=>h n (List.mem_append_left _ hn))
theorem names_none (p:PT) (ns:List NM) (gs:List GL) (hok:(placesP p).1 = 0) (hg:goalsP p = some gs) (hn:∀ g ∈ gs,∀ n ∈ ns,n.1 ≠ g.find):(namesP p ns).1 = 1 ∨ (namesP p ns).1 = 5 ∨ (namesP p ns).1 = 6 ∨ namesP p ns = (0,p):=by
 unfold namesP
 rw [if_neg (by rw [hok];simp)]
 by_cases hc:checkN ((placesP p).2.length:Int) (-1) [] ns = 0
 ·rw [if_neg (by rw [hc];simp),hg]
  have h:=each_none p hok gs hg (callS ns) (fun g hgm=>by
   unfold textG
   split
   ·rename_i h0
    exact callS_not g.find.toNat ns (fun n hnm=>by rw [Int.toNat_of_nonneg h0];exact hn g hgm n hnm)
   ·rfl)
  simp only
  rw [h]
  exact .inr (.inr (.inr (if_neg (by simp))))
 ·rw [if_pos hc]
  rcases check_err ((placesP p).2.length:Int) ns (-1) [] with h | h | h | h
  ·exact absurd h hc
  ·exact .inl h
  ·exact .inr (.inl h)
  ·exact .inr (.inr (.inl h))
theorem names_nil (p:PT) (h:(namesP p []).1 = 0):(placesP p).1 = 0∧∃ gs,goalsP p = some gs∧namesP p [] = (0,p):=by
 have hok:(placesP p).1 = 0:=by
  by_cases h0:(placesP p).1 = 0
  ·exact h0
  ·unfold namesP at h
   rw [if_pos h0] at h
   exact absurd h h0
 refine ⟨hok,?_⟩
 cases hg:goalsP p with
 | none =>
  unfold namesP at h
  rw [if_neg (by rw [hok];simp),if_neg (by simp [checkN]),hg] at h
  cases h
 | some gs =>
  refine ⟨gs,rfl,?_⟩
  rcases names_none p [] gs hok hg (fun g _ n hn=>by cases hn) with h1 | h1 | h1 | h1
  ·rw [h] at h1;cases h1
  ·rw [h] at h1;cases h1
  ·rw [h] at h1;cases h1
  ·exact h1
theorem names_few (p:PT) (ns:List NM) (gs:List GL) (hok:(placesP p).1 = 0) (hg:goalsP p = some gs):(namesP p (nkept gs ns)).1 = 1 ∨ (namesP p (nkept gs ns)).1 = 5 ∨ (namesP p (nkept gs ns)).1 = 6 ∨ namesP p (nkept gs ns) = (0,p) :=
 names_none p (nkept gs ns) gs hok hg (fun g hgm n hn e=>by
  have h1:=(List.mem_filter.1 hn).2
  have h2:leadsTo gs n.1 = true:=List.any_eq_true.2 ⟨g,hgm,by simp [e]⟩
  rw [h2] at h1
  cases h1)
theorem nlen_few {ns:List NM} (h:NLen ns) (gs:List GL):NLen (nkept gs ns):=⟨Nat.le_trans (List.length_filter_le _ _) h.1,fun n hn=>h.2 n (List.mem_filter.1 hn).1⟩
theorem cnt_flat4:∀ (f:Nat) (p:PT),lev f p = true→cnt p = (flatP f p).length
 | 0,p,h=>by rw [lev] at h;cases h
 | f + 1,p,h=>by
  rw [lev_succ,List.all_eq_true] at h
  rw [cnt_eq,flatP_succ,List.length_cons]
  have:∀ l:List PT,(∀ k ∈ l,lev f k = true)→(l.map cnt).sum = (l.flatMap (flatP f)).length:=by
   intro l
   induction l with
   | nil=>intro _;rfl
   | cons k l ih =>
    intro hk
    rw [List.map_cons,List.sum_cons,List.flatMap_cons,List.length_append,ih (fun y hy=>hk y (List.mem_cons_of_mem _ hy)),cnt_flat4 f k (hk k (by simp))]
  rw [this p.kids h]
  omega
theorem cnt_ok {p:PT} (h:(placesP p).1 = 0):cnt p≤8000000000000:=by
 obtain ⟨h1,h2,_⟩:=places_flat p h
 rw [cnt_flat4 4 p h1]
 omega
end Go.Proofs.YtbbfcbodhmeanaaGreatDoor

