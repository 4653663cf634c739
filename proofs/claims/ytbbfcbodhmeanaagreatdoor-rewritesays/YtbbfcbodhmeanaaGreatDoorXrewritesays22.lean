
import Derived.Test.YtbbfcbodhmeanaaGreatDoorXrewritesays21
import Derived.Lib.ConvBytes
namespace Go.Proofs.YtbbfcbodhmeanaaGreatDoor
open Go.RowKit
theorem cells8 {w W:World} {a b c d e f g h:Value} {t:TypeId} (hb:Below (w.heap.size + 1) (w.alloc (.cells #[a,b,c,d,e,f,g,h] t)) W) :
  W.cell? ⟨w.heap.size,0,none⟩ = some a∧W.cell? ⟨w.heap.size,1,none⟩ = some b∧W.cell? ⟨w.heap.size,2,none⟩ = some c∧W.cell? ⟨w.heap.size,3,none⟩ = some d ∧
  W.cell? ⟨w.heap.size,4,none⟩ = some e∧W.cell? ⟨w.heap.size,5,none⟩ = some f∧W.cell? ⟨w.heap.size,6,none⟩ = some g∧W.cell? ⟨w.heap.size,7,none⟩ = some h:=by
 refine ⟨?_,?_,?_,?_,?_,?_,?_,?_⟩
 all_goals (
  rw [hb.cell (by simp)]
  simp)
theorem long_yes (u:UL) (h:120 < u.sch.length ∨ 120 < u.hst.length ∨ 120 < u.pth.length ∨ 120 < u.qry.length ∨ 120 < u.frg.length):checkU u = 2:=by
 unfold checkU
 rw [if_pos (by unfold longU;simp;omega)]
theorem long_no (u:UL) (h:u.sch.length≤120∧u.hst.length≤120∧u.pth.length≤120∧u.qry.length≤120∧u.frg.length≤120):checkU u = if wrtU u = false then 1 else if frmU u = false then 4 else if 120 < (textU u).length then 2 else 0:=by
 unfold checkU
 rw [if_neg (by unfold longU;simp;omega)]
set_option maxHeartbeats 4000000 in
set_option maxRecDepth 100000 in
theorem check_walk (sch hst pth qry frg T:ByteArray) (hh hq hf:Bool) (bw bf:Bool) (hm:sch.size≤maxLen∧hst.size≤maxLen∧pth.size≤maxLen∧qry.size≤maxLen∧frg.size≤maxLen) (w:World) (R:Nat)
  (hlong:(120 < sch.size ∨ 120 < hst.size ∨ 120 < pth.size ∨ 120 < qry.size ∨ 120 < frg.size)→R = 2)
  (hshort:(sch.size≤120∧hst.size≤120∧pth.size≤120∧qry.size≤120∧frg.size≤120)→(R = if bw = false then 1 else if bf = false then 4 else if 120 < T.size then 2 else 0)∧T.size≤1000
   ∧ (∀ W,Calls Tryz.prog 145 #[.agg #[.string sch,.bool hh,.string hst,.string pth,.bool hq,.string qry,.bool hf,.string frg]] W fun e w'=>e = .returned (.bool bw)∧Below W.heap.size W w')
   ∧ (∀ W,Calls Tryz.prog 146 #[.agg #[.string sch,.bool hh,.string hst,.string pth,.bool hq,.string qry,.bool hf,.string frg]] W fun e w'=>e = .returned (.bool bf)∧Below W.heap.size W w')
   ∧ (∀ W,Calls Tryz.prog 98 #[.agg #[.string sch,.bool hh,.string hst,.string pth,.bool hq,.string qry,.bool hf,.string frg]] W fun e w'=>e = .returned (.string T)∧Below W.heap.size W w')) :
  Calls Tryz.prog 94 #[.agg #[.string sch,.bool hh,.string hst,.string pth,.bool hq,.string qry,.bool hf,.string frg]] w fun e w'=>e = .returned (.int .i64 (R:Int))∧Below w.heap.size w w':=by
 unfold maxLen at hm
 obtain ⟨m0,m1,m2,m3,m4⟩:=hm
 have HL:Hid ((120 < sch.size ∨ 120 < hst.size ∨ 120 < pth.size ∨ 120 < qry.size ∨ 120 < frg.size)→R = 2):=hlong
 have HSH:Hid ((sch.size≤120∧hst.size≤120∧pth.size≤120∧qry.size≤120∧frg.size≤120)→_):=hshort
 clear hlong hshort
 go_enter Tryz.func94,Tryz.ntmps94
 go_wp2
 obtain ⟨w9,hw9⟩:∃ W,W = w.alloc (.cells #[.string sch,.bool hh,.string hst,.string pth,.bool hq,.string qry,.bool hf,.string frg] 85):=⟨_,rfl⟩
 have hb9:Below w.heap.size w w9:=by rw [hw9];exact (Below.refl _ _).alloc (Nat.le_refl _) _
 have hs9:w9.heap.size = w.heap.size + 1:=by rw [hw9];simp
 have HC9:Hid (∀ W,Below w9.heap.size w9 W→W.cell? ⟨w.heap.size,0,none⟩ = some (.string sch)∧W.cell? ⟨w.heap.size,1,none⟩ = some (.bool hh)∧W.cell? ⟨w.heap.size,2,none⟩ = some (.string hst)∧W.cell? ⟨w.heap.size,3,none⟩ = some (.string pth)∧W.cell? ⟨w.heap.size,4,none⟩ = some (.bool hq)∧W.cell? ⟨w.heap.size,5,none⟩ = some (.string qry)∧W.cell? ⟨w.heap.size,6,none⟩ = some (.bool hf)∧W.cell? ⟨w.heap.size,7,none⟩ = some (.string frg)):=fun W hb=>by
  rw [hs9] at hb
  rw [hw9] at hb
  exact cells8 hb
 rw [← hw9]
 clear hw9
 go_loop [16] (fun iv=>∃ k:Nat,k≤5∧iv = .int .i64 k∧Hid ((1≤k→sch.size≤120)∧(2≤k→hst.size≤120)∧(3≤k→pth.size≤120)∧(4≤k→qry.size≤120)∧(5≤k→frg.size≤120))) (fun iv=>5 - (intOf iv).toNat)
 case atStart=>exact ⟨0,Nat.zero_le _,rfl,⟨fun h=>absurd h (by omega),fun h=>absurd h (by omega),fun h=>absurd h (by omega),fun h=>absurd h (by omega),fun h=>absurd h (by omega)⟩⟩
 case round =>
  obtain ⟨k,hk,rfl,HK⟩:=hrel
  rcases (show k = 0 ∨ k = 1 ∨ k = 2 ∨ k = 3 ∨ k = 4 ∨ k = 5 by omega) with rfl | rfl | rfl | rfl | rfl | rfl
  ·have hix:∀ W:World,(Instr.index 166 (.agg #[.string sch,.string hst,.string pth,.string qry,.string frg]) (.int .i64 0)).run Tryz.prog W = .ok (.string sch) W:=fun W=>by kernel_rfl
   by_cases hgt:120 < sch.size
   ·have hgi:(120:Int) < (sch.size:Int):=by omega
    have HN:Hid (R = 2):=HL.out (by omega)
    clear HK HL HSH HC9
    go_wp2
    go_ret
    exact ⟨by rw [HN.out];rfl,hb9⟩
   ·have hgi:¬ (120:Int) < (sch.size:Int):=by omega
    have HK2:Hid ((1≤1→sch.size≤120)∧(2≤1→hst.size≤120)∧(3≤1→pth.size≤120)∧(4≤1→qry.size≤120)∧(5≤1→frg.size≤120)):=by
     have:=HK.out
     unfold Hid
     refine ⟨fun _=>?_,fun _=>?_,fun _=>?_,fun _=>?_,fun _=>?_⟩ <;> omega
    clear HK HL HSH HC9
    go_wp2
    go_round
    case rel=>exact ⟨1,by omega,by go_num,HK2⟩
    case measure=>simp [intOf]
  ·have hix:∀ W:World,(Instr.index 166 (.agg #[.string sch,.string hst,.string pth,.string qry,.string frg]) (.int .i64 1)).run Tryz.prog W = .ok (.string hst) W:=fun W=>by kernel_rfl
   by_cases hgt:120 < hst.size
   ·have hgi:(120:Int) < (hst.size:Int):=by omega
    have HN:Hid (R = 2):=HL.out (by omega)
    clear HK HL HSH HC9
    go_wp2
    go_ret
    exact ⟨by rw [HN.out];rfl,hb9⟩
   ·have hgi:¬ (120:Int) < (hst.size:Int):=by omega
    have HK2:Hid ((1≤2→sch.size≤120)∧(2≤2→hst.size≤120)∧(3≤2→pth.size≤120)∧(4≤2→qry.size≤120)∧(5≤2→frg.size≤120)):=by
     have:=HK.out
     unfold Hid
     refine ⟨fun _=>?_,fun _=>?_,fun _=>?_,fun _=>?_,fun _=>?_⟩ <;> omega
    clear HK HL HSH HC9
    go_wp2
    go_round
    case rel=>exact ⟨2,by omega,by go_num,HK2⟩
    case measure=>simp [intOf]
  ·have hix:∀ W:World,(Instr.index 166 (.agg #[.string sch,.string hst,.string pth,.string qry,.string frg]) (.int .i64 2)).run Tryz.prog W = .ok (.string pth) W:=fun W=>by kernel_rfl
   by_cases hgt:120 < pth.size
   ·have hgi:(120:Int) < (pth.size:Int):=by omega
    have HN:Hid (R = 2):=HL.out (by omega)
    clear HK HL HSH HC9
    go_wp2
    go_ret
    exact ⟨by rw [HN.out];rfl,hb9⟩
   ·have hgi:¬ (120:Int) < (pth.size:Int):=by omega
    have HK2:Hid ((1≤3→sch.size≤120)∧(2≤3→hst.size≤120)∧(3≤3→pth.size≤120)∧(4≤3→qry.size≤120)∧(5≤3→frg.size≤120)):=by
     have:=HK.out
     unfold Hid
     refine ⟨fun _=>?_,fun _=>?_,fun _=>?_,fun _=>?_,fun _=>?_⟩ <;> omega
    clear HK HL HSH HC9
    go_wp2
    go_round
    case rel=>exact ⟨3,by omega,by go_num,HK2⟩
    case measure=>simp [intOf]
  ·have hix:∀ W:World,(Instr.index 166 (.agg #[.string sch,.string hst,.string pth,.string qry,.string frg]) (.int .i64 3)).run Tryz.prog W = .ok (.string qry) W:=fun W=>by kernel_rfl
   by_cases hgt:120 < qry.size
   ·have hgi:(120:Int) < (qry.size:Int):=by omega
    have HN:Hid (R = 2):=HL.out (by omega)
    clear HK HL HSH HC9
    go_wp2
    go_ret
    exact ⟨by rw [HN.out];rfl,hb9⟩
   ·have hgi:¬ (120:Int) < (qry.size:Int):=by omega
    have HK2:Hid ((1≤4→sch.size≤120)∧(2≤4→hst.size≤120)∧(3≤4→pth.size≤120)∧(4≤4→qry.size≤120)∧(5≤4→frg.size≤120)):=by
     have:=HK.out
     unfold Hid
     refine ⟨fun _=>?_,fun _=>?_,fun _=>?_,fun _=>?_,fun _=>?_⟩ <;> omega
    clear HK HL HSH HC9
    go_wp2
    go_round
    case rel=>exact ⟨4,by omega,by go_num,HK2⟩
    case measure=>simp [intOf]
  ·have hix:∀ W:World,(Instr.index 166 (.agg #[.string sch,.string hst,.string pth,.string qry,.string frg]) (.int .i64 4)).run Tryz.prog W = .ok (.string frg) W:=fun W=>by kernel_rfl
   by_cases hgt:120 < frg.size
   ·have hgi:(120:Int) < (frg.size:Int):=by omega
    have HN:Hid (R = 2):=HL.out (by omega)
    clear HK HL HSH HC9
    go_wp2
    go_ret
    exact ⟨by rw [HN.out];rfl,hb9⟩
   ·have hgi:¬ (120:Int) < (frg.size:Int):=by omega
    have HK2:Hid ((1≤5→sch.size≤120)∧(2≤5→hst.size≤120)∧(3≤5→pth.size≤120)∧(4≤5→qry.size≤120)∧(5≤5→frg.size≤120)):=by
     have:=HK.out
     unfold Hid
     refine ⟨fun _=>?_,fun _=>?_,fun _=>?_,fun _=>?_,fun _=>?_⟩ <;> omega
    clear HK HL HSH HC9
    go_wp2
    go_round
    case rel=>exact ⟨5,by omega,by go_num,HK2⟩
    case measure=>simp [intOf]
  ·obtain ⟨k1,k2,k3,k4,k5⟩:=HK.out
   obtain ⟨hR,hT,CW,CF,CT⟩:=HSH.out ⟨k1 (by omega),k2 (by omega),k3 (by omega),k4 (by omega),k5 (by omega)⟩
   have HR:Hid (R = if bw = false then 1 else if bf = false then 4 else if 120 < T.size then 2 else 0):=hR
   have HW:Hid (∀ W,Calls Tryz.prog 145 #[.agg #[.string sch,.bool hh,.string hst,.string pth,.bool hq,.string qry,.bool hf,.string frg]] W fun e w'=>e = .returned (.bool bw)∧Below W.heap.size W w'):=CW
   have HF:Hid (∀ W,Calls Tryz.prog 146 #[.agg #[.string sch,.bool hh,.string hst,.string pth,.bool hq,.string qry,.bool hf,.string frg]] W fun e w'=>e = .returned (.bool bf)∧Below W.heap.size W w'):=CF
   have HTX:Hid (∀ W,Calls Tryz.prog 98 #[.agg #[.string sch,.bool hh,.string hst,.string pth,.bool hq,.string qry,.bool hf,.string frg]] W fun e w'=>e = .returned (.string T)∧Below W.heap.size W w'):=CT
   clear k1 k2 k3 k4 k5 hR CW CF CT HK HL HSH m0 m1 m2 m3 m4
   obtain ⟨c0a,c1a,c2a,c3a,c4a,c5a,c6a,c7a⟩:=HC9.out w9 (Below.refl _ _)
   cases bw with
   | false =>
    have HN:Hid (R = 1):=HR.out
    clear HF HTX HR HC9
    go_wp2_with fail
    refine (HW.out _).mono ?_
    rintro e w1 ⟨rfl,hb1⟩
    go_wp2
    go_ret
    exact ⟨by rw [HN.out];rfl,hb9.trans (hb1.mono hb9.size)⟩
   | true =>
    go_wp2_with fail
    refine (HW.out _).mono ?_
    rintro e w1 ⟨rfl,hb1⟩
    obtain ⟨c0b,c1b,c2b,c3b,c4b,c5b,c6b,c7b⟩:=HC9.out w1 hb1
    clear HW c0a c1a c2a c3a c4a c5a c6a c7a
    cases bf with
    | false =>
     have HN:Hid (R = 4):=HR.out
     clear HTX HR HC9
     go_wp2_with fail
     refine (HF.out _).mono ?_
     rintro e w2 ⟨rfl,hb2⟩
     have hb12:=hb1.trans (hb2.mono hb1.size)
     go_wp2
     go_ret
     exact ⟨by rw [HN.out];rfl,hb9.trans (hb12.mono hb9.size)⟩
    | true =>
     go_wp2_with fail
     refine (HF.out _).mono ?_
     rintro e w2 ⟨rfl,hb2⟩
     have hb12:=hb1.trans (hb2.mono hb1.size)
     obtain ⟨c0c,c1c,c2c,c3c,c4c,c5c,c6c,c7c⟩:=HC9.out w2 hb12
     clear HF hb1 hb2 c0b c1b c2b c3b c4b c5b c6b c7b
     by_cases hgt:120 < T.size
     ·have HN:Hid (R = 2):=by unfold Hid;rw [HR.out,if_neg (by simp),if_neg (by simp),if_pos hgt]
      have hgi:(120:Int) < (T.size:Int):=by omega
      clear HR HC9
      go_wp2_with fail
      refine (HTX.out _).mono ?_
      rintro e w3 ⟨rfl,hb3⟩
      go_wp2
      go_ret
      exact ⟨by rw [HN.out];rfl,hb9.trans ((hb12.trans (hb3.mono hb12.size)).mono hb9.size)⟩
     ·have HN:Hid (R = 0):=by unfold Hid;rw [HR.out,if_neg (by simp),if_neg (by simp),if_neg hgt]
      have hgi:¬ (120:Int) < (T.size:Int):=by omega
      clear HR HC9
      go_wp2_with fail
      refine (HTX.out _).mono ?_
      rintro e w3 ⟨rfl,hb3⟩
      go_wp2
      go_ret
      exact ⟨by rw [HN.out];rfl,hb9.trans ((hb12.trans (hb3.mono hb12.size)).mono hb9.size)⟩
theorem UV.short.mono {u:UV} {n m:Nat} (h:u.short n) (hn:n≤m):u.short m:=by
 obtain ⟨h1,h2,h3,h4,h5⟩:=h
 exact ⟨by omega,by omega,by omega,by omega,by omega⟩
theorem mk_text (u:UV):∃ T:ByteArray,T.data.toList = textU u.l:=⟨⟨(textU u.l).toArray⟩,rfl⟩
theorem text_short (u:UV) (h:u.short 120):(textU u.l).length≤1000:=by
 obtain ⟨h1,h2,h3,h4,h5⟩:=h
 rw [Lib.size_eq] at h1 h2 h3 h4 h5
 have o:∀ (b:Bool) (l:List UInt8),(opt b l).length≤l.length:=fun b l=>by cases b <;> simp [opt]
 unfold textU UV.l
 simp only [List.length_append]
 have e1:=o (!u.sch.data.toList.isEmpty) (u.sch.data.toList ++ [58])
 have e2:=o u.hh ([47,47] ++ u.hst.data.toList)
 have e3:=o u.hq (63::u.qry.data.toList)
 have e4:=o u.hf (35::u.frg.data.toList)
 simp only [List.length_append,List.length_cons,List.length_nil] at e1 e2 e3 e4
 omega
theorem ucheck_any (u:UV) (hs:u.short maxLen) (w:World) :
  Calls Tryz.prog 94 #[u.v] w fun e w'=>e = .returned (.int .i64 (checkU u.l:Nat))∧Below w.heap.size w w':=by
 obtain ⟨T,hT⟩:=mk_text u
 have E:∀ s:ByteArray,s.data.toList.length = s.size:=fun s=>(Lib.size_eq s).symm
 refine check_walk u.sch u.hst u.pth u.qry u.frg T u.hh u.hq u.hf (wrtU u.l) (frmU u.l) hs w _ ?_ ?_
 ·intro h
  refine long_yes _ ?_
  show 120 < u.sch.data.toList.length ∨ 120 < u.hst.data.toList.length ∨ 120 < u.pth.data.toList.length ∨ 120 < u.qry.data.toList.length ∨ 120 < u.frg.data.toList.length
  rw [E,E,E,E,E];exact h
 ·intro h
  have h120:u.short 120:=h
  refine ⟨?_,?_,fun W=>uwritten_any u (h120.mono (by omega)) W,fun W=>uformed_any u (h120.mono (by omega)) W,fun W=>utext_any u (h120.mono (by omega)) T hT W⟩
  ·rw [long_no _ (by
    show u.sch.data.toList.length≤120∧u.hst.data.toList.length≤120∧u.pth.data.toList.length≤120∧u.qry.data.toList.length≤120∧u.frg.data.toList.length≤120
    rw [E,E,E,E,E];exact h),← hT,E]
  ·rw [Lib.size_eq,hT];exact text_short u h120
theorem checkU_short {u:UV} (h:checkU u.l = 0):u.short 120:=by
 obtain ⟨h1,_⟩:=checkU_zero h
 obtain ⟨a,b,c,d,e⟩:=longU_false h1
 refine ⟨?_,?_,?_,?_,?_⟩
 all_goals (rw [Lib.size_eq];assumption)
def PrintPost (w:World) (r:List UInt8 × Nat) (e:Ending) (w':World):Prop:=e = .returned (.tuple #[.string ⟨r.1.toArray⟩,.int .i64 (r.2:Int)])∧Below w.heap.size w w'
set_option maxHeartbeats 1000000 in
theorem print_walk (sch hst pth qry frg T:ByteArray) (hh hq hf:Bool) (n:Nat) (w:World)
  (CC:Hid (∀ W,Calls Tryz.prog 94 #[.agg #[.string sch,.bool hh,.string hst,.string pth,.bool hq,.string qry,.bool hf,.string frg]] W fun e w'=>e = .returned (.int .i64 (n:Int))∧Below W.heap.size W w'))
  (CT:Hid (n = 0→∀ W,Calls Tryz.prog 98 #[.agg #[.string sch,.bool hh,.string hst,.string pth,.bool hq,.string qry,.bool hf,.string frg]] W fun e w'=>e = .returned (.string T)∧Below W.heap.size W w')) :
  Calls Tryz.prog 52 #[.agg #[.string sch,.bool hh,.string hst,.string pth,.bool hq,.string qry,.bool hf,.string frg]] w fun e w'=>e = .returned (.tuple #[if n = 0 then .string T else .string ⟨#[]⟩,.int .i64 (n:Int)])∧Below w.heap.size w w':=by
 have HC9:Hid (∀ W,Below (w.heap.size + 1) (w.alloc (.cells #[.string sch,.bool hh,.string hst,.string pth,.bool hq,.string qry,.bool hf,.string frg] 85)) W→W.cell? ⟨w.heap.size,0,none⟩ = some (.string sch)∧W.cell? ⟨w.heap.size,1,none⟩ = some (.bool hh)∧W.cell? ⟨w.heap.size,2,none⟩ = some (.string hst)∧W.cell? ⟨w.heap.size,3,none⟩ = some (.string pth)∧W.cell? ⟨w.heap.size,4,none⟩ = some (.bool hq)∧W.cell? ⟨w.heap.size,5,none⟩ = some (.string qry)∧W.cell? ⟨w.heap.size,6,none⟩ = some (.bool hf)∧W.cell? ⟨w.heap.size,7,none⟩ = some (.string frg)):=fun W hb=>cells8 hb
 by_cases h0:n = 0
 ·subst h0
  have CT2:Hid (∀ W,Calls Tryz.prog 98 #[.agg #[.string sch,.bool hh,.string hst,.string pth,.bool hq,.string qry,.bool hf,.string frg]] W fun e w'=>e = .returned (.string T)∧Below W.heap.size W w'):=CT.out rfl
  rw [if_pos rfl]
  clear CT
  go_enter Tryz.func52,Tryz.ntmps52
  go_wp2_with fail
  refine (CC.out _).mono ?_
  rintro e w1 ⟨rfl,hb1⟩
  have hbe1:Below w.heap.size w w1:=((Below.refl _ _).alloc (Nat.le_refl _) _).trans (hb1.mono (by simp))
  obtain ⟨c0,c1,c2,c3,c4,c5,c6,c7⟩:=HC9.out w1 (by simpa using hb1)
  clear CC HC9 hb1
  go_wp2_with fail
  refine (CT2.out _).mono ?_
  rintro e w2 ⟨rfl,hb2⟩
  have hbe2:Below w.heap.size w w2:=hbe1.trans (hb2.mono hbe1.size)
  clear CT2 hb2
  go_wp2
  go_ret2
  exact ⟨rfl,hbe2⟩
 ·rw [if_neg h0]
  have hn0:((n:Int) == 0) = false:=by rw [beq_eq_false_iff_ne];omega
  clear CT HC9
  go_enter Tryz.func52,Tryz.ntmps52
  go_wp2_with fail
  refine (CC.out _).mono ?_
  rintro e w1 ⟨rfl,hb1⟩
  have hbe1:Below w.heap.size w w1:=((Below.refl _ _).alloc (Nat.le_refl _) _).trans (hb1.mono (by simp))
  clear CC hb1
  go_wp2
  go_ret2
  exact ⟨rfl,hbe1⟩
theorem uprint_any (u:UV) (hs:u.short maxLen) (w:World) :
  Calls Tryz.prog 52 #[u.v] w fun e w'=>PrintPost w (printU u.l) e w':=by
 obtain ⟨T,hT⟩:=mk_text u
 refine (print_walk u.sch u.hst u.pth u.qry u.frg T u.hh u.hq u.hf (checkU u.l) w (fun W=>ucheck_any u hs W) (fun h W=>utext_any u ((checkU_short h).mono (by omega)) T hT W)).mono ?_
 rintro e w' ⟨rfl,hb⟩
 refine ⟨?_,hb⟩
 unfold printU
 by_cases h:checkU u.l = 0
 ·rw [if_pos h,if_pos h,← hT,h]
 ·rw [if_neg h,if_neg h]
end Go.Proofs.YtbbfcbodhmeanaaGreatDoor



namespace Go.Proofs.YtbbfcbodhmeanaaGreatDoor
def smk (k:Nat) (l:List UInt8):List UInt8:=smallU (l.take k) ++ l.drop k
theorem smk_length (k:Nat) (l:List UInt8):(smk k l).length = l.length:=by
 unfold smk smallU
 rw [List.length_append,List.length_map,List.length_take,List.length_drop]
 omega
theorem smk_all (l:List UInt8):smk l.length l = smallU l:=by
 unfold smk
 rw [List.take_length,List.drop_length,List.append_nil]
theorem smk_get (k:Nat) (l:List UInt8) (h:k < l.length):(smk k l).getD k 0 = l.getD k 0:=by
 unfold smk smallU
 rw [List.getD_eq_getElem?_getD,List.getElem?_append_right (by simp;omega),List.length_map,List.length_take,Nat.min_eq_left (by omega),Nat.sub_self,List.getElem?_drop,List.getD_eq_getElem?_getD]
 rfl
theorem smk_succ (k:Nat) (l:List UInt8) (h:k < l.length):smk (k + 1) l = (smk k l).set k (lowU (l.getD k 0)):=by
 have hl:(smallU (l.take k)).length = k:=by unfold smallU;rw [List.length_map,List.length_take];omega
 unfold smk
 rw [List.set_append_right _ _ (by omega),hl,Nat.sub_self,List.drop_eq_getElem_cons h,List.set_cons_zero]
 rw [List.take_add_one,List.getElem?_eq_getElem h]
 unfold smallU
 rw [List.map_append,List.append_assoc]
 simp [List.getD_eq_getElem?_getD,List.getElem?_eq_getElem h]
theorem set_getD (l:List UInt8) (k i:Nat) (v:UInt8) (h:k < l.length):(l.set k v).getD i 0 = if i = k then v else l.getD i 0:=by
 rw [List.getD_eq_getElem?_getD,List.getElem?_set]
 by_cases hik:k = i
 ·subst hik;simp [h]
 ·rw [if_neg hik,if_neg (Ne.symm hik),List.getD_eq_getElem?_getD]
theorem set_self (l:List UInt8) (k:Nat) (h:k < l.length):l.set k (l.getD k 0) = l:=by
 rw [List.getD_eq_getElem?_getD,List.getElem?_eq_getElem h]
 simp
end Go.Proofs.YtbbfcbodhmeanaaGreatDoor



namespace Go.Proofs.YtbbfcbodhmeanaaGreatDoor
open Go.RowKit
set_option maxHeartbeats 4000000 in
set_option maxRecDepth 100000 in
theorem usm_any (s:ByteArray) (w:World) (hs:s.size≤1000000) :
  Calls Tryz.prog 91 #[.string s] w fun e w'=>e = .returned (.string ⟨(smallU s.data.toList).toArray⟩)∧Below w.heap.size w w':=by
 have hcv:(convert 9 22 (.string s)).run Tryz.prog w = .ok (.slice (some ⟨w.heap.size,0,none⟩) s.size (grownCap w s.size 0 5)) (Lib.bytesWorld w 5 s):=Lib.run_convert_string_bytes w _ _ _ s Tryz.underlying9 Tryz.underlying22 Tryz.underlying5
 have hB:Below w.heap.size w (Lib.bytesWorld w 5 s):=⟨rfl,rfl,rfl,by rw [Lib.bytesWorld_size];omega,fun k hk=>Lib.bytesWorld_at_old w _ s k hk⟩
 have HC0:Hid (∀ i,i < s.size→(Lib.bytesWorld w 5 s).cell? ⟨w.heap.size,i,none⟩ = some (.int .u8 ((s.data.toList.getD i 0).toNat:Int))):=fun i hi=>Lib.bytesWorld_cell w _ s i hi
 have HF0:Hid (∀ i,i < s.size→(Lib.bytesWorld w 5 s).frozen? ⟨w.heap.size,i,none⟩ = false):=fun i hi=>by
  unfold World.frozen?
  simp only [Lib.bytesWorld_at_new]
  have:s.size≤(Lib.bytesCells w 5 s).size:=by unfold Lib.bytesCells;simp
  rw [Bool.and_eq_false_iff]
  left
  rw [decide_eq_false_iff_not]
  omega
 generalize grownCap w s.size 0 5 = CAP at *
 generalize Lib.bytesWorld w 5 s = w1 at *
 have hle:Hid (s.size = s.data.toList.length):=Lib.size_eq s
 go_enter Tryz.func91,Tryz.ntmps91
 go_wp2
 go_loopw [10] (fun iv wr=>∃ k:Nat,k≤s.size∧iv = .int .i64 k∧Below w.heap.size w wr∧Hid (∀ i,i < s.size→wr.cell? ⟨w.heap.size,i,none⟩ = some (.int .u8 (((smk k s.data.toList).getD i 0).toNat:Int)))∧Hid (∀ i,i < s.size→wr.frozen? ⟨w.heap.size,i,none⟩ = false)) (fun iv _=>s.size - (intOf iv).toNat)
 case atStart=>exact ⟨0,Nat.zero_le _,rfl,hB,HC0,HF0⟩
 case round =>
  obtain ⟨k,hk,rfl,hbel,HC,HF⟩:=hrel
  clear HC0 HF0
  by_cases hlt:k < s.size
  ·have hll:k < s.data.toList.length:=by rw [← hle.out];exact hlt
   have hck:=HC.out k hlt
   rw [smk_get k _ hll] at hck
   have hfk:=HF.out k hlt
   obtain ⟨c,hc⟩:∃ c,s.data.toList.getD k 0 = c:=⟨_,rfl⟩
   rw [hc] at hck
   have CI:Hid (Calls Tryz.prog 140 #[.int .u8 (c.toNat:Int)] wr fun e w'=>e = .returned (.bool (isUpB c))∧w' = wr):=ularge_any c wr
   cases hu:isUpB c with
   | false =>
    rw [hu] at CI
    have HC2:Hid (∀ i,i < s.size→wr.cell? ⟨w.heap.size,i,none⟩ = some (.int .u8 (((smk (k + 1) s.data.toList).getD i 0).toNat:Int))):=fun i hi=>by
     rw [smk_succ k _ hll,hc,show lowU c = c from by unfold lowU;rw [hu];rfl,← hc,← smk_get k _ hll,set_self _ k (by rw [smk_length];exact hll)]
     exact HC.out i hi
    clear HC hc hu
    go_wp2_with fail
    refine CI.out.mono ?_
    rintro e w' ⟨rfl,hw'⟩
    have hw'':=hw'.symm
    subst hw''
    clear CI
    go_wp2
    go_roundw
    case rel=>exact ⟨k + 1,by omega,by go_num,hbel,HC2,HF⟩
    case measure=>simp [intOf];omega
   | true =>
    rw [hu] at CI
    have hub:65≤c.toNat∧c.toNat≤90:=by unfold isUpB at hu;simpa using hu
    have h65:(65:Int)≤(c.toNat:Int):=by omega
    have h90:(c.toNat:Int)≤90:=by omega
    have hval:(c.toNat:Int) - 65 + 97 = ((lowU c).toNat:Int):=by
     have:(lowU c).toNat = c.toNat + 32:=by
      unfold lowU
      rw [if_pos hu,UInt8.toNat_add]
      show (c.toNat + 32) % 256 = _
      omega
     omega
    have HC2:Hid (∀ i,i < s.size→(wr.setCell ⟨w.heap.size,k,none⟩ (.int .u8 ((lowU c).toNat:Int))).cell? ⟨w.heap.size,i,none⟩ = some (.int .u8 (((smk (k + 1) s.data.toList).getD i 0).toNat:Int))):=fun i hi=>by
     rw [smk_succ k _ hll,hc,set_getD _ _ _ _ (by rw [smk_length];exact hll)]
     by_cases hik:i = k
     ·subst hik
      rw [if_pos rfl]
      exact World.cell?_setCell_same _ _ _ hck
     ·rw [if_neg hik,World.cell?_setCell_other _ _ _ _ (fun e=>hik (by injection e with _ e _;exact e.symm))]
      exact HC.out i hi
    have HF2:Hid (∀ i,i < s.size→(wr.setCell ⟨w.heap.size,k,none⟩ (.int .u8 ((lowU c).toNat:Int))).frozen? ⟨w.heap.size,i,none⟩ = false):=fun i hi=>by
     rw [World.frozen?_setCell];exact HF.out i hi
    have hb2:Below w.heap.size w (wr.setCell ⟨w.heap.size,k,none⟩ (.int .u8 ((lowU c).toNat:Int))):=hbel.setCell (Nat.le_refl _) _
    clear HC HF hc hu hub
    go_wp2_with fail
    refine CI.out.mono ?_
    rintro e w' ⟨rfl,hw'⟩
    have hw'':=hw'.symm
    subst hw''
    clear CI
    go_wp2
    try simp only [hval]
    go_roundw
    case rel=>exact ⟨k + 1,by omega,by go_num,hb2,HC2,HF2⟩
    case measure=>simp [intOf];omega
  ·obtain rfl:k = s.size:=by omega
   have hr:BRow wr (some ⟨w.heap.size,0,none⟩) (smallU s.data.toList):=fun _=>⟨w.heap.size,0,rfl,fun i hi=>by
    have hi':i < s.size:=by rw [hle.out];unfold smallU at hi;rw [List.length_map] at hi;exact hi
    have:=HC.out i hi'
    rw [hle.out,smk_all] at this
    rw [Nat.zero_add]
    exact this⟩
   have hcv2:=conv_bytes wr (some ⟨w.heap.size,0,none⟩) s.size CAP (smallU s.data.toList) (by rw [hle.out];unfold smallU;rw [List.length_map]) hr (fun e=>by cases e)
   clear HC HF hr
   go_wp2
   go_ret
   exact ⟨rfl,hbel⟩
end Go.Proofs.YtbbfcbodhmeanaaGreatDoor



namespace Go.Proofs.YtbbfcbodhmeanaaGreatDoor
theorem cutC_some:∀ (l a r:List UInt8),cutC l = some (a,r)→l = a ++ 58::r
 | [],_,_,h=>by cases h
 | c::l,a,r,h=>by
  rw [cutC] at h
  split at h
  ·rename_i e;subst e;cases h;rfl
  ·split at h
   ·cases h
   ·cases hl:cutC l with
    | none=>rw [hl] at h;cases h
    | some x =>
     obtain ⟨x1,x2⟩:=x
     rw [hl] at h
     cases h
     rw [cutC_some l x1 x2 hl];rfl
theorem cutH_app (l:List UInt8):(cutH l).1 ++ (cutH l).2 = l:=by
 unfold cutH
 cases hc:cutB 47 l with
 | none=>simp
 | some x =>
  obtain ⟨x1,x2⟩:=x
  exact ((cutB_some 47 l x1 x2 hc).1).symm
theorem cutO_app (d:UInt8) (l:List UInt8):(cutO d l).1 ++ opt (cutO d l).2.2 (d::(cutO d l).2.1) = l:=by
 unfold cutO
 cases hc:cutB d l with
 | none=>simp [opt]
 | some x =>
  obtain ⟨x1,x2⟩:=x
  simp only [opt,if_true]
  exact ((cutB_some d l x1 x2 hc).1).symm
end Go.Proofs.YtbbfcbodhmeanaaGreatDoor

