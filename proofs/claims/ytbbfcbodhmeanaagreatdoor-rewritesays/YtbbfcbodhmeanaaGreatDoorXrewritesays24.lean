
import Derived.Test.YtbbfcbodhmeanaaGreatDoorXrewritesays23
import Derived.Lib.SplitLaws
import Derived.OwnWalk
import Derived.Laws.AppendOwn
namespace Go.Proofs.YtbbfcbodhmeanaaGreatDoor
open Go.RowKit
def UPost (w:World) (r:UL × Nat) (e:Ending) (w':World):Prop:=e = .returned (.tuple #[(ofL r.1).v,.int .i64 (r.2:Int)])∧Below w.heap.size w w'
def bar (l:List UInt8):ByteArray:=⟨l.toArray⟩
theorem bar_l (l:List UInt8):(bar l).data.toList = l:=rfl
theorem bar_size (l:List UInt8):(bar l).size = l.length:=by show l.toArray.size = _;simp
theorem cutO_len (d:UInt8) (l:List UInt8):(cutO d l).1.length≤l.length∧(cutO d l).2.1.length≤l.length:=by
 have:=congrArg List.length (cutO_app d l)
 rw [List.length_append] at this
 refine ⟨by omega,?_⟩
 unfold cutO
 cases hc:cutB d l with
 | none=>simp
 | some x =>
  have h:=congrArg List.length (cutB_some d l x.1 x.2 hc).1
  simp only [List.length_append,List.length_cons] at h
  simp only
  omega
theorem upost_end {w w':World} {e:Ending} (u:UV) (h:e = .returned (.tuple #[if checkU u.l = 0 then u.v else (ofL noUL).v,.int .i64 (checkU u.l:Nat)])∧Below w.heap.size w w'):UPost w (checkedU u.l) e w':=by
 obtain ⟨rfl,hb⟩:=h
 refine ⟨?_,hb⟩
 unfold checkedU
 by_cases h:checkU u.l = 0
 ·rw [if_pos h,if_pos h,h];rfl
 ·rw [if_neg h,if_neg h]
theorem cutpre_no (Y:List UInt8) (h:preSS Y = false) (w:World):Calls Tryz.prog 81 #[.string (bar Y),.string ⟨#[47,47]⟩] w fun e w'=>e = .returned (.tuple #[.string (bar Y),.bool false])∧w' = w:=by
 refine (Tryz.strings_CutPrefix (bar Y) ⟨#[47,47]⟩ w).mono ?_
 rintro e w' ⟨rfl,rfl⟩
 refine ⟨?_,rfl⟩
 have e1:Lib.hasPrefix (bar Y).data.toList (ByteArray.mk #[47,47]).data.toList = false:=(pre_ss Y).trans h
 rw [show Lib.trimPrefix (bar Y).data.toList (ByteArray.mk #[47,47]).data.toList = Y from by unfold Lib.trimPrefix;rw [e1];rfl,e1]
 rfl
theorem cutpre_yes (Y:List UInt8) (h:preSS Y = true) (w:World):Calls Tryz.prog 81 #[.string (bar Y),.string ⟨#[47,47]⟩] w fun e w'=>e = .returned (.tuple #[.string (bar (Y.drop 2)),.bool true])∧w' = w:=by
 refine (Tryz.strings_CutPrefix (bar Y) ⟨#[47,47]⟩ w).mono ?_
 rintro e w' ⟨rfl,rfl⟩
 refine ⟨?_,rfl⟩
 have e1:Lib.hasPrefix (bar Y).data.toList (ByteArray.mk #[47,47]).data.toList = true:=(pre_ss Y).trans h
 rw [show Lib.trimPrefix (bar Y).data.toList (ByteArray.mk #[47,47]).data.toList = Y.drop 2 from by unfold Lib.trimPrefix;rw [e1];rfl,e1]
 rfl
theorem ixb_any (X:List UInt8) (w:World):Calls Tryz.prog 93 #[.string (bar X),.int .u8 47] w fun e w'=>e = .returned (.int .i64 (whereB 47 X))∧w' = w:=by
 refine (Tryz.strings_IndexByte (bar X) 47 w).mono ?_
 rintro e w' ⟨rfl,rfl⟩
 refine ⟨?_,rfl⟩
 rw [bar_l,show ((47:Int).toNat.toUInt8) = 47 from rfl,indexByte_where]
theorem ext_take (l:List UInt8) (k:Nat):(bar l).extract 0 k = bar (l.take k):=by
 apply ba_inj
 rw [Lib.extract_data,bar_l,bar_l]
 simp
theorem ext_drop (l:List UInt8) (k:Nat):(bar l).extract k (bar l).size = bar (l.drop k):=by
 apply ba_inj
 rw [Lib.extract_data,bar_l,bar_l,bar_size]
 exact List.take_of_length_le (by rw [List.length_drop];exact Nat.le_refl _)
theorem short_of (u:UV) (h1:u.sch.size≤120) (h2:u.hst.size≤120) (h3:u.pth.size≤120) (h4:u.qry.size≤120) (h5:u.frg.size≤120):u.short maxLen:=by
 unfold maxLen
 exact ⟨by omega,by omega,by omega,by omega,by omega⟩
theorem smallU_length (l:List UInt8):(smallU l).length = l.length:=by unfold smallU;rw [List.length_map]
theorem usmb_any (l:List UInt8) (h:l.length≤120) (w:World):Calls Tryz.prog 91 #[.string (bar l)] w fun e w'=>e = .returned (.string (bar (smallU l)))∧Below w.heap.size w w':=usm_any (bar l) w (by rw [bar_size];omega)
theorem uparse_any (s:ByteArray) (hs:s.size≤maxLen) (w:World) :
  Calls Tryz.prog 50 #[.string s] w fun e w'=>UPost w (parseU s.data.toList) e w':=by
 by_cases hl:120 < s.size
 ·refine (parse_long s hs hl w).mono ?_
  rintro e w' ⟨rfl,hb⟩
  refine ⟨?_,hb⟩
  unfold parseU
  rw [if_pos (by rw [← Lib.size_eq];exact hl)]
  rfl
 ·have hl':s.size≤120:=by omega
  have hll:s.data.toList.length≤120:=by rw [← Lib.size_eq];exact hl'
  unfold parseU
  rw [if_neg (by omega)]
  obtain ⟨l1,l2⟩:=cutO_len 35 s.data.toList
  have CU1:=fun W=>ucut_any 35 s (bar (cutO 35 s.data.toList).1) (bar (cutO 35 s.data.toList).2.1) (cutO 35 s.data.toList).2.2 rfl (by omega) W
  generalize (cutO 35 s.data.toList).2.2 = F1 at *
  generalize (cutO 35 s.data.toList).2.1 = R1 at *
  generalize (cutO 35 s.data.toList).1 = A1 at *
  obtain ⟨l3,l4⟩:=cutO_len 63 A1
  have CU2:=fun W=>ucut_any 63 (bar A1) (bar (cutO 63 A1).1) (bar (cutO 63 A1).2.1) (cutO 63 A1).2.2 rfl (by rw [bar_size];omega) W
  generalize (cutO 63 A1).2.2 = F2 at *
  generalize (cutO 63 A1).2.1 = R2 at *
  generalize (cutO 63 A1).1 = A2 at *
  have CO:=fun W=>ucolon_any (bar A2) W (by rw [bar_size];omega)
  rw [bar_l] at CO
  unfold parseA whereC at *
  cases hc:cutC A2 with
  | none =>
   simp only [hc] at CO ⊢
   unfold hostU
   cases hp:preSS A2 with
   | false =>
    rw [if_neg (by simp)]
    exact (parse_NN s (bar A1) (bar R1) (bar A2) (bar R2) (bar A2) F1 F2 _ w hl' CU1 CU2 CO (fun W=>cutpre_no A2 hp W) (fun W=>ucheck_any ⟨⟨#[]⟩,false,⟨#[]⟩,bar A2,F2,bar R2,F1,bar R1⟩ (short_of _ (by show 0≤120;omega) (by show 0≤120;omega) (by rw [bar_size];omega) (by rw [bar_size];omega) (by rw [bar_size];omega)) W)).mono (fun e w' h=>upost_end ⟨⟨#[]⟩,false,⟨#[]⟩,bar A2,F2,bar R2,F1,bar R1⟩ h)
   | true =>
    rw [if_pos rfl]
    have hd:(A2.drop 2).length≤120:=by rw [List.length_drop];omega
    unfold cutH
    have CI:=fun W=>ixb_any (A2.drop 2) W
    cases hx:cutB 47 (A2.drop 2) with
    | none =>
     simp only
     rw [whereB_none hx] at CI
     exact (parse_NE s (bar A1) (bar R1) (bar A2) (bar R2) (bar (A2.drop 2)) (bar (smallU (A2.drop 2))) F1 F2 _ w hl' CU1 CU2 CO (fun W=>cutpre_yes A2 hp W) (by rw [bar_size];exact hd) CI (fun W=>usmb_any _ hd W) (fun W=>ucheck_any ⟨⟨#[]⟩,true,bar (smallU (A2.drop 2)),⟨#[]⟩,F2,bar R2,F1,bar R1⟩ (short_of _ (by show 0≤120;omega) (by rw [bar_size,smallU_length];omega) (by show 0≤120;omega) (by rw [bar_size];omega) (by rw [bar_size];omega)) W)).mono (fun e w' h=>upost_end ⟨⟨#[]⟩,true,bar (smallU (A2.drop 2)),⟨#[]⟩,F2,bar R2,F1,bar R1⟩ h)
    | some x =>
     obtain ⟨x1,x2⟩:=x
     simp only
     rw [whereB_some hx] at CI
     have hxe:=(cutB_some 47 _ _ _ hx).1
     have hxl:=congrArg List.length hxe
     simp only [List.length_append,List.length_cons] at hxl
     exact (parse_NS s (bar A1) (bar R1) (bar A2) (bar R2) (bar (A2.drop 2)) (bar x1) (bar (smallU x1)) (bar (47::x2)) F1 F2 x1.length _ w hl' CU1 CU2 CO (fun W=>cutpre_yes A2 hp W) (by rw [bar_size];exact hd) CI (by rw [bar_size];omega) (by rw [ext_take,hxe,List.take_left]) (by rw [ext_drop,hxe,List.drop_left]) (fun W=>usmb_any _ (by omega) W) (fun W=>ucheck_any ⟨⟨#[]⟩,true,bar (smallU x1),bar (47::x2),F2,bar R2,F1,bar R1⟩ (short_of _ (by show 0≤120;omega) (by rw [bar_size,smallU_length];omega) (by rw [bar_size,List.length_cons];omega) (by rw [bar_size];omega) (by rw [bar_size];omega)) W)).mono (fun e w' h=>upost_end ⟨⟨#[]⟩,true,bar (smallU x1),bar (47::x2),F2,bar R2,F1,bar R1⟩ h)
  | some y =>
   obtain ⟨a,r⟩:=y
   simp only [hc] at CO ⊢
   have hae:=cutC_some A2 a r hc
   have hal:=congrArg List.length hae
   simp only [List.length_append,List.length_cons] at hal
   have hA2:(bar A2).size≤120:=by rw [bar_size];omega
   have hk:a.length + 1≤(bar A2).size:=by rw [bar_size];omega
   have hSA:(bar A2).extract 0 a.length = bar a:=by rw [ext_take,hae,List.take_left]
   have hSB:(bar A2).extract (a.length + 1) (bar A2).size = bar r:=by
    rw [ext_drop,hae,← List.drop_drop,List.drop_left];rfl
   have CSM:=fun W=>usmb_any a (by omega) W
   have CSC:=fun W=>uscheme_any (bar (smallU a)) W (by rw [bar_size,smallU_length];omega)
   rw [bar_l] at CSC
   cases hsc:schemeS (smallU a) with
   | false =>
    rw [hsc] at CSC
    rw [if_pos rfl]
    refine (parse_YB s (bar A1) (bar R1) (bar A2) (bar R2) (bar a) (bar r) (bar (smallU a)) F1 F2 a.length w hl' CU1 CU2 CO hA2 hk hSA hSB CSM CSC).mono ?_
    rintro e w' ⟨rfl,hb⟩
    exact ⟨rfl,hb⟩
   | true =>
    rw [hsc] at CSC
    rw [if_neg (by simp)]
    unfold hostU
    cases hp:preSS r with
    | false =>
     rw [if_neg (by simp)]
     exact (parse_YN s (bar A1) (bar R1) (bar A2) (bar R2) (bar a) (bar r) (bar (smallU a)) (bar r) F1 F2 a.length _ w hl' CU1 CU2 CO hA2 hk hSA hSB CSM CSC (fun W=>cutpre_no r hp W) (fun W=>ucheck_any ⟨bar (smallU a),false,⟨#[]⟩,bar r,F2,bar R2,F1,bar R1⟩ (short_of _ (by rw [bar_size,smallU_length];omega) (by show 0≤120;omega) (by rw [bar_size];omega) (by rw [bar_size];omega) (by rw [bar_size];omega)) W)).mono (fun e w' h=>upost_end ⟨bar (smallU a),false,⟨#[]⟩,bar r,F2,bar R2,F1,bar R1⟩ h)
    | true =>
     rw [if_pos rfl]
     have hd:(r.drop 2).length≤120:=by rw [List.length_drop];omega
     unfold cutH
     have CI:=fun W=>ixb_any (r.drop 2) W
     cases hx:cutB 47 (r.drop 2) with
     | none =>
      simp only
      rw [whereB_none hx] at CI
      exact (parse_YE s (bar A1) (bar R1) (bar A2) (bar R2) (bar a) (bar r) (bar (smallU a)) (bar (r.drop 2)) (bar (smallU (r.drop 2))) F1 F2 a.length _ w hl' CU1 CU2 CO hA2 hk hSA hSB CSM CSC (fun W=>cutpre_yes r hp W) (by rw [bar_size];exact hd) CI (fun W=>usmb_any _ hd W) (fun W=>ucheck_any ⟨bar (smallU a),true,bar (smallU (r.drop 2)),⟨#[]⟩,F2,bar R2,F1,bar R1⟩ (short_of _ (by rw [bar_size,smallU_length];omega) (by rw [bar_size,smallU_length];omega) (by show 0≤120;omega) (by rw [bar_size];omega) (by rw [bar_size];omega)) W)).mono (fun e w' h=>upost_end ⟨bar (smallU a),true,bar (smallU (r.drop 2)),⟨#[]⟩,F2,bar R2,F1,bar R1⟩ h)
     | some x =>
      obtain ⟨x1,x2⟩:=x
      simp only
      rw [whereB_some hx] at CI
      have hxe:=(cutB_some 47 _ _ _ hx).1
      have hxl:=congrArg List.length hxe
      simp only [List.length_append,List.length_cons] at hxl
      exact (parse_YS s (bar A1) (bar R1) (bar A2) (bar R2) (bar a) (bar r) (bar (smallU a)) (bar (r.drop 2)) (bar x1) (bar (smallU x1)) (bar (47::x2)) F1 F2 a.length x1.length _ w hl' CU1 CU2 CO hA2 hk hSA hSB CSM CSC (fun W=>cutpre_yes r hp W) (by rw [bar_size];exact hd) CI (by rw [bar_size];omega) (by rw [ext_take,hxe,List.take_left]) (by rw [ext_drop,hxe,List.drop_left]) (fun W=>usmb_any _ (by omega) W) (fun W=>ucheck_any ⟨bar (smallU a),true,bar (smallU x1),bar (47::x2),F2,bar R2,F1,bar R1⟩ (short_of _ (by rw [bar_size,smallU_length];omega) (by rw [bar_size,smallU_length];omega) (by rw [bar_size,List.length_cons];omega) (by rw [bar_size];omega) (by rw [bar_size];omega)) W)).mono (fun e w' h=>upost_end ⟨bar (smallU a),true,bar (smallU x1),bar (47::x2),F2,bar R2,F1,bar R1⟩ h)
end Go.Proofs.YtbbfcbodhmeanaaGreatDoor



namespace Go.Proofs.YtbbfcbodhmeanaaGreatDoor
open Go.RowKit
def strv (l:List ByteArray):List Value:=l.map Value.string
def lst (l:List ByteArray):List (List UInt8):=l.map fun x=>x.data.toList
theorem strv_snoc (l:List ByteArray) (x:ByteArray):strv (l ++ [x]) = strv l ++ [.string x]:=by simp [strv]
theorem lst_snoc (l:List ByteArray) (x:ByteArray):lst (l ++ [x]) = lst l ++ [x.data.toList]:=by simp [lst]
theorem lst_length (l:List ByteArray):(lst l).length = l.length:=by simp [lst]
theorem info_str:(Tryz.prog.info? 9).map (fun i=>(i.zero,i.size,i.bytes)) = some (some (.string ⟨#[]⟩),1,16):=by kernel_rfl
theorem owned_slU {w:World} {B e s n:Nat} {v:Value} {xs:List Value} (h:w.ownsRow B e s v n xs):∃ p c,v = .slice p n c:=by
 rcases h.2 with ⟨rfl,rfl⟩ | ⟨g,cap,cur,rfl,_⟩
 ·exact ⟨none,0,rfl⟩
 ·exact ⟨_,_,rfl⟩
theorem cell_loU (w:World) (v:Value) (t:TypeId) (b:Nat) (hb:b = w.heap.size):∀ j x,[v][j]? = some x→(w.alloc (.cells #[v] t)).cell? ((⟨b,0,none⟩:Addr).add j) = some x:=by
 subst hb
 exact cell_one w v t rfl
theorem owned_some {w:World} {B e n:Nat} {p:Option Addr} {c:Nat} {xs:List Value} (h:w.ownsRow B e 1 (.slice p (n + 1) c) (n + 1) xs):∃ g,p = some ⟨g,0,none⟩∧g < w.heap.size∧n + 1≤c:=by
 rcases h.2 with ⟨h0,_⟩ | ⟨g,cap,cur,hv,hg,hh,hn,_⟩
 ·cases h0
 ·cases hv
  exact ⟨g,rfl,(Array.getElem?_eq_some_iff.1 hh).1,hn⟩
theorem join_joinP (xs:List (List UInt8)):Lib.join xs [47] = joinP xs:=by
 cases xs with
 | nil=>rfl
 | cons a t =>
  rw [Lib.join_cons]
  show _ = joinG [47] a t
  induction t generalizing a with
  | nil=>simp [Lib.joinTail,joinG]
  | cons b t ih =>
   rw [joinG,← ih b]
   simp [Lib.joinTail]
theorem joinP_short (M:Nat) (xs:List (List UInt8)) (h:∀ x ∈ xs,x.length≤M):(joinP xs).length≤xs.length * (M + 1):=by
 cases xs with
 | nil=>exact Nat.zero_le _
 | cons a t =>
  show (joinG [47] a t).length≤_
  induction t generalizing a with
  | nil=>have:=h a (by simp);simp [joinG];omega
  | cons b t ih =>
   have h1:=h a (by simp)
   have h2:=ih b (fun x hx=>h x (by simp at hx ⊢;exact .inr hx))
   simp only [joinG,List.length_append,List.length_cons,List.length_nil] at h2 ⊢
   rw [Nat.add_mul] at h2 ⊢
   rw [Nat.add_mul] at ⊢
   omega
theorem dots_skip (s:List UInt8) (r left:List (List UInt8)) (h:isDot s = false):dotsGo (s::r) left = dotsGo r (left ++ [s]):=by rw [dotsGo,if_neg (by rw [h];simp)]
theorem dots_dot (s:List UInt8) (r left:List (List UInt8)) (h:isDot s = true):dotsGo (s::r) left = dotsGo r (if r.isEmpty then backP s left ++ [[]] else backP s left):=by rw [dotsGo,if_pos h]
theorem lst_drop (xs:List ByteArray) (k:Nat) (h:k < xs.length):lst (xs.drop k) = (xs.getD k ByteArray.empty).data.toList::lst (xs.drop (k + 1)):=by
 rw [List.drop_eq_getElem_cons h,List.getD_eq_getElem?_getD,List.getElem?_eq_getElem h]
 rfl
theorem lst_last (xs:List ByteArray) (k:Nat):(lst (xs.drop k)).isEmpty = decide (xs.length≤k):=by
 rw [Bool.eq_iff_iff]
 simp [lst]
set_option maxHeartbeats 8000000 in
set_option maxRecDepth 100000 in
theorem dots_walk (b n c:Nat) (s:ByteArray) (xs:List ByteArray) (hn:Hid (n = xs.length)) (hn2:n≤1000) (hx:Hid (∀ x ∈ xs,x.size≤1000)) (w w1:World) (hb1:Below w.heap.size w w1) (hbw:b < w1.heap.size)
  (CS:Hid (Calls Tryz.prog 57 #[.string s,.string ⟨#[47]⟩] w fun e w'=>e = .returned (.slice (some ⟨b,0,none⟩) n c)∧w' = w1))
  (hc:Hid (∀ i,i < n→w1.cell? ⟨b,i,none⟩ = some (.string (xs.getD i ByteArray.empty)))) :
  Calls Tryz.prog 96 #[.string s] w fun e w'=>e = .returned (.string (bar (joinP (dotsGo (lst xs) []))))∧Below w.heap.size w w':=by
 obtain ⟨i0,hi,hz0,hz1,hz2⟩:=info_parts info_str
 obtain ⟨RES,hRES⟩:∃ RES,dotsGo (lst xs) [] = RES:=⟨_,rfl⟩
 rw [hRES]
 have HR0:Hid (dotsGo (lst xs) [] = RES):=hRES
 clear hRES
 go_enter Tryz.func96,Tryz.ntmps96
 go_wp2_with fail
 refine CS.out.mono ?_
 rintro e w' ⟨rfl,hw'⟩
 have hw'':=hw'.symm
 subst hw''
 clear CS
 go_wp2_with fail
 go_loopw [4,11] (fun lv iv wr=>∃ (k:Nat) (p:Option Addr) (m c1:Nat) (ls:List ByteArray),k≤n∧iv = .int .i64 k∧lv = .slice p m c1∧m≤k∧Hid (m = ls.length)∧Below w1.heap.size w1 wr∧Hid (wr.ownsRow w1.heap.size 9 1 (.slice p m c1) m (strv ls))∧Hid (∀ x ∈ ls,x.size≤1000)∧Hid (dotsGo (lst (xs.drop k)) (lst ls) = RES)) (fun _ iv _=>n - (intOf iv).toNat)
 case atStart=>exact ⟨0,none,0,0,[],Nat.zero_le _,rfl,rfl,Nat.le_refl _,rfl,Below.refl _ _,World.ownsRow_nil _ _ _ _,(fun x hx=>by cases hx),HR0⟩
 case round =>
  obtain ⟨k,p,m,c1,ls,hk,rfl,rfl,hmk,HM,hbr,HO,HL,HR⟩:=hrel
  clear HR0
  have hsz:=hbr.size
  by_cases hlt:k < n
  ·have hck:wr.cell? ⟨b,k,none⟩ = some (.string (xs.getD k ByteArray.empty)):=(hbr.cell (p:=⟨b,k,none⟩) hbw).trans (hc.out k hlt)
   have hkl:k < xs.length:=by rw [← hn.out];exact hlt
   have hxs:Hid ((xs.getD k ByteArray.empty).size≤1000):=hx.out _ (by rw [List.getD_eq_getElem?_getD,List.getElem?_eq_getElem hkl];exact List.getElem_mem hkl)
   have hld:=lst_drop xs k hkl
   have hle:=lst_last xs (k + 1)
   rw [← hn.out] at hle
   have HD:Hid (lst (xs.drop k) = (xs.getD k ByteArray.empty).data.toList::lst (xs.drop (k + 1))):=hld
   have HE:Hid ((lst (xs.drop (k + 1))).isEmpty = decide (n≤k + 1)):=hle
   clear hld hle hkl
   generalize xs.getD k ByteArray.empty = x at *
   rw [HD.out] at HR
   obtain ⟨rest,hrest⟩:∃ rest,lst (xs.drop (k + 1)) = rest:=⟨_,rfl⟩
   rw [hrest] at HR HE
   have HRS:Hid (lst (xs.drop (k + 1)) = rest):=hrest
   clear hrest
   by_cases h1:x.data.toList = [46]
   ·have hx1:x.toList = [46]:=by rw [ByteArray.toList_eq];exact h1
    have hx2:¬ x.toList = [46,46]:=by rw [ByteArray.toList_eq,h1];decide
    have HR2:Hid (dotsGo rest (if rest.isEmpty then lst ls ++ [[]] else lst ls) = RES):=by
     unfold Hid
     rw [← HR.out,h1,dots_dot _ _ _ rfl]
     rfl
    clear HR h1 HD
    by_cases hlast:n≤k + 1
    ·have hli:((k:Int) == (n:Int) - 1) = true:=by rw [beq_iff_eq];omega
     have HR3:Hid (dotsGo rest (lst (ls ++ [⟨#[]⟩])) = RES):=by
      unfold Hid
      rw [← HR2.out,HE.out,decide_eq_true hlast,if_pos rfl,lst_snoc]
     have hoy:=HO.out
     clear HR2 HE
     go_wp2_with (at_builtin;refine wpList_append_own _ rfl (.tmp 43) (.tmp 44) 26 rfl w1.heap.size 9 i0 (.string ⟨#[]⟩) 1 16 Tryz.underlying26 hi hz0 hz1 hz2 rfl (by decide) _ _ _ rfl (hoy.alloc _) ⟨wr.heap.size,0,none⟩ 1 1 [.string ⟨#[]⟩] rfl rfl (cell_loU _ _ _ _ rfl) ?c2 ?c3 ?c4 ?c5 ?_)
     case c2=>first | rfl | (intro u hu;simp at hu;subst hu;rfl)
     case c3=>unfold maxLen;omega
     case c4=>omega
     case c5=>first | omega | (simp;omega)
     intro v9 w9 hown9 hg9 _
     have hb9:Below w1.heap.size w1 w9:=(hbr.alloc hsz _).grown hg9 (by simp;omega) (fun j hj=>(hoy.lt j hj).1)
     obtain ⟨q9,c9,rfl⟩:=owned_slU hown9
     have HO9:Hid (w9.ownsRow w1.heap.size 9 1 (.slice q9 (m + 1) c9) (m + 1) (strv (ls ++ [(⟨#[]⟩:ByteArray)]))):=by unfold Hid;rw [strv_snoc];exact hown9
     have HM9:Hid (m + 1 = (ls ++ [(⟨#[]⟩:ByteArray)]).length):=by unfold Hid;rw [List.length_append,← HM.out];rfl
     have HL9:Hid (∀ z ∈ ls ++ [(⟨#[]⟩:ByteArray)],z.size≤1000):=fun z hz=>by
      rcases List.mem_append.1 hz with h | h
      ·exact HL.out z h
      ·simp at h;subst h;exact (by decide)
     clear hown9 hg9 hoy
     go_wp2_with fail
     go_roundw
     case rel=>exact ⟨k + 1,q9,m + 1,c9,ls ++ [(⟨#[]⟩:ByteArray)],by omega,by go_num,rfl,by omega,HM9,hb9,HO9,HL9,by unfold Hid;rw [HRS.out];exact HR3⟩
     case measure=>simp [intOf];omega
    ·have hli:((k:Int) == (n:Int) - 1) = false:=by rw [beq_eq_false_iff_ne];omega
     have HR3:Hid (dotsGo rest (lst ls) = RES):=by
      unfold Hid
      rw [← HR2.out,HE.out,decide_eq_false hlast,if_neg (by simp)]
     clear HR2 HE
     go_wp2_with fail
     go_roundw
     case rel=>exact ⟨k + 1,p,m,c1,ls,by omega,by go_num,rfl,by omega,HM,hbr,HO,HL,by unfold Hid;rw [HRS.out];exact HR3⟩
     case measure=>simp [intOf];omega
   ·by_cases h2:x.data.toList = [46,46]
    ·have hx1:¬ x.toList = [46]:=by rw [ByteArray.toList_eq,h2];decide
     have hx2:x.toList = [46,46]:=by rw [ByteArray.toList_eq];exact h2
     by_cases hm1:1 < m
     ·obtain ⟨m',rfl⟩:∃ m',m = m' + 1:=⟨m - 1,by omega⟩
      have hm2:1≤m':=by omega
      obtain ⟨g,rfl,hg1,hg2⟩:=owned_some HO.out
      rcases List.eq_nil_or_concat ls with hnil | ⟨ls',y,hls⟩
      ·exact absurd HM.out (by rw [hnil];simp)
      rw [List.concat_eq_append] at hls
      subst hls
      have HM2:Hid (m' = ls'.length):=by have:=HM.out;rw [List.length_append] at this;simp at this;exact this
      have HO2:Hid (wr.ownsRow w1.heap.size 9 1 (.slice (some ⟨g,0,none⟩) m' c1) m' (strv ls')):=by
       have:=HO.out
       rw [strv_snoc] at this
       exact ownsRow_pop (by simp [strv];exact HM2.out.symm) this
      have HL2:Hid (∀ z ∈ ls',z.size≤1000):=fun z hz=>HL.out z (by simp [hz])
      have HR2:Hid (dotsGo rest (if rest.isEmpty then lst ls' ++ [[]] else lst ls') = RES):=by
       unfold Hid
       rw [← HR.out,h2,dots_dot _ _ _ rfl]
       have hbp:backP [46,46] (lst (ls' ++ [y])) = lst ls':=by
        unfold backP
        rw [if_pos (by
         rw [lst_length,List.length_append,← HM2.out,List.length_singleton,decide_eq_true hm1]
         rfl),lst_snoc,List.dropLast_concat]
       rw [hbp]
      have hmi:(1:Int) < ((m' + 1:Nat):Int):=by omega
      clear HR h2 HD HM HO HL hm1
      by_cases hlast:n≤k + 1
      ·have hli:((k:Int) == (n:Int) - 1) = true:=by rw [beq_iff_eq];omega
       have HR3:Hid (dotsGo rest (lst (ls' ++ [⟨#[]⟩])) = RES):=by
        unfold Hid
        rw [← HR2.out,HE.out,decide_eq_true hlast,if_pos rfl,lst_snoc]
       have hoy:=HO2.out
       clear HR2 HE
       go_wp2_with (at_builtin;refine wpList_append_own _ rfl (.tmp 43) (.tmp 44) 26 rfl w1.heap.size 9 i0 (.string ⟨#[]⟩) 1 16 Tryz.underlying26 hi hz0 hz1 hz2 rfl (by decide) _ _ _ rfl (hoy.alloc _) ⟨wr.heap.size,0,none⟩ 1 1 [.string ⟨#[]⟩] rfl rfl (cell_loU _ _ _ _ rfl) ?c2 ?c3 ?c4 ?c5 ?_)
       case c2=>first | rfl | (intro u hu;simp at hu;subst hu;rfl)
       case c3=>unfold maxLen;omega
       case c4=>omega
       case c5=>first | omega | (simp;omega)
       intro v9 w9 hown9 hg9 _
       have hb9:Below w1.heap.size w1 w9:=(hbr.alloc hsz _).grown hg9 (by simp;omega) (fun j hj=>(hoy.lt j hj).1)
       obtain ⟨q9,c9,rfl⟩:=owned_slU hown9
       have HO9:Hid (w9.ownsRow w1.heap.size 9 1 (.slice q9 (m' + 1) c9) (m' + 1) (strv (ls' ++ [(⟨#[]⟩:ByteArray)]))):=by unfold Hid;rw [strv_snoc];exact hown9
       have HM9:Hid (m' + 1 = (ls' ++ [(⟨#[]⟩:ByteArray)]).length):=by unfold Hid;rw [List.length_append,← HM2.out];rfl
       have HL9:Hid (∀ z ∈ ls' ++ [(⟨#[]⟩:ByteArray)],z.size≤1000):=fun z hz=>by
        rcases List.mem_append.1 hz with h | h
        ·exact HL2.out z h
        ·simp at h;subst h;exact (by decide)
       clear hown9 hg9 hoy
       go_wp2_with fail
       go_roundw
       case rel=>exact ⟨k + 1,q9,m' + 1,c9,ls' ++ [(⟨#[]⟩:ByteArray)],by omega,by go_num,rfl,by omega,HM9,hb9,HO9,HL9,by unfold Hid;rw [HRS.out];exact HR3⟩
       case measure=>simp [intOf];omega
      ·have hli:((k:Int) == (n:Int) - 1) = false:=by rw [beq_eq_false_iff_ne];omega
       have HR3:Hid (dotsGo rest (lst ls') = RES):=by
        unfold Hid
        rw [← HR2.out,HE.out,decide_eq_false hlast,if_neg (by simp)]
       clear HR2 HE
       go_wp2_with fail
       go_roundw
       case rel=>exact ⟨k + 1,some ⟨g,0,none⟩,m',c1,ls',by omega,by go_num,rfl,by omega,HM2,hbr,HO2,HL2,by unfold Hid;rw [HRS.out];exact HR3⟩
       case measure=>simp [intOf];omega
     ·have HR2:Hid (dotsGo rest (if rest.isEmpty then lst ls ++ [[]] else lst ls) = RES):=by
       unfold Hid
       rw [← HR.out,h2,dots_dot _ _ _ rfl]
       have hbp:backP [46,46] (lst ls) = lst ls:=by
        unfold backP
        rw [if_neg (by
         rw [lst_length,← HM.out,decide_eq_false hm1]
         simp)]
       rw [hbp]
      have hmi:¬ (1:Int) < (m:Int):=by omega
      clear HR h2 HD
      by_cases hlast:n≤k + 1
      ·have hli:((k:Int) == (n:Int) - 1) = true:=by rw [beq_iff_eq];omega
       have HR3:Hid (dotsGo rest (lst (ls ++ [⟨#[]⟩])) = RES):=by
        unfold Hid
        rw [← HR2.out,HE.out,decide_eq_true hlast,if_pos rfl,lst_snoc]
       have hoy:=HO.out
       clear HR2 HE
       go_wp2_with (at_builtin;refine wpList_append_own _ rfl (.tmp 43) (.tmp 44) 26 rfl w1.heap.size 9 i0 (.string ⟨#[]⟩) 1 16 Tryz.underlying26 hi hz0 hz1 hz2 rfl (by decide) _ _ _ rfl (hoy.alloc _) ⟨wr.heap.size,0,none⟩ 1 1 [.string ⟨#[]⟩] rfl rfl (cell_loU _ _ _ _ rfl) ?c2 ?c3 ?c4 ?c5 ?_)
       case c2=>first | rfl | (intro u hu;simp at hu;subst hu;rfl)
       case c3=>unfold maxLen;omega
       case c4=>omega
       case c5=>first | omega | (simp;omega)
       intro v9 w9 hown9 hg9 _
       have hb9:Below w1.heap.size w1 w9:=(hbr.alloc hsz _).grown hg9 (by simp;omega) (fun j hj=>(hoy.lt j hj).1)
       obtain ⟨q9,c9,rfl⟩:=owned_slU hown9
       have HO9:Hid (w9.ownsRow w1.heap.size 9 1 (.slice q9 (m + 1) c9) (m + 1) (strv (ls ++ [(⟨#[]⟩:ByteArray)]))):=by unfold Hid;rw [strv_snoc];exact hown9
       have HM9:Hid (m + 1 = (ls ++ [(⟨#[]⟩:ByteArray)]).length):=by unfold Hid;rw [List.length_append,← HM.out];rfl
       have HL9:Hid (∀ z ∈ ls ++ [(⟨#[]⟩:ByteArray)],z.size≤1000):=fun z hz=>by
        rcases List.mem_append.1 hz with h | h
        ·exact HL.out z h
        ·simp at h;subst h;exact (by decide)
       clear hown9 hg9 hoy
       go_wp2_with fail
       go_roundw
       case rel=>exact ⟨k + 1,q9,m + 1,c9,ls ++ [(⟨#[]⟩:ByteArray)],by omega,by go_num,rfl,by omega,HM9,hb9,HO9,HL9,by unfold Hid;rw [HRS.out];exact HR3⟩
       case measure=>simp [intOf];omega
      ·have hli:((k:Int) == (n:Int) - 1) = false:=by rw [beq_eq_false_iff_ne];omega
       have HR3:Hid (dotsGo rest (lst ls) = RES):=by
        unfold Hid
        rw [← HR2.out,HE.out,decide_eq_false hlast,if_neg (by simp)]
       clear HR2 HE
       go_wp2_with fail
       go_roundw
       case rel=>exact ⟨k + 1,p,m,c1,ls,by omega,by go_num,rfl,by omega,HM,hbr,HO,HL,by unfold Hid;rw [HRS.out];exact HR3⟩
       case measure=>simp [intOf];omega
    ·have hx1:(x.toList == [46]) = false:=by rw [beq_eq_false_iff_ne,ByteArray.toList_eq];exact h1
     have hx2:(x.toList == [46,46]) = false:=by rw [beq_eq_false_iff_ne,ByteArray.toList_eq];exact h2
     have HR2:Hid (dotsGo rest (lst (ls ++ [x])) = RES):=by
      unfold Hid
      rw [← HR.out,dots_skip _ _ _ (by unfold isDot;simp [h1,h2]),lst_snoc]
     have hoy:=HO.out
     clear HR h1 h2 HD HE
     go_wp2_with (at_builtin;refine wpList_append_own _ rfl (.tmp 22) (.tmp 24) 26 rfl w1.heap.size 9 i0 (.string ⟨#[]⟩) 1 16 Tryz.underlying26 hi hz0 hz1 hz2 rfl (by decide) _ _ _ rfl (hoy.alloc _) ⟨wr.heap.size,0,none⟩ 1 1 [.string x] rfl rfl (cell_loU _ _ _ _ rfl) ?c2 ?c3 ?c4 ?c5 ?_)
     case c2=>first | rfl | (intro u hu;simp at hu;subst hu;rfl)
     case c3=>unfold maxLen;omega
     case c4=>omega
     case c5=>first | omega | (simp;omega)
     intro v9 w9 hown9 hg9 _
     have hb9:Below w1.heap.size w1 w9:=(hbr.alloc hsz _).grown hg9 (by simp;omega) (fun j hj=>(hoy.lt j hj).1)
     obtain ⟨q9,c9,rfl⟩:=owned_slU hown9
     have HO9:Hid (w9.ownsRow w1.heap.size 9 1 (.slice q9 (m + 1) c9) (m + 1) (strv (ls ++ [x]))):=by unfold Hid;rw [strv_snoc];exact hown9
     have HM9:Hid (m + 1 = (ls ++ [x]).length):=by unfold Hid;rw [List.length_append,← HM.out];rfl
     have HL9:Hid (∀ z ∈ ls ++ [x],z.size≤1000):=fun z hz=>by
      rcases List.mem_append.1 hz with h | h
      ·exact HL.out z h
      ·simp at h;subst h;exact hxs.out
     clear hown9 hg9 hoy
     go_wp2_with fail
     go_roundw
     case rel=>exact ⟨k + 1,q9,m + 1,c9,ls ++ [x],by omega,by go_num,rfl,by omega,HM9,hb9,HO9,HL9,by unfold Hid;rw [HRS.out];exact HR2⟩
     case measure=>simp [intOf];omega
  ·obtain rfl:k = n:=by omega
   have HR2:Hid (lst ls = RES):=by
    have:=HR.out
    rw [List.drop_of_length_le (by rw [← hn.out];exact Nat.le_refl _)] at this
    exact this
   clear HR
   have hlen:(Lib.join (ls.map (·.data.toList)) (ByteArray.mk #[47]).data.toList).length≤140737488355328:=by
    show (Lib.join (lst ls) [47]).length≤_
    rw [join_joinP]
    have h1:=joinP_short 1000 (lst ls) (fun y hy=>by
     unfold lst at hy
     rw [List.mem_map] at hy
     obtain ⟨z,hz,rfl⟩:=hy
     rw [← Lib.size_eq];exact HL.out z hz)
    rw [lst_length,← HM.out] at h1
    have h2:m * (1000 + 1)≤1000 * 1001:=Nat.mul_le_mul (by omega) (by omega)
    omega
   have CJ:Hid (Calls Tryz.prog 107 #[.slice p m c1,.string ⟨#[47]⟩] wr fun e w'=>e = .returned (.string (bar (joinP RES)))∧Below wr.heap.size wr w'):=by
    have hjr:Lib.join (ls.map (·.data.toList)) (ByteArray.mk #[47]).data.toList = joinP RES:=by
     rw [← HR2.out];exact join_joinP _
    rcases Nat.eq_zero_or_pos m with h0 | h0
    ·subst h0
     have hl0:ls = []:=List.length_eq_zero_iff.1 HM.out.symm
     refine (Tryz.strings_Join_none p c1 ⟨#[47]⟩ wr).mono ?_
     rintro e w' ⟨rfl,rfl⟩
     refine ⟨?_,Below.refl _ _⟩
     rw [← hjr,hl0];rfl
    ·obtain ⟨m',rfl⟩:∃ m',m = m' + 1:=⟨m - 1,by omega⟩
     obtain ⟨g,rfl,hg1,hg2⟩:=owned_some HO.out
     have:=Tryz.strings_Join g 0 c1 ls ⟨#[47]⟩ wr (fun j y hy=>by
      have hj:j < ls.length:=(List.getElem?_eq_some_iff.1 hy).1
      rw [Nat.zero_add,HO.out.cellAt j (by have:=HM.out;omega)]
      simp [strv,hy]) hg1 (by have:=HM.out;omega) (by have:=HM.out;omega) hlen
     rw [← HM.out,hjr] at this
     exact this
   clear HO HL HM hlen
   go_wp2_with fail
   refine CJ.out.mono ?_
   rintro e w2 ⟨rfl,hb2⟩
   go_wp2
   go_ret
   exact ⟨rfl,hb1.trans ((hbr.trans (hb2.mono hsz)).mono hb1.size)⟩
def MaxAt (w:World):Prop:=∃ m:Int,w.cell? ⟨0,0,none⟩ = some (.int .i64 m)
theorem MaxAt.below {w w':World} (h:MaxAt w) (hb:Below w.heap.size w w'):MaxAt w':=by
 obtain ⟨m,hm⟩:=h
 exact ⟨m,(hb.cell (p:=⟨0,0,none⟩) (World.block_lt_of_cell? w _ hm)).trans hm⟩
theorem split47_any (s:ByteArray) (w:World) (hM:MaxAt w) (hs:s.size≤900):∃ xs:List ByteArray,lst xs = partsP s.data.toList∧xs.length≤1000∧(∀ x ∈ xs,x.size≤1000) ∧
  Calls Tryz.prog 57 #[.string s,.string ⟨#[47]⟩] w fun e w'=>e = .returned (.slice (some ⟨w.heap.size,0,none⟩) xs.length xs.length)∧w' = w.alloc (.cells (xs.map Value.string).toArray 9):=by
 obtain ⟨m,hm⟩:=hM
 have hsp:=Tryz.strings_Split s ⟨#[47]⟩ m w (by omega) hm (by decide)
 have hlen:=Lib.splitB_all ⟨#[47]⟩ (by decide) 0 _ s rfl
 have hcl:=Lib.countB_le ⟨#[47]⟩ (by decide) s.size s (Nat.le_refl _)
 have hdat:=Lib.splitB_data ⟨#[47]⟩ 0 (Lib.countB s ⟨#[47]⟩) s
 have hparts:lst (Lib.splitB ⟨#[47]⟩ 0 (Lib.countB s ⟨#[47]⟩) s) = partsP s.data.toList:=by
  unfold lst
  rw [hdat]
  exact split_parts s.data.toList
 refine ⟨Lib.splitB ⟨#[47]⟩ 0 (Lib.countB s ⟨#[47]⟩) s,hparts,by omega,fun x hx=>?_,?_⟩
 ·have hmem:x.data.toList ∈ partsP s.data.toList:=by rw [← hparts];exact List.mem_map_of_mem hx
  have hj:=joinP_parts s.data.toList
  have:∀ (xs:List (List UInt8)) (y:List UInt8),y ∈ xs→y.length≤(joinP xs).length:=by
   intro xs y hy
   cases xs with
   | nil=>cases hy
   | cons a t =>
    show y.length≤(joinG [47] a t).length
    induction t generalizing a with
    | nil=>simp at hy;subst hy;exact Nat.le_refl _
    | cons b t ih =>
     simp only [joinG,List.length_append]
     rcases List.mem_cons.1 hy with rfl | hy
     ·omega
     ·have:=ih b hy;omega
  have h2:=this _ _ hmem
  rw [hj,← Lib.size_eq,← Lib.size_eq] at h2
  omega
 ·rw [hlen]
  exact hsp
theorem udots_any (s:ByteArray) (w:World) (hM:MaxAt w) (hs:s.size≤900) :
  Calls Tryz.prog 96 #[.string s] w fun e w'=>e = .returned (.string (bar (undotU s.data.toList)))∧Below w.heap.size w w':=by
 obtain ⟨xs,hp,hl,hx,CS⟩:=split47_any s w hM hs
 unfold undotU
 rw [← hp]
 exact dots_walk w.heap.size xs.length xs.length s xs rfl hl hx w _ ((Below.refl _ _).alloc (Nat.le_refl _) _) (by simp) CS (fun i hi=>by
  rw [World.cell?_alloc_at _ _ _ _ rfl]
  simp [List.getD_eq_getElem?_getD,hi])
end Go.Proofs.YtbbfcbodhmeanaaGreatDoor

