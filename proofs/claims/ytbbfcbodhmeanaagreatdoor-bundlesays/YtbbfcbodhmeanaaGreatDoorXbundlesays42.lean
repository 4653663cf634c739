
import Derived.Test.YtbbfcbodhmeanaaGreatDoorXbundlesays34
import Derived.Deep.SlicePairs
import Derived.Lib.AppendZeros
import Derived.Lib.SlBytesConst
import Derived.ChangeSlices
namespace Go.Proofs.YtbbfcbodhmeanaaGreatDoor
open Go.RowKit
def sizedP:Nat→PT→Nat × Nat
 | 0,_=>(0,99)
 | f + 1,p =>
  let r:=p.kids.foldl (fun (acc:Option (Nat × Nat)) k=>acc.bind fun a=>if 100 < a.1 + (sizedP f k).1 ∨ 50 < max a.2 (sizedP f k).2 then none else some (a.1 + (sizedP f k).1,max a.2 (sizedP f k).2)) (some (1,0))
  match r with
  | none=>(100,99)
  | some a=>(a.1,a.2 + 1)
def sizedG (f:Nat) (acc:Nat × Nat) (ks:List PT):Option (Nat × Nat):=ks.foldl (fun (acc:Option (Nat × Nat)) k=>acc.bind fun a=>if 100 < a.1 + (sizedP f k).1 ∨ 50 < max a.2 (sizedP f k).2 then none else some (a.1 + (sizedP f k).1,max a.2 (sizedP f k).2)) (some acc)
theorem sizedG_none (f:Nat):∀ ks:List PT,ks.foldl (fun (acc:Option (Nat × Nat)) k=>acc.bind fun a=>if 100 < a.1 + (sizedP f k).1 ∨ 50 < max a.2 (sizedP f k).2 then none else some (a.1 + (sizedP f k).1,max a.2 (sizedP f k).2)) none = none
 | []=>rfl
 | _::ks=>by rw [List.foldl_cons];exact sizedG_none f ks
theorem sizedG_nil (f:Nat) (a:Nat × Nat):sizedG f a [] = some a:=rfl
theorem sizedG_stop (f:Nat) (a:Nat × Nat) (k:PT) (ks:List PT) (h:100 < a.1 + (sizedP f k).1 ∨ 50 < max a.2 (sizedP f k).2):sizedG f a (k::ks) = none:=by
 unfold sizedG;rw [List.foldl_cons,Option.bind_some,if_pos h,sizedG_none]
theorem sizedG_on (f:Nat) (a:Nat × Nat) (k:PT) (ks:List PT) (h:¬ (100 < a.1 + (sizedP f k).1 ∨ 50 < max a.2 (sizedP f k).2)):sizedG f a (k::ks) = sizedG f (a.1 + (sizedP f k).1,max a.2 (sizedP f k).2) ks:=by
 unfold sizedG;rw [List.foldl_cons,Option.bind_some,if_neg h]
def endOf:Option (Nat × Nat)→Nat × Nat
 | none=>(100,99)
 | some a=>(a.1,a.2 + 1)
theorem sizedP_succ (f:Nat) (p:PT):sizedP (f + 1) p = endOf (sizedG f (1,0) p.kids):=by
 rw [sizedP]
 unfold sizedG endOf
 rfl
theorem sizedG_le (f:Nat):∀ (ks:List PT) (a b:Nat × Nat),a.1≤100→a.2≤50→sizedG f a ks = some b→b.1≤100∧b.2≤50
 | [],a,b,h1,h2,h=>by rw [sizedG_nil] at h;cases h;exact ⟨h1,h2⟩
 | k::ks,a,b,h1,h2,h=>by
  by_cases hc:100 < a.1 + (sizedP f k).1 ∨ 50 < max a.2 (sizedP f k).2
  ·rw [sizedG_stop f a k ks hc] at h;cases h
  ·rw [sizedG_on f a k ks hc] at h
   exact sizedG_le f ks _ b (by omega) (by omega) h
theorem sizedP_le (f:Nat) (p:PT):(sizedP f p).1≤100∧(sizedP f p).2≤99:=by
 cases f with
 | zero=>exact ⟨Nat.zero_le _,Nat.le_refl _⟩
 | succ f =>
  rw [sizedP_succ]
  cases h:sizedG f (1,0) p.kids with
  | none=>exact ⟨by decide,by decide⟩
  | some a =>
   have:=sizedG_le f p.kids (1,0) a (by decide) (by decide) h
   exact ⟨this.1,by show a.2 + 1≤99;omega⟩
set_option maxHeartbeats 2000000 in
set_option maxRecDepth 100000 in
theorem sized_any:∀ (f F:Nat) (p:PT) (pb:Option Addr) (cb:Nat) (pk:Option Addr) (ck:Nat) (left:Int) (w:World),left = (f:Int)→f≤10→PHeld w F p pb cb pk ck →
  Calls Tryz.prog 43 #[.agg #[.string p.ty,.string p.cs,.string p.id,.string p.loc,.int .i64 p.how,.slice pb p.body.length cb,.slice pk p.kids.length ck],.int .i64 left] w
   fun e w'=>e = .returned (.tuple #[.int .i64 ((sizedP f p).1:Nat),.int .i64 ((sizedP f p).2:Nat)])∧Below w.heap.size w w':=by
 intro f
 induction f with
 | zero =>
  intro F p pb cb pk ck left w hl _ hH
  subst hl
  clear hH
  have HR:Hid (sizedP 0 p = (0,99)):=rfl
  go_enter Tryz.func43,Tryz.ntmps43
  go_wp2_with fail
  go_ret2
  exact ⟨rfl,(Below.refl _ _).alloc (Nat.le_refl _) _⟩
 | succ f ih =>
  intro F p pb cb pk ck left w hl hf hH
  have hl0:¬ left = 0:=by omega
  have hlb:(left == 0) = false:=by rw [beq_eq_false_iff_ne];omega
  have hl1:left≤10:=by omega
  have hl2:0≤left:=by omega
  have HR:Hid (sizedP (f + 1) p = endOf (sizedG f (1,0) p.kids)):=sizedP_succ f p
  obtain ⟨w1,hw1⟩:∃ w1,w.alloc (.cells #[.string p.ty,.string p.cs,.string p.id,.string p.loc,.int .i64 p.how,.slice pb p.body.length cb,.slice pk p.kids.length ck] 25) = w1:=⟨_,rfl⟩
  have hb1:Below w.heap.size w w1:=by rw [← hw1];exact (Below.refl _ _).alloc (Nat.le_refl _) _
  have x6:w1.cell? ⟨w.heap.size,6,none⟩ = some (.slice pk p.kids.length ck):=by rw [← hw1];simp
  have hkl:p.kids.length≤9223372036854775807:=by have:=hH.1.2.2.2.2.2.2.2;unfold maxLen at this;exact this
  have HKP:Hid (p.kids ≠ []→∃ F' b o,pk = some ⟨b,o,none⟩∧∀ i,i < p.kids.length→PAt w1 F' b (o + i * 7) (p.kids.getD i pt0)):=fun hne=>by
   have hk:KAt w F pk p.kids:=hH.2.2.2.2
   cases F with
   | zero=>exact absurd hk hne
   | succ F' =>
    obtain ⟨b,o,e1,e2⟩:=hk.each hne
    exact ⟨F',b,o,e1,fun i hi=>(e2 i hi).below hb1⟩
  have IH:Hid (∀ (F:Nat) (p:PT) (pb:Option Addr) (cb:Nat) (pk:Option Addr) (ck:Nat) (w:World),PHeld w F p pb cb pk ck →
   Calls Tryz.prog 43 #[.agg #[.string p.ty,.string p.cs,.string p.id,.string p.loc,.int .i64 p.how,.slice pb p.body.length cb,.slice pk p.kids.length ck],.int .i64 (left - 1)] w fun e w'=>e = .returned (.tuple #[.int .i64 ((sizedP f p).1:Nat),.int .i64 ((sizedP f p).2:Nat)])∧Below w.heap.size w w'):=fun F p pb cb pk ck w h=>ih F p pb cb pk ck (left - 1) w (by omega) (by omega) h
  obtain ⟨kids,hkids⟩:∃ kids,p.kids = kids:=⟨_,rfl⟩
  rw [hkids] at HR x6 hkl HKP hw1
  simp only [hkids]
  obtain ⟨n,hn⟩:∃ n,kids.length = n:=⟨_,rfl⟩
  have HN:Hid (kids.length = n):=hn
  rw [hn] at x6 hkl HKP hw1
  simp only [hn]
  clear hn hkids ih hH hl
  generalize sizedP (f + 1) p = RES at *
  go_enter Tryz.func43,Tryz.ntmps43
  go_wp2_with fail
  go_loopw [4,5,15] (fun mv dv iv wr=>∃ (k a d:Nat),k≤n∧iv = .int .i64 k∧mv = .int .i64 (a:Int)∧dv = .int .i64 (d:Int)∧a≤100∧d≤50∧Below w1.heap.size w1 wr∧Hid (RES = endOf (sizedG f (a,d) (kids.drop k)))) (fun _ _ iv _=>n - (intOf iv).toNat)
  case atStart=>exact ⟨0,1,0,Nat.zero_le _,rfl,rfl,rfl,by omega,by omega,Below.refl _ _,HR⟩
  case round =>
   obtain ⟨k,a,d,hk,rfl,rfl,rfl,ha,hd,hbr,HK⟩:=hrel
   have hsr:=hbr.size
   by_cases hlt:k < n
   ·have hlz:(k:Int) < (n:Int):=by omega
    have hne:kids ≠ []:=fun e=>by have:=HN.out;rw [e] at this;simp at this;omega
    obtain ⟨F',bp,op,rfl,hPp⟩:=HKP.out hne
    have hkP:k < kids.length:=by rw [HN.out];exact hlt
    have HP1:=(hPp k hlt).below hbr
    have hdr:kids.drop k = kids.getD k pt0::kids.drop (k + 1):=by
     rw [List.drop_eq_getElem_cons hkP]
     simp [List.getD_eq_getElem?_getD,List.getElem?_eq_getElem hkP]
    rw [hdr] at HK
    obtain ⟨P1,hP1⟩:∃ P1,kids.getD k pt0 = P1:=⟨_,rfl⟩
    rw [hP1] at HK HP1
    obtain ⟨a1,a2,a3,a4,hC1,hH1⟩:=HP1
    obtain ⟨d0,d1,d2,d3,d4,d5,d6⟩:=hC1
    have hbB:bp < wr.heap.size:=World.block_lt_of_cell? wr _ d0
    have IH1:Hid (∀ w',Below wr.heap.size wr w'→Calls Tryz.prog 43 #[.agg #[.string P1.ty,.string P1.cs,.string P1.id,.string P1.loc,.int .i64 P1.how,.slice a1 P1.body.length a2,.slice a3 P1.kids.length a4],.int .i64 (left - 1)] w' fun e w''=>e = .returned (.tuple #[.int .i64 ((sizedP f P1).1:Nat),.int .i64 ((sizedP f P1).2:Nat)])∧Below w'.heap.size w' w''):=fun w' hb=>IH.out F' P1 a1 a2 a3 a4 w' (hH1.below hb)
    have hle:=sizedP_le f P1
    have HST:Hid (100 < a + (sizedP f P1).1 ∨ 50 < max d (sizedP f P1).2→RES = (100,99)):=fun h=>by rw [HK.out,sizedG_stop f (a,d) P1 _ h];rfl
    have HON:Hid (¬ (100 < a + (sizedP f P1).1 ∨ 50 < max d (sizedP f P1).2)→RES = endOf (sizedG f (a + (sizedP f P1).1,max d (sizedP f P1).2) (kids.drop (k + 1)))):=fun h=>by rw [HK.out,sizedG_on f (a,d) P1 _ h]
    clear hPp hP1 hH1 HKP HK hdr
    generalize (sizedP f P1).1 = s1 at *
    generalize (sizedP f P1).2 = s2 at *
    obtain ⟨pt1,pc1,pi1,pl1,ph1,pb1,pk1⟩:=P1
    simp only at d0 d1 d2 d3 d4 d5 d6 IH1
    generalize pb1.length = m1 at *
    generalize pk1.length = m2 at *
    have hba:=(Below.refl wr.heap.size wr).alloc (Nat.le_refl _) (.cells #[.string pt1,.string pc1,.string pi1,.string pl1,.int .i64 ph1,.slice a1 m1 a2,.slice a3 m2 a4] 25)
    obtain ⟨M,hM⟩:∃ M:Nat,max (d:Int) (s2:Int) = (M:Int)∧M = max d s2:=⟨max d s2,by omega,rfl⟩
    have hMz:=hM.1
    go_wp2_with fail
    refine (IH1.out _ hba).mono ?_
    rintro e w2 ⟨rfl,hb2⟩
    have hbel2:Below w1.heap.size w1 w2:=hbr.trans ((hba.trans (hb2.mono (by simp))).mono hsr)
    clear IH1
    by_cases hst:100 < a + s1
    ·have HN2:Hid (RES = (100,99)):=HST.out (.inl hst)
     have hstz:(100:Int) < (a:Int) + (s1:Int):=by omega
     clear HST HON
     go_wp2_with fail
     go_ret2
     exact ⟨by rw [HN2.out];rfl,hb1.trans (hbel2.mono hb1.size)⟩
    ·have hstz:decide ((100:Int) < (a:Int) + (s1:Int)) = false:=by simp;omega
     by_cases hst2:50 < M
     ·have HN2:Hid (RES = (100,99)):=HST.out (.inr (by rw [← hM.2];exact hst2))
      have hst2z:(50:Int) < (M:Int):=by omega
      clear HST HON
      go_wp2_with fail
      go_ret2
      exact ⟨by rw [HN2.out];rfl,hb1.trans (hbel2.mono hb1.size)⟩
     ·have HN2:Hid (RES = endOf (sizedG f (a + s1,M) (kids.drop (k + 1)))):=by unfold Hid;rw [hM.2];exact HON.out (by rw [← hM.2];omega)
      have hst2z:decide ((50:Int) < (M:Int)) = false:=by simp;omega
      clear HST HON
      go_wp2_with fail
      go_roundw
      case rel=>exact ⟨k + 1,a + s1,M,by omega,by go_num,by go_num,by first | rfl | (rw [hM.2]),by omega,by omega,hbel2,HN2⟩
      case measure=>simp [intOf];omega
   ·have hlz:¬ ((k:Int) < (n:Int)):=by omega
    have HN2:Hid (RES = (a,d + 1)):=by unfold Hid;rw [HK.out,List.drop_of_length_le (by rw [HN.out];omega),sizedG_nil];rfl
    clear HK HKP IH
    go_wp2_with fail
    go_ret2
    exact ⟨by rw [HN2.out];first | rfl | simp,hb1.trans (hbr.mono hb1.size)⟩
end Go.Proofs.YtbbfcbodhmeanaaGreatDoor



namespace Go.Proofs.YtbbfcbodhmeanaaGreatDoor
open Go.RowKit
def Cells (w:World) (p:Option Addr) (l:List Value):Prop:=l ≠ []→∃ b o,p = some ⟨b,o,none⟩∧∀ j u,l[j]? = some u→w.cell? ⟨b,o + j,none⟩ = some u
theorem Cells.below {w w':World} {p:Option Addr} {l:List Value} (h:Cells w p l) (hb:Below w.heap.size w w'):Cells w' p l:=by
 intro hne
 obtain ⟨b,o,rfl,hc⟩:=h hne
 refine ⟨b,o,rfl,fun j u hj=>?_⟩
 have:=hc j u hj
 rw [hb.cell (p:=⟨b,o + j,none⟩) (World.block_lt_of_cell? w _ this)]
 exact this
abbrev PZ:=PT × (Option Addr × Nat) × (Option Addr × Nat)
def pzc (z:PZ):List Value:=[.string z.1.ty,.string z.1.cs,.string z.1.id,.string z.1.loc,.int .i64 z.1.how,.slice z.2.1.1 z.1.body.length z.2.1.2,.slice z.2.2.1 z.1.kids.length z.2.2.2]
def pzv (Z:List PZ):List Value:=Z.flatMap pzc
theorem pzv_append (Y Z:List PZ):pzv (Y ++ Z) = pzv Y ++ pzv Z:=by simp [pzv]
theorem pzv_length:∀ Z:List PZ,(pzv Z).length = Z.length * 7
 | []=>rfl
 | z::Z=>by show (pzc z ++ pzv Z).length = _;rw [List.length_append,pzv_length Z];simp [pzc];omega
theorem pzv_one (Z:List PZ):∀ u ∈ pzv Z,u.oneCell' = true:=by
 intro u hu
 simp only [pzv,List.mem_flatMap] at hu
 obtain ⟨z,_,hz⟩:=hu
 simp only [pzc,List.mem_cons,List.not_mem_nil,or_false] at hz
 rcases hz with rfl | rfl | rfl | rfl | rfl | rfl | rfl <;> rfl
theorem pz_at (Z:List PZ) (k:Nat) (z:PZ) (h:Z[k]? = some z) (j:Nat) (v:Value) (hj:(pzc z)[j]? = some v):(pzv Z)[k * 7 + j]? = some v:=by
 have hj7:j < 7:=by have:=(List.getElem?_eq_some_iff.1 hj).1;simpa [pzc] using this
 induction Z generalizing k with
 | nil=>simp at h
 | cons y Z ih =>
  show (pzc y ++ pzv Z)[k * 7 + j]? = some v
  cases k with
  | zero =>
   obtain rfl:=Option.some.inj h
   rw [List.getElem?_append_left (by simp [pzc];omega),Nat.zero_mul,Nat.zero_add]
   exact hj
  | succ k =>
   rw [List.getElem?_append_right (by simp [pzc];omega)]
   have:=ih k (by simpa using h)
   rw [← this]
   congr 1
   simp [pzc]
   omega
theorem pz_back:∀ (Z:List PZ) (j:Nat) (v:Value),(pzv Z)[j]? = some v→∃ z,Z[j / 7]? = some z∧(pzc z)[j % 7]? = some v
 | [],j,v,h=>by simp [pzv] at h
 | y::Z,j,v,h=>by
  have h':(pzc y ++ pzv Z)[j]? = some v:=h
  by_cases hj:j < 7
  ·rw [List.getElem?_append_left (by simp [pzc];omega)] at h'
   exact ⟨y,by rw [Nat.div_eq_of_lt hj];rfl,by rw [Nat.mod_eq_of_lt hj];exact h'⟩
  ·rw [List.getElem?_append_right (by simp [pzc];omega)] at h'
   obtain ⟨z,h1,h2⟩:=pz_back Z (j - 7) v (by simpa [pzc] using h')
   refine ⟨z,?_,?_⟩
   ·rw [show j / 7 = (j - 7) / 7 + 1 from by omega];exact h1
   ·rw [show j % 7 = (j - 7) % 7 from by omega];exact h2
theorem KAt.list {w:World} {f:Nat} {a:Option Addr} {l:List PT} (h:KAt w (f + 1) a l):∃ Z:List PZ,Z.map (·.1) = l∧Cells w a (pzv Z)∧∀ z ∈ Z,PHeld w f z.1 z.2.1.1 z.2.1.2 z.2.2.1 z.2.2.2:=by
 by_cases hne:l = []
 ·subst hne
  exact ⟨[],rfl,fun h=>absurd rfl h,fun z hz=>by cases hz⟩
 ·obtain ⟨b,o,rfl,hc⟩:=h.each hne
  have each:∀ i,i < l.length→∃ z:PZ,z.1 = l.getD i pt0∧PCells w b (o + i * 7) z.1 z.2.1.1 z.2.1.2 z.2.2.1 z.2.2.2∧PHeld w f z.1 z.2.1.1 z.2.1.2 z.2.2.1 z.2.2.2:=fun i hi=>by
   obtain ⟨pb,cb,pk,ck,h1,h2⟩:=hc i hi
   exact ⟨(_,(pb,cb),(pk,ck)),rfl,h1,h2⟩
  haveI:Inhabited PZ:=⟨(pt0,(none,0),(none,0))⟩
  obtain ⟨Q,hQ⟩:=Go.Deep.choose_lt each
  refine ⟨(List.range l.length).map Q,?_,fun _=>⟨b,o,rfl,fun j u hj=>?_⟩,fun z hz=>?_⟩
  ·apply List.ext_getElem (by simp)
   intro i h1 h2
   simp only [List.getElem_map,List.getElem_range]
   rw [(hQ i h2).1,List.getD_eq_getElem?_getD,List.getElem?_eq_getElem h2]
   rfl
  ·obtain ⟨z,hz,hv⟩:=pz_back _ j u hj
   have hl:=(List.getElem?_eq_some_iff.1 hz).1
   have hl':j / 7 < l.length:=by simpa using hl
   have ez:z = Q (j / 7):=by
    rw [List.getElem?_map,List.getElem?_range hl'] at hz
    exact (Option.some.inj hz).symm
   obtain ⟨_,hC,_⟩:=hQ (j / 7) hl'
   rw [← ez] at hC
   obtain ⟨c0,c1,c2,c3,c4,c5,c6⟩:=hC
   have hm:j % 7 < 7:=Nat.mod_lt _ (by decide)
   rw [show o + j = o + j / 7 * 7 + j % 7 from by omega]
   generalize j % 7 = r at *
   match r,hm with
   | 0,_=>obtain rfl:=Option.some.inj hv;exact c0
   | 1,_=>obtain rfl:=Option.some.inj hv;exact c1
   | 2,_=>obtain rfl:=Option.some.inj hv;exact c2
   | 3,_=>obtain rfl:=Option.some.inj hv;exact c3
   | 4,_=>obtain rfl:=Option.some.inj hv;exact c4
   | 5,_=>obtain rfl:=Option.some.inj hv;exact c5
   | 6,_=>obtain rfl:=Option.some.inj hv;exact c6
  ·obtain ⟨i,hi,rfl⟩:=List.mem_map.1 hz
   exact (hQ i (by simpa using hi)).2.2
theorem KAt.of_list {w:World} {f:Nat} {a:Option Addr} {Z:List PZ} (hc:Cells w a (pzv Z)) (hh:∀ z ∈ Z,PHeld w f z.1 z.2.1.1 z.2.1.2 z.2.2.1 z.2.2.2):KAt w (f + 1) a (Z.map (·.1)):=by
 intro hne
 have hZ:Z ≠ []:=fun e=>hne (by rw [e];rfl)
 obtain ⟨b,o,e,hcc⟩:=hc (fun e=>by have:=pzv_length Z;rw [e] at this;cases Z with | nil=>exact hZ rfl | cons a l=>simp at this)
 refine ⟨b,o,e,fun i hi=>?_⟩
 have hi':i < Z.length:=by simpa using hi
 have ez:(Z.map (·.1)).getD i pt0 = Z[i].1:=by simp [List.getD_eq_getElem?_getD,hi']
 have hz:Z[i]? = some Z[i]:=List.getElem?_eq_getElem hi'
 have cell:∀ j v,(pzc Z[i])[j]? = some v→w.cell? ⟨b,o + i * 7 + j,none⟩ = some v:=fun j v hj=>by
  have:=hcc (i * 7 + j) v (pz_at Z i Z[i] hz j v hj)
  rwa [← Nat.add_assoc] at this
 rw [ez]
 exact ⟨Z[i].2.1.1,Z[i].2.1.2,Z[i].2.2.1,Z[i].2.2.2,⟨cell 0 _ rfl,cell 1 _ rfl,cell 2 _ rfl,cell 3 _ rfl,cell 4 _ rfl,cell 5 _ rfl,cell 6 _ rfl⟩,hh _ (List.getElem_mem hi')⟩
theorem owned_cells {w:World} {B e s n:Nat} {v:Value} {xs:List Value} (h:w.ownsRow B e s v n xs):∃ p c,v = .slice p n c∧n≤c∧c≤maxLen∧(p = none→n = 0∧c = 0)∧Cells w p xs:=by
 have h':=h
 rcases h.2 with ⟨rfl,h0⟩ | ⟨g,cap,cur,rfl,hg,hh,hnc,hcp,hcs,htake⟩
 ·refine ⟨none,0,by rw [h0],by omega,by decide,fun _=>⟨h0,rfl⟩,fun hne=>?_⟩
  have hx:=h.1
  rw [h0,Nat.zero_mul] at hx
  exact absurd (List.length_eq_zero_iff.1 hx) hne
 ·refine ⟨some ⟨g,0,none⟩,cap,rfl,hnc,hcp,fun e=>(by cases e),fun _=>⟨g,0,rfl,fun j u hj=>?_⟩⟩
  have hjl:=(List.getElem?_eq_some_iff.1 hj).1
  rw [Nat.zero_add,h'.cellAt j (by rw [← h'.1];exact hjl),hj]
end Go.Proofs.YtbbfcbodhmeanaaGreatDoor



namespace Go.Proofs.YtbbfcbodhmeanaaGreatDoor
open Go.RowKit
theorem infoP:(Tryz.prog.info? 25).map (fun i=>(i.zero,i.size,i.bytes)) = some (some (.agg #[.string ⟨#[]⟩,.string ⟨#[]⟩,.string ⟨#[]⟩,.string ⟨#[]⟩,.int .i64 0,.slice none 0 0,.slice none 0 0]),7,120):=by kernel_rfl
theorem append_rowP {w:World} {ops:Array Oper} {rest:List Oper} {o:Oper} {a:Act} {Q:Exit→Act→World→Prop} (hgd:o.guard = none) (s x:Operand)
  (ho:o.op = .call { callee:=.builtin .append,args:=#[s,x],argTypes:=#[23,23] })
  (base:Nat) (v:Value) (n:Nat) (xs:List Value) (hs:a.eval s = v) (hown:w.ownsRow base 25 7 v n xs)
  (p:Option Addr) (l:List Value) (m c:Nat) (em:l.length = m * 7) (hx:a.eval x = .slice p m c) (hr:Cells w p l) (h1c:∀ u ∈ l,u.oneCell' = true) (hp:p = none→m = 0∧c = 0)
  (h63:n + m≤100000000) (hbase:base≤w.heap.size)
  (h:∀ v' w',w'.ownsRow base 25 7 v' (n + m) (xs ++ l)→w.grownBy w' v.ownBlock→wpList Tryz.prog ops Q rest (a.put o.dst v') w'):wpList Tryz.prog ops Q (o::rest) a w:=by
 obtain ⟨i0,hi,hz0,hz1,hz2⟩:=info_parts infoP
 cases p with
 | none =>
  obtain ⟨rfl,rfl⟩:=hp rfl
  have hl:l = []:=List.length_eq_zero_iff.1 (em.trans (Nat.zero_mul _))
  subst hl
  refine wpList_append_own_none hgd s x 23 ho base 25 i0 7 Tryz.underlying23 hi v n xs hs hown hx ?_
  refine h v w (by simpa using hown) (World.grownBy.refl _ _)
 | some ad =>
  refine wpList_append_own _ hgd s x 23 ho base 25 i0 (.agg #[.string ⟨#[]⟩,.string ⟨#[]⟩,.string ⟨#[]⟩,.string ⟨#[]⟩,.int .i64 0,.slice none 0 0,.slice none 0 0]) 7 120 Tryz.underlying23 hi hz0 hz1 hz2 rfl (by decide) v n xs hs hown ad m c l hx em ?_ h1c (by unfold maxLen;omega) (by omega) hbase (fun v' w' h1 h2 _=>h v' w' h1 h2)
  intro j u hj
  obtain ⟨b,o',e,hc⟩:=hr (fun e=>by rw [e] at hj;simp at hj)
  obtain rfl:=Option.some.inj e
  rw [Addr.add_lit]
  exact hc j u hj
set_option maxHeartbeats 1000000 in
set_option maxRecDepth 100000 in
theorem growNilP (N:Nat) (NN:Int) (eN:NN = (N:Int)) (hN:N≤100000) (w:World) :
  Calls Tryz.prog 134 #[.slice none 0 0,.int .i64 NN] w fun e w'=>Below w.heap.size w w'∧∃ p c,e = .returned (.slice p 0 c)∧w'.ownsRow w.heap.size 25 7 (.slice p 0 c) 0 []:=by
 subst eN
 obtain ⟨i0,hi,hz0,hz1,hz2⟩:=info_parts infoP
 rcases Nat.eq_zero_or_pos N with h0 | h0
 ·subst h0
  go_enter Tryz.func134,Tryz.ntmps134
  go_wp2
  go_ret
  exact ⟨Below.refl _ _,none,0,rfl,World.ownsRow_nil _ _ _ _⟩
 ·have h0':(0:Int) < (N:Int):=by omega
  have hr:=fun ty=>Lib.run_append_nil_zeros (P:=Tryz.prog) w 23 3 ty 25 i0 (.agg #[.string ⟨#[]⟩,.string ⟨#[]⟩,.string ⟨#[]⟩,.string ⟨#[]⟩,.int .i64 0,.slice none 0 0,.slice none 0 0]) .i64 .i64 Tryz.underlying23 Tryz.underlying3 hi hz0 N h0 (by rw [hz1];decide) (by omega) (by rw [hz2];omega)
  obtain ⟨G,hG⟩:∃ G,grownCap w N 0 25 = G:=⟨_,rfl⟩
  have hGe:N≤G:=by rw [← hG];exact grownCap_ge w _ _ _
  have hGm:G≤maxLen:=by rw [← hG];exact grownCap_le_maxLen w N 0 25 (by unfold maxLen;omega)
  rw [hG] at hr
  have hGi:(N:Int)≤(G:Int):=by omega
  clear hG
  go_enter Tryz.func134,Tryz.ntmps134
  go_wp2_with (at_builtin;refine Lib.wpList_append_run _ rfl (.tmp 20) (.tmp 21) 23 3 rfl _ _ rfl rfl _ _ (hr _) ?_)
  clear hr
  go_wp2
  go_ret
  refine ⟨((Below.refl _ _).alloc (Nat.le_refl _) _).drew,some ⟨w.heap.size,0,none⟩,G,rfl,?_⟩
  refine ⟨rfl,.inr ⟨w.heap.size,G,Builtin.zeroCells #[.string ⟨#[]⟩,.string ⟨#[]⟩,.string ⟨#[]⟩,.string ⟨#[]⟩,.int .i64 0,.slice none 0 0,.slice none 0 0] N ++ Builtin.zeroCells #[.string ⟨#[]⟩,.string ⟨#[]⟩,.string ⟨#[]⟩,.string ⟨#[]⟩,.int .i64 0,.slice none 0 0,.slice none 0 0] (G - N),rfl,Nat.le_refl _,?_,Nat.zero_le _,hGm,?_,?_⟩⟩
  ·show (w.heap.push _)[w.heap.size]? = _
   simp
  ·rw [Array.size_append,size_zeroCells,size_zeroCells]
   show N * 7 + (G - N) * 7 = G * 7
   omega
  ·simp
set_option maxHeartbeats 2000000 in
set_option maxRecDepth 100000 in
theorem concatP (g:Nat) (p q:Option Addr) (n m c d:Nat) (L M:List Value) (en:L.length = n * 7) (em:M.length = m * 7) (w:World) (h1:w.cell? ⟨g,0,none⟩ = some (.slice p n c)) (h2:w.cell? ⟨g,1,none⟩ = some (.slice q m d))
  (hL:Cells w p L) (hM:Cells w q M) (oL:∀ u ∈ L,u.oneCell' = true) (oM:∀ u ∈ M,u.oneCell' = true) (hp:p = none→n = 0∧c = 0) (hq:q = none→m = 0∧d = 0) (hn:n + m≤50000) :
  Calls Tryz.prog 85 #[.slice (some ⟨g,0,none⟩) 2 2] w fun e w'=>Below w.heap.size w w'∧∃ p' c',e = .returned (.slice p' (n + m) c')∧w'.ownsRow w.heap.size 25 7 (.slice p' (n + m) c') (n + m) (L ++ M):=by
 have hg:g < w.heap.size:=World.block_lt_of_cell? w _ h1
 have HE:Hid (L.length = n * 7∧M.length = m * 7):=⟨en,em⟩
 have HL:Hid (Cells w p L):=hL
 have HM:Hid (Cells w q M):=hM
 have HP:Hid (p = none→n = 0∧c = 0):=hp
 have HQ:Hid (q = none→m = 0∧d = 0):=hq
 have HO:Hid ((∀ u ∈ L,u.oneCell' = true)∧(∀ u ∈ M,u.oneCell' = true)):=⟨oL,oM⟩
 clear hL hM hp hq en em oL oM
 go_enter Tryz.func85,Tryz.ntmps85
 go_wp2
 refine wp_loop_rounds 3 ?_
 rw [rounds_succ]
 go_wp2
 rw [rounds_succ]
 go_wp2
 rw [rounds_succ]
 go_wp2_with fail
 refine (growNilP (n + m) _ (by omega) (by omega) _).mono ?_
 rintro e w1 ⟨hb1,p1,c1,rfl,hown1⟩
 have h1':w1.cell? ⟨g,0,none⟩ = some (.slice p n c):=(hb1.cell (p:=⟨g,0,none⟩) hg).trans h1
 have h2':w1.cell? ⟨g,1,none⟩ = some (.slice q m d):=(hb1.cell (p:=⟨g,1,none⟩) hg).trans h2
 have hL1:Hid (Cells w1 p L):=HL.out.below hb1
 have hsz1:=hb1.size
 go_wp2
 refine wp_loop_rounds 3 ?_
 rw [rounds_succ]
 go_wp2_with (at_builtin;refine append_rowP rfl (.tmp 31) (.tmp 32) rfl w.heap.size _ _ _ rfl hown1 p L n c HE.out.1 rfl hL1.out HO.out.1 HP.out (by omega) hsz1 ?_)
 intro v2 w2 hown2 hg2
 have hb2:Below w.heap.size w w2:=hb1.grown hg2 hsz1 fun j hj=>(hown1.lt j hj).1
 have h2'':w2.cell? ⟨g,1,none⟩ = some (.slice q m d):=(hb2.cell (p:=⟨g,1,none⟩) hg).trans h2
 have hM2:Hid (Cells w2 q M):=HM.out.below hb2
 have hsz2:=hb2.size
 clear hg2 hown1 h1' h2' hL1 hb1
 go_wp2
 rw [rounds_succ]
 go_wp2_with (at_builtin;refine append_rowP rfl (.tmp 31) (.tmp 32) rfl w.heap.size _ _ _ rfl hown2 q M m d HE.out.2 rfl hM2.out HO.out.2 HQ.out (by omega) hsz2 ?_)
 intro v3 w3 hown3 hg3
 have hb3:Below w.heap.size w w3:=hb2.grown hg3 hsz2 fun j hj=>(hown2.lt j hj).1
 have R:Hid (w3.ownsRow w.heap.size 25 7 v3 (n + m) (L ++ M)):=by
  unfold Hid
  simpa using hown3
 obtain ⟨p3,c3,rfl⟩:=owned_slice R.out
 clear hg3 hown2 hown3 h2'' hM2 hb2
 go_wp2
 rw [rounds_succ]
 go_wp2
 go_ret
 exact ⟨hb3,p3,c3,rfl,R.out⟩
end Go.Proofs.YtbbfcbodhmeanaaGreatDoor



namespace Go.Proofs.YtbbfcbodhmeanaaGreatDoor
open Go.RowKit
def bodyA:List UInt8:=[60,97,32,104,114,101,102,61,39,99,39,62,60,105,109,103,32,83,82,67,61,99,105,100,58,120,62,60,97,32,104,114,101,102,61,35,100,62]
def partA:PT:=⟨⟨#[116,101,120,116,47,104,116,109,108]⟩,⟨#[117,116,102,45,56]⟩,⟨#[]⟩,⟨#[]⟩,2,bodyA,[]⟩
def partB:PT:=⟨⟨#[105,109,97,103,101,47,112,110,103]⟩,⟨#[]⟩,⟨#[120]⟩,⟨#[99]⟩,1,[1,2,3],[]⟩
def smallT:PT:=⟨⟨#[109,117,108,116,105,112,97,114,116,47,114,101,108,97,116,101,100]⟩,⟨#[]⟩,⟨#[]⟩,⟨#[104,116,116,112,58,47,47,104,47,97,47,98]⟩,0,[],[partA,partB]⟩
theorem BRow_lit (w:World) (L:List UInt8) (C:Array Value) (hC:C = (bv L).toArray) (t:TypeId) (fr:Nat × Nat) (b:Nat) (hb:b = w.heap.size):BRow (w.alloc (.cells C t fr)) (some ⟨b,0,none⟩) L:=by
 subst hC hb
 intro _
 refine ⟨w.heap.size,0,rfl,fun i hi=>?_⟩
 rw [Nat.zero_add,World.cell?_alloc_mark w _ t fr i]
 simp [bv,List.getD_eq_getElem?_getD,List.getElem?_eq_getElem hi]
theorem cell_lits (w:World) (c:List Value) (t:TypeId) (b j k:Nat) (x:Value) (hb:b = w.heap.size) (hk:k = j) (h:c[j]? = some x):(w.alloc (.cells c.toArray t)).cell? ⟨b,k,none⟩ = some x:=by
 subst hk
 have:=cell_seven w c t b hb k x h
 rwa [Addr.add_lit,Nat.zero_add] at this
theorem lens (p:PT) (h:(decide (p.ty.size≤1000000) && decide (p.cs.size≤1000000) && decide (p.id.size≤1000000) && decide (p.loc.size≤1000000) && decide (-1000≤p.how) && decide (p.how≤1000) && decide (p.body.length≤1000000) && decide (p.kids.length≤1000000)) = true):PLen p:=by
 simp only [Bool.and_eq_true,decide_eq_true_eq] at h
 obtain ⟨⟨⟨⟨⟨⟨⟨a,b⟩,c⟩,d⟩,e⟩,f⟩,g⟩,k⟩:=h
 unfold PLen maxLen
 omega
theorem kc_at (w:World) (X:Obj) (C:Array Value) (n c:Nat):(convert 22 22 (.slice (some ⟨w.heap.size + 1,0,none⟩) n c)).run Tryz.prog ((w.alloc X).alloc (.cells C 5)) = .ok (.slice (some ⟨w.heap.size + 1,0,none⟩) n c) ((w.alloc X).alloc (.cells C 5 (C.size,C.size + 1))):=by
 have h:=Lib.run_convert_bytes_const (P:=Tryz.prog) (w.alloc X) 22 5 C n c Tryz.underlying22 Tryz.underlying5
 rw [World.size_alloc] at h
 exact h
set_option maxHeartbeats 1000000 in
set_option maxRecDepth 100000 in
theorem psmall_any (w:World):Calls Tryz.prog 49 #[] w fun e w'=>∃ g,e = .returned (.agg #[.string smallT.ty,.string smallT.cs,.string smallT.id,.string smallT.loc,.int .i64 smallT.how,.slice none smallT.body.length 0,.slice (some ⟨g,0,none⟩) smallT.kids.length 2])∧PHeld w' 1 smallT none 0 (some ⟨g,0,none⟩) 2∧Below w.heap.size w w':=by
 have kc:=fun (X:Obj) (C:Array Value) (n c:Nat)=>kc_at w X C n c
 go_enter Tryz.func49,Tryz.ntmps49
 go_wp2
 (try simp only [Exit.inBlock,Exit.then])
 refine bodyPost_ret (v:=.agg #[.string smallT.ty,.string smallT.cs,.string smallT.id,.string smallT.loc,.int .i64 smallT.how,.slice none smallT.body.length 0,.slice (some ⟨w.heap.size + 1 + 1 + 1,0,none⟩) smallT.kids.length 2]) ?_ rfl ⟨_,rfl,?_,?_⟩
 ·refine results_cell_row rfl _ _ w.heap.size 25 _ (0,0) _ rfl ?_ Tryz.underlying25 rfl (by kernel_rfl)
  exact (Below.heap_alloc _ _ _ (by simp;omega)).trans ((Below.heap_alloc _ _ _ (by simp;omega)).trans ((Below.heap_alloc _ _ _ (by simp)).trans (heap_alloc_new w _)))
 ·have hA:=BRow_lit (w.alloc (.cells #[.string smallT.ty,.string smallT.cs,.string smallT.id,.string smallT.loc,.int .i64 smallT.how,.slice none 0 0,.slice (some ⟨w.heap.size + 1 + 1 + 1,0,none⟩) 2 2] 25)) bodyA _ rfl 5 (38,39) (w.heap.size + 1) (by simp)
  have hB:=BRow_lit ((w.alloc (.cells #[.string smallT.ty,.string smallT.cs,.string smallT.id,.string smallT.loc,.int .i64 smallT.how,.slice none 0 0,.slice (some ⟨w.heap.size + 1 + 1 + 1,0,none⟩) 2 2] 25)).alloc (.cells (bv bodyA).toArray 5 (38,39))) [1,2,3] _ rfl 5 (0,0) (w.heap.size + 1 + 1) (by simp)
  refine ⟨lens _ (by decide),⟨by decide,by decide,fun _=>rfl⟩,fun h=>absurd rfl h,⟨by decide,by decide,fun h=>by cases h⟩,KAt.mk fun i hi=>?_⟩
  have hi2:i < 2:=hi
  match i,hi2 with
  | 0,_ =>
   refine ⟨some ⟨w.heap.size + 1,0,none⟩,38,none,0,⟨?_,?_,?_,?_,?_,?_,?_⟩,lens _ (by decide),⟨by decide,by decide,fun h=>by cases h⟩,?_,⟨by decide,by decide,fun _=>rfl⟩,rfl⟩
   ·exact cell_lits _ _ _ _ 0 _ _ (by simp) rfl rfl
   ·exact cell_lits _ _ _ _ 1 _ _ (by simp) rfl rfl
   ·exact cell_lits _ _ _ _ 2 _ _ (by simp) rfl rfl
   ·exact cell_lits _ _ _ _ 3 _ _ (by simp) rfl rfl
   ·exact cell_lits _ _ _ _ 4 _ _ (by simp) rfl rfl
   ·exact cell_lits _ _ _ _ 5 _ _ (by simp) rfl rfl
   ·exact cell_lits _ _ _ _ 6 _ _ (by simp) rfl rfl
   ·exact hA.under (((Below.refl _ _).alloc (Nat.le_refl _) _).alloc (by simp) _)
  | 1,_ =>
   refine ⟨some ⟨w.heap.size + 1 + 1,0,none⟩,3,none,0,⟨?_,?_,?_,?_,?_,?_,?_⟩,lens _ (by decide),⟨by decide,by decide,fun h=>by cases h⟩,?_,⟨by decide,by decide,fun _=>rfl⟩,rfl⟩
   ·exact cell_lits _ _ _ _ 7 _ _ (by simp) rfl rfl
   ·exact cell_lits _ _ _ _ 8 _ _ (by simp) rfl rfl
   ·exact cell_lits _ _ _ _ 9 _ _ (by simp) rfl rfl
   ·exact cell_lits _ _ _ _ 10 _ _ (by simp) rfl rfl
   ·exact cell_lits _ _ _ _ 11 _ _ (by simp) rfl rfl
   ·exact cell_lits _ _ _ _ 12 _ _ (by simp) rfl rfl
   ·exact cell_lits _ _ _ _ 13 _ _ (by simp) rfl rfl
   ·exact hB.under ((Below.refl _ _).alloc (Nat.le_refl _) _)
 ·exact ((((Below.refl _ w).alloc (Nat.le_refl _) _).alloc (by simp) _).alloc (by simp;omega) _).alloc (by simp;omega) _
end Go.Proofs.YtbbfcbodhmeanaaGreatDoor



namespace Go.Proofs.YtbbfcbodhmeanaaGreatDoor
open Go.ChangeShapes Go.WideShapes Go.ChangeAt Go.RowKit
theorem KAt.up {w:World}:∀ (f:Nat) (a:Option Addr) (l:List PT),KAt w f a l→KAt w (f + 1) a l
 | 0,a,l,h=>fun hne=>absurd h hne
 | f + 1,a,l,h=>fun hne=>by
  obtain ⟨b,o,e,hc⟩:=h hne
  refine ⟨b,o,e,fun i hi=>?_⟩
  obtain ⟨pb,cb,pk,ck,h1,h2⟩:=hc i hi
  exact ⟨pb,cb,pk,ck,h1,h2.1,h2.2.1,h2.2.2.1,h2.2.2.2.1,KAt.up f _ _ h2.2.2.2.2⟩
theorem part_under:∃ f0 f1 f2 f3 f4 f5 f6:Field,Tryz.prog.underlying 25 = some (.struct #[f0,f1,f2,f3,f4,f5,f6]) ∧
  (f0.offset = 0∧f1.offset = 1∧f2.offset = 2∧f3.offset = 3∧f4.offset = 4∧f5.offset = 5∧f6.offset = 6) ∧
  (f0.type = 9∧f1.type = 9∧f2.type = 9∧f3.type = 9∧f4.type = 3∧f5.type = 22∧f6.type = 23) :=
 ⟨_,_,_,_,_,_,_,Tryz.underlying25,⟨rfl,rfl,rfl,rfl,rfl,rfl,rfl⟩,⟨rfl,rfl,rfl,rfl,rfl,rfl,rfl⟩⟩
theorem bytes_open {H:Type} {enc:TypeId × Value→H} {W:World} {held:Bool} {fuel:Nat} {cs:List Value} {x:DataW H × List MemPlace}
  (h:DataW.trod enc Tryz.prog W 0 (fun _=>true) held fuel 22 cs = some x) :
  ∃ (a:Option Addr) (c:Nat) (L:List UInt8),cs = [.slice a L.length c]∧L.length≤c∧c≤maxLen∧(a = none→c = 0)∧BRow W a L:=by
 rcases open_ints Tryz.underlying22 Tryz.underlying5 (by kernel_rfl) h with ⟨hcs,_⟩ | ⟨a,l,c,zs,hcs,_,hl,hm,hz,_,hcell,hwz⟩
 ·exact ⟨none,0,[],hcs,Nat.le_refl _,by decide,fun _=>rfl,fun h=>absurd rfl h⟩
 ·obtain ⟨L,e,h1,h2,h3,h4⟩:=isRow_bytes (w:=W) (a:=some a) (len:=l) (cap:=c) (zs:=zs) (.inr ⟨_,rfl,hl,hm,by simpa using hz,hcell,hwz⟩)
  subst e
  exact ⟨some a,c,L,hcs,h1,h2,(fun h=>by cases h),h4⟩
set_option maxRecDepth 100000 in
theorem part_cells {H:Type} {enc:TypeId × Value→H} {W:World} {held:Bool}:∀ (fuel:Nat) (cs:List Value) (x:DataW H × List MemPlace),
  DataW.trod enc Tryz.prog W 0 (fun _=>true) held fuel 25 cs = some x →
  ∃ (p:PT) (pb:Option Addr) (cb:Nat) (pk:Option Addr) (ck:Nat),cs = [.string p.ty,.string p.cs,.string p.id,.string p.loc,.int .i64 p.how,.slice pb p.body.length cb,.slice pk p.kids.length ck]∧PHeld W fuel p pb cb pk ck:=by
 intro fuel
 induction fuel using Nat.strongRecOn with
 | _ fuel ih =>
  intro cs x h
  obtain ⟨f0,f1,f2,f3,f4,f5,f6,hu,⟨o0,o1,o2,o3,o4,o5,o6⟩,⟨t0,t1,t2,t3,t4,t5,t6⟩⟩:=part_under
  obtain ⟨xs,n,hfu,_,hlen,hxl,hf⟩:=DataW.trod_struct hu h
  have hcf:Tryz.prog.cellsOf 25 = 7:=by kernel_rfl
  have cs1:Tryz.prog.cellsOf 9 = 1:=by kernel_rfl
  have ci1:Tryz.prog.cellsOf 3 = 1:=by kernel_rfl
  have cb1:Tryz.prog.cellsOf 22 = 1:=by kernel_rfl
  have cp1:Tryz.prog.cellsOf 23 = 1:=by kernel_rfl
  rw [hcf] at hlen
  match xs,hxl,cs,hlen with
  | [y0,y1,y2,y3,y4,y5,y6],_,[v0,v1,v2,v3,v4,v5,v6],_ =>
   have g0:=hf 0 f0 rfl
   have g1:=hf 1 f1 rfl
   have g2:=hf 2 f2 rfl
   have g3:=hf 3 f3 rfl
   have g4:=hf 4 f4 rfl
   have g5:=hf 5 f5 rfl
   have g6:=hf 6 f6 rfl
   rw [t0,o0,cs1] at g0
   rw [t1,o1,cs1] at g1
   rw [t2,o2,cs1] at g2
   rw [t3,o3,cs1] at g3
   rw [t4,o4,ci1] at g4
   rw [t5,o5,cb1] at g5
   rw [t6,o6,cp1] at g6
   simp only [List.drop_zero,List.drop_succ_cons,List.take_succ_cons,List.take_zero,List.getElem?_cons_zero,List.getElem?_cons_succ] at g0 g1 g2 g3 g4 g5 g6
   obtain ⟨s0,e0,_,l0⟩:=DataW.trod_string Tryz.underlying9 g0
   obtain ⟨s1,e1,_,l1⟩:=DataW.trod_string Tryz.underlying9 g1
   obtain ⟨s2,e2,_,l2⟩:=DataW.trod_string Tryz.underlying9 g2
   obtain ⟨s3,e3,_,l3⟩:=DataW.trod_string Tryz.underlying9 g3
   obtain ⟨z,e4,_,hz⟩:=DataW.trod_int Tryz.underlying3 g4
   obtain ⟨pb,cb,body,e5,b1,b2,b3,b4⟩:=bytes_open g5
   have hz2:-9223372036854775808≤z∧z≤9223372036854775807:=by
    simp only [Lit.wf,Bool.and_eq_true,decide_eq_true_eq] at hz
    exact hz
   have hbl:body.length≤maxLen:=Nat.le_trans b1 b2
   rcases DataW.trod_slice Tryz.underlying23 g6 with ⟨e6,_⟩ | ⟨a,len,cap,elems,rest,m,hm,e6,_,_,hlc,hcm,hel,hev,_,_⟩
   ·refine ⟨⟨s0,s1,s2,s3,z,body,[]⟩,pb,cb,none,0,?_,⟨l0,l1,l2,l3,hz2.1,hz2.2,hbl,Nat.zero_le _⟩,⟨b1,b2,b3⟩,b4,⟨Nat.le_refl _,by decide,fun _=>rfl⟩,KAt.nil _ _ _⟩
    rw [(List.cons.inj e0).1,(List.cons.inj e1).1,(List.cons.inj e2).1,(List.cons.inj e3).1,(List.cons.inj e4).1,(List.cons.inj e5).1,(List.cons.inj e6).1]
    rfl
   ·have hspot:0 < len→a.spot = none:=fun hpos=>by
     have h1:=hev 0 hpos
     rw [hcf,List.getElem?_eq_getElem (by omega)] at h1
     obtain ⟨ce,hce,hte⟩:=Option.bind_eq_some_iff.1 h1
     obtain ⟨q,qb,qc,qk,qd,e,hq⟩:=ih m (by omega) ce _ hte
     obtain ⟨_,_,hcc⟩:=World.cells?_some hce
     subst e
     have:=hcc 0 (by omega)
     simpa [Addr.add] using World.cell?_spot (this.trans rfl)
    have each:∀ i,i < len→∃ q:PT,PAt W m a.block (a.off + i * 7) q:=fun i hi=>by
     have h1:=hev i hi
     rw [hcf,List.getElem?_eq_getElem (by omega)] at h1
     obtain ⟨ce,hce,hte⟩:=Option.bind_eq_some_iff.1 h1
     obtain ⟨q,qb,qc,qk,qd,e,hq⟩:=ih m (by omega) ce _ hte
     obtain ⟨_,_,hcc⟩:=World.cells?_some hce
     subst e
     have hs:=hspot (by omega)
     obtain ⟨b,o,spot⟩:=a
     simp only at hs
     subst hs
     refine ⟨q,qb,qc,qk,qd,?_,hq⟩
     have hc:∀ j,j < 7→W.cell? ⟨b,o + i * 7 + j,none⟩ = [Value.string q.ty,.string q.cs,.string q.id,.string q.loc,.int .i64 q.how,.slice qb q.body.length qc,.slice qk q.kids.length qd][j]?:=fun j hj=>by
      have:=hcc j hj
      rw [Addr.add_lit,Addr.add_lit] at this
      exact this
     exact ⟨hc 0 (by omega),hc 1 (by omega),hc 2 (by omega),hc 3 (by omega),hc 4 (by omega),hc 5 (by omega),hc 6 (by omega)⟩
    haveI:Inhabited PT:=⟨pt0⟩
    obtain ⟨Q,hQ⟩:=Go.Deep.choose_lt each
    refine ⟨⟨s0,s1,s2,s3,z,body,(List.range len).map Q⟩,pb,cb,some a,cap,?_,⟨l0,l1,l2,l3,hz2.1,hz2.2,hbl,?_⟩,⟨b1,b2,b3⟩,b4,⟨?_,hcm,fun h=>by cases h⟩,?_⟩
    ·rw [(List.cons.inj e0).1,(List.cons.inj e1).1,(List.cons.inj e2).1,(List.cons.inj e3).1,(List.cons.inj e4).1,(List.cons.inj e5).1,(List.cons.inj e6).1]
     simp
    ·simp;exact Nat.le_trans hlc hcm
    ·simp;exact hlc
    ·rw [hfu,hm]
     refine KAt.up _ _ _ fun hne=>?_
     have hpos:0 < len:=by
      rcases Nat.eq_zero_or_pos len with e | e
      ·subst e;exact absurd rfl hne
      ·exact e
     have hs:=hspot hpos
     obtain ⟨b,o,spot⟩:=a
     simp only at hs
     subst hs
     refine ⟨b,o,rfl,fun i hi=>?_⟩
     have hi':i < len:=by simpa using hi
     have e1:((List.range len).map Q).getD i pt0 = Q i:=by simp [List.getD_eq_getElem?_getD,hi']
     show PAt W m b (o + i * 7) (((List.range len).map Q).getD i pt0)
     rw [e1]
     exact hQ i hi'
set_option maxRecDepth 100000 in
theorem part_open {H:Type} {enc:TypeId × Value→H} {W:World} {base:Nat} {held:Bool} {fuel:Nat} {v:Value} {x:DataW H × List MemPlace}
  (hv:Value.okWide Tryz.prog W .any base 25 v) (h:DataW.trod enc Tryz.prog W 0 (fun _=>true) held fuel 25 v.cells.toList = some x) :
  ∃ (p:PT) (pb:Option Addr) (cb:Nat) (pk:Option Addr) (ck F:Nat),v = .agg #[.string p.ty,.string p.cs,.string p.id,.string p.loc,.int .i64 p.how,.slice pb p.body.length cb,.slice pk p.kids.length ck]∧PHeld W F p pb cb pk ck:=by
 obtain ⟨cs,rfl,hsz⟩:=okWide_struct Tryz.underlying25 hv
 obtain ⟨p,pb,cb,pk,ck,e,hp⟩:=part_cells fuel _ x h
 refine ⟨p,pb,cb,pk,ck,fuel,?_,hp⟩
 congr 1
 apply Array.toList_inj.1
 exact e
end Go.Proofs.YtbbfcbodhmeanaaGreatDoor

