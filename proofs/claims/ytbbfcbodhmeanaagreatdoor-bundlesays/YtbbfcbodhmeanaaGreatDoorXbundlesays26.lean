
import Derived.Test.YtbbfcbodhmeanaaGreatDoorXbundlesays25
import Derived.Test.YtbbfcbodhmeanaaGreatDoorXbundlesays22
namespace Go.Proofs.YtbbfcbodhmeanaaGreatDoor
open Go.RowKit
theorem app_bar (a:ByteArray) (l:List UInt8) (b:ByteArray) (h:a.data.toList = l):a ++ b = bar (l ++ b.data.toList):=by
 apply ba_inj
 rw [data_app,h]
 rfl
theorem ucomp_any (b u:UV) (hb:b.short 120) (hu:u.short 120) (w:World) :
  Calls Tryz.prog 95 #[b.v,u.v] w fun e w'=>e = .returned ((ofL (compU b.l u.l)).v)∧Below w.heap.size w w':=by
 obtain ⟨bs,bhh,bh,bp,bhq,bq,bhf,bf⟩:=b
 obtain ⟨us,uhh,uh,up,uhq,uq,uhf,uf⟩:=u
 obtain ⟨_,_,hbp,_,_⟩:=hb
 obtain ⟨_,_,hup,_,_⟩:=hu
 simp only at hbp hup
 cases uhh with
 | true=>exact comp_H bs bh bp bq bf us uh up uq uf bhh bhq bhf uhq uhf w
 | false =>
  by_cases hpe:up.data.toList = []
  ·obtain rfl:=bempty_yes up hpe
   cases uhq with
   | true=>exact comp_E1 bs bh bp bq bf us uh uq uf bhh bhq bhf uhf w
   | false=>exact comp_E2 bs bh bp bq bf us uh uq uf bhh bhq bhf uhf w
  ·have he:=bempty_no up hpe
   have h0:=pos_no up hpe
   have hps:=preS_at up h0
   have hce:compU (UV.l ⟨bs,bhh,bh,bp,bhq,bq,bhf,bf⟩) (UV.l ⟨us,false,uh,up,uhq,uq,uhf,uf⟩) = if preS up.data.toList then ⟨bs.data.toList,bhh,bh.data.toList,up.data.toList,uhq,uq.data.toList,uhf,uf.data.toList⟩ else if bhh && bp.data.toList.isEmpty then ⟨bs.data.toList,bhh,bh.data.toList,47::up.data.toList,uhq,uq.data.toList,uhf,uf.data.toList⟩ else ⟨bs.data.toList,bhh,bh.data.toList,dirP bp.data.toList ++ up.data.toList,uhq,uq.data.toList,uhf,uf.data.toList⟩:=by
    unfold compU UV.l
    simp only
    rw [if_neg (by simp),if_neg (by rw [isE_no up hpe];simp)]
   rw [hce]
   cases h1:((up[0].toNat:Int) == 47) with
   | true =>
    rw [hps,h1,if_pos rfl]
    exact comp_S bs bh bp bq bf us uh up uq uf bhh bhq bhf uhq uhf he h0 h1 w
   | false =>
    rw [hps,h1,if_neg (by simp)]
    have last:∀ W,Calls Tryz.prog 147 #[.string bp,.int .u8 47] W fun e w'=>e = .returned (.int .i64 (Lib.lastIndexByte bp 47))∧w' = W:=fun W=>Tryz.strings_LastIndexByte bp 47 (by omega) W
    obtain ⟨d1,d2,d3⟩:=last_dir bp
    have hD:bp.extract 0 (Lib.lastIndexByte bp 47 + 1).toNat = bar (dirP bp.data.toList):=by
     apply ba_inj
     rw [Lib.extract_data,d3]
     simp [bar]
    have hDs:(bar (dirP bp.data.toList)).size≤1000:=by
     rw [bar_size,d3,List.length_take]
     have:=Lib.size_eq bp
     omega
    have hk:Lib.lastIndexByte bp 47 + 1 = (((Lib.lastIndexByte bp 47 + 1).toNat:Nat):Int):=by omega
    cases bhh with
    | true =>
     by_cases hbe:bp.data.toList = []
     ·obtain rfl:=bempty_yes bp hbe
      rw [if_pos (by rfl)]
      refine (comp_B bs bh bq bf us uh up uq uf bhq bhf uhq uhf he h0 h1 (by omega) w).mono ?_
      rintro e w' ⟨rfl,hb⟩
      refine ⟨?_,hb⟩
      rw [app_bar ⟨#[47]⟩ [47] up rfl]
      rfl
     ·rw [if_neg (by rw [isE_no bp hbe];simp)]
      refine (comp_R1 bs bh bp bq bf us uh up uq uf bhq bhf uhq uhf he h0 h1 (by omega) (by omega) _ _ hk d1 _ hD hDs (bempty_no bp hbe) last w).mono ?_
      rintro e w' ⟨rfl,hb⟩
      refine ⟨?_,hb⟩
      rw [app_bar (bar (dirP bp.data.toList)) _ up rfl]
      rfl
    | false =>
     rw [if_neg (by simp)]
     refine (comp_R0 bs bh bp bq bf us uh up uq uf bhq bhf uhq uhf he h0 h1 (by omega) (by omega) _ _ hk d1 _ hD hDs last w).mono ?_
     rintro e w' ⟨rfl,hb⟩
     refine ⟨?_,hb⟩
     rw [app_bar (bar (dirP bp.data.toList)) _ up rfl]
     rfl
def tot (xs:List (List UInt8)):Nat:=(xs.map fun x=>x.length + 1).sum
theorem tot_app (a b:List (List UInt8)):tot (a ++ b) = tot a + tot b:=by simp [tot]
theorem tot_cons (a:List UInt8) (b:List (List UInt8)):tot (a::b) = a.length + 1 + tot b:=by simp [tot]
theorem tot_nil:tot [] = 0:=rfl
theorem tot_back (s:List UInt8) (left:List (List UInt8)):tot (backP s left)≤tot left:=by
 unfold backP
 split
 ·rcases List.eq_nil_or_concat left with rfl | ⟨l,y,rfl⟩
  ·exact Nat.le_refl _
  ·rw [List.concat_eq_append,List.dropLast_concat,tot_app];omega
 ·exact Nat.le_refl _
theorem tot_dots:∀ (ps left:List (List UInt8)),tot (dotsGo ps left)≤tot left + tot ps
 | [],left=>by rw [dotsGo,tot_nil];omega
 | s::r,left=>by
  rw [dotsGo,tot_cons]
  split
  ·have h1:=tot_back s left
   have h2:=tot_dots r (if r.isEmpty then backP s left ++ [[]] else backP s left)
   have h3:tot (if r.isEmpty then backP s left ++ [[]] else backP s left)≤tot left + 1:=by
    split
    ·rw [tot_app];show tot (backP s left) + 1≤_;omega
    ·omega
   omega
  ·have h2:=tot_dots r (left ++ [s])
   rw [tot_app,tot_cons,tot_nil] at h2
   omega
theorem tot_join (xs:List (List UInt8)):(joinP xs).length≤tot xs:=by
 cases xs with
 | nil=>exact Nat.zero_le _
 | cons a t =>
  show (joinG [47] a t).length≤_
  induction t generalizing a with
  | nil=>rw [tot_cons];simp [joinG];omega
  | cons b t ih =>
   have:=ih b
   rw [tot_cons]
   simp only [joinG,List.length_append,List.length_cons,List.length_nil]
   omega
theorem tot_parts:∀ l:List UInt8,tot (partsP l) = l.length + 1
 | []=>rfl
 | c::r=>by
  have ih:=tot_parts r
  unfold partsP at ih ⊢
  rw [splitP]
  split
  ·rw [tot_cons];simp only;rw [ih];simp;omega
  ·simp only
   rw [tot_cons] at ih ⊢
   simp only [List.length_cons]
   omega
theorem undot_len (p:List UInt8):(undotU p).length≤p.length + 1:=by
 have h1:=tot_join (dotsGo (partsP p) [])
 have h2:=tot_dots (partsP p) []
 rw [tot_nil,tot_parts] at h2
 unfold undotU
 omega
theorem comp_len (b u:UL) (N:Nat) (h1:b.sch.length≤N) (h2:b.hst.length≤N) (h3:b.pth.length≤N) (h4:b.qry.length≤N) (g2:u.hst.length≤N) (g3:u.pth.length≤N) (g4:u.qry.length≤N) (g5:u.frg.length≤N) :
  (compU b u).sch.length≤N∧(compU b u).hst.length≤N∧(compU b u).pth.length≤N + N + 1∧(compU b u).qry.length≤N∧(compU b u).frg.length≤N:=by
 obtain ⟨m,hm⟩:=dirP_append b.pth
 have hd:=congrArg List.length hm
 rw [List.length_append] at hd
 unfold compU
 repeat' split
 all_goals (refine ⟨?_,?_,?_,?_,?_⟩ <;> simp only [List.length_append,List.length_cons] <;> omega)
theorem upost_lead {w w':World} {e:Ending} (y:UV) (L:Bool) (n:Nat) (hL:L = likeU y.l) (hn:n = checkU y.l) (h:e = .returned (.tuple #[if L = true then (ofL noUL).v else if n = 0 then y.v else (ofL noUL).v,.int .i64 (if L = true then 4 else (n:Int))])∧Below w.heap.size w w'):UPost w (endU y.l) e w':=by
 obtain ⟨rfl,hb⟩:=h
 refine ⟨?_,hb⟩
 subst hL hn
 unfold endU checkedU
 cases hl:likeU y.l with
 | true=>rw [if_pos rfl,if_pos rfl,if_pos rfl];rfl
 | false =>
  by_cases h:checkU y.l = 0
  ·simp only [h,Bool.false_eq_true,if_false,if_true]
   rfl
  ·simp only [h,Bool.false_eq_true,if_false]
theorem pre_one (s:ByteArray) (w:World):Calls Tryz.prog 59 #[.string s,.string ⟨#[47]⟩] w fun e w'=>e = .returned (.bool (preS s.data.toList))∧w' = w:=by
 refine (Tryz.strings_HasPrefix s ⟨#[47]⟩ w).mono ?_
 rintro e w' ⟨rfl,rfl⟩
 refine ⟨?_,rfl⟩
 rw [show Lib.hasPrefix s.data.toList (ByteArray.mk #[47]).data.toList = preS s.data.toList from by
  show Lib.hasPrefix s.data.toList [47] = preS s.data.toList
  cases s.data.toList with
  | nil=>rfl
  | cons a l=>simp [Lib.hasPrefix,List.isPrefixOf,preS,Bool.beq_comm]]
theorem ulead_any (b u:UV) (hb:b.short maxLen) (hu:u.short maxLen) (w:World) (hM:MaxAt w) :
  Calls Tryz.prog 51 #[b.v,u.v] w fun e w'=>UPost w (leadU b.l u.l) e w':=by
 have CB:=fun W=>ucheck_any b hb W
 have CU:=fun W=>ucheck_any u hu W
 obtain ⟨bs,bhh,bh,bp,bhq,bq,bhf,bf⟩:=b
 obtain ⟨us,uhh,uh,up,uhq,uq,uhf,uf⟩:=u
 unfold leadU
 by_cases hcb:checkU (UV.l ⟨bs,bhh,bh,bp,bhq,bq,bhf,bf⟩) = 0
 ·by_cases hcu:checkU (UV.l ⟨us,uhh,uh,up,uhq,uq,uhf,uf⟩) = 0
  ·rw [if_neg (by simpa using hcb),if_neg (by simpa using hcu)]
   rw [hcb] at CB
   rw [hcu] at CU
   have sb:=checkU_short hcb
   have su:=checkU_short hcu
   by_cases hse:bs.data.toList = []
   ·obtain rfl:=bempty_yes bs hse
    rw [if_pos (by rfl)]
    refine (lead_S bh bp bq bf us uh up uq uf bhh bhq bhf uhh uhq uhf w CB CU).mono ?_
    rintro e w' ⟨rfl,hb⟩
    exact ⟨rfl,hb⟩
   ·rw [if_neg (by show ¬ bs.data.toList.isEmpty = true;rw [isE_no bs hse];simp)]
    obtain ⟨b1,b2,b3,b4,b5⟩:=sb
    obtain ⟨u1,u2,u3,u4,u5⟩:=su
    simp only at b1 b2 b3 b4 b5 u1 u2 u3 u4 u5
    by_cases hue:us.data.toList = []
    ·obtain rfl:=bempty_yes us hue
     have CC:=fun W=>ucomp_any ⟨bs,bhh,bh,bp,bhq,bq,bhf,bf⟩ ⟨⟨#[]⟩,uhh,uh,up,uhq,uq,uhf,uf⟩ ⟨b1,b2,b3,b4,b5⟩ ⟨u1,u2,u3,u4,u5⟩ W
     have hlen:=comp_len (UV.l ⟨bs,bhh,bh,bp,bhq,bq,bhf,bf⟩) (UV.l ⟨⟨#[]⟩,uhh,uh,up,uhq,uq,uhf,uf⟩) 120 (by show bs.data.toList.length≤120;rw [← Lib.size_eq];exact b1) (by show bh.data.toList.length≤120;rw [← Lib.size_eq];exact b2) (by show bp.data.toList.length≤120;rw [← Lib.size_eq];exact b3) (by show bq.data.toList.length≤120;rw [← Lib.size_eq];exact b4) (by show uh.data.toList.length≤120;rw [← Lib.size_eq];exact u2) (by show up.data.toList.length≤120;rw [← Lib.size_eq];exact u3) (by show uq.data.toList.length≤120;rw [← Lib.size_eq];exact u4) (by show uf.data.toList.length≤120;rw [← Lib.size_eq];exact u5)
     have hfull:fullU (UV.l ⟨bs,bhh,bh,bp,bhq,bq,bhf,bf⟩) (UV.l ⟨⟨#[]⟩,uhh,uh,up,uhq,uq,uhf,uf⟩) = compU (UV.l ⟨bs,bhh,bh,bp,bhq,bq,bhf,bf⟩) (UV.l ⟨⟨#[]⟩,uhh,uh,up,uhq,uq,uhf,uf⟩):=rfl
     rw [hfull]
     generalize compU (UV.l ⟨bs,bhh,bh,bp,bhq,bq,bhf,bf⟩) (UV.l ⟨⟨#[]⟩,uhh,uh,up,uhq,uq,uhf,uf⟩) = Y at *
     obtain ⟨s1,hh1,h1,p1,hq1,q1,hf1,f1⟩:=Y
     obtain ⟨l1,l2,l3,l4,l5⟩:=hlen
     simp only at l1 l2 l3 l4 l5
     have hul:=undot_len p1
     have CDa:=fun W (hb:Below w.heap.size w W)=>udots_any (bar p1) W (hM.below hb) (by rw [bar_size];omega)
     cases hh1 with
     | true =>
      have hund:undU ⟨s1,true,h1,p1,hq1,q1,hf1,f1⟩ = UV.l ⟨bar s1,true,bar h1,bar (undotU p1),hq1,bar q1,hf1,bar f1⟩:=rfl
      rw [hund]
      exact (lead_CH bs bh bp bq bf uh up uq uf (bar s1) (bar h1) (bar p1) (bar q1) (bar f1) (bar (undotU p1)) bhh bhq bhf uhh uhq uhf hq1 hf1 hse _ _ w CB CU CC CDa (fun W=>ulike_any (bar s1) (bar h1) (bar (undotU p1)) (bar q1) (bar f1) true hq1 hf1 W) (fun W=>ucheck_any ⟨bar s1,true,bar h1,bar (undotU p1),hq1,bar q1,hf1,bar f1⟩ (by unfold maxLen;exact ⟨by rw [bar_size];omega,by rw [bar_size];omega,by rw [bar_size];omega,by rw [bar_size];omega,by rw [bar_size];omega⟩) W)).mono (fun e w' h=>upost_lead ⟨bar s1,true,bar h1,bar (undotU p1),hq1,bar q1,hf1,bar f1⟩ _ _ rfl rfl h)
     | false =>
      have CP:=fun W=>pre_one (bar p1) W
      rw [bar_l] at CP
      cases hps:preS p1 with
      | true =>
       rw [hps] at CP
       have hund:undU ⟨s1,false,h1,p1,hq1,q1,hf1,f1⟩ = UV.l ⟨bar s1,false,bar h1,bar (undotU p1),hq1,bar q1,hf1,bar f1⟩:=by unfold undU;rw [if_pos (by simp only [hps];rfl)];rfl
       rw [hund]
       exact (lead_CP bs bh bp bq bf uh up uq uf (bar s1) (bar h1) (bar p1) (bar q1) (bar f1) (bar (undotU p1)) bhh bhq bhf uhh uhq uhf hq1 hf1 hse _ _ w CB CU CC CP CDa (fun W=>ulike_any (bar s1) (bar h1) (bar (undotU p1)) (bar q1) (bar f1) false hq1 hf1 W) (fun W=>ucheck_any ⟨bar s1,false,bar h1,bar (undotU p1),hq1,bar q1,hf1,bar f1⟩ (by unfold maxLen;exact ⟨by rw [bar_size];omega,by rw [bar_size];omega,by rw [bar_size];omega,by rw [bar_size];omega,by rw [bar_size];omega⟩) W)).mono (fun e w' h=>upost_lead ⟨bar s1,false,bar h1,bar (undotU p1),hq1,bar q1,hf1,bar f1⟩ _ _ rfl rfl h)
      | false =>
       rw [hps] at CP
       have hund:undU ⟨s1,false,h1,p1,hq1,q1,hf1,f1⟩ = UV.l ⟨bar s1,false,bar h1,bar p1,hq1,bar q1,hf1,bar f1⟩:=by unfold undU;rw [if_neg (by simp only [hps];simp)];rfl
       rw [hund]
       exact (lead_CN bs bh bp bq bf uh up uq uf (bar s1) (bar h1) (bar p1) (bar q1) (bar f1) bhh bhq bhf uhh uhq uhf hq1 hf1 hse _ _ w CB CU CC CP (fun W=>ulike_any (bar s1) (bar h1) (bar p1) (bar q1) (bar f1) false hq1 hf1 W) (fun W=>ucheck_any ⟨bar s1,false,bar h1,bar p1,hq1,bar q1,hf1,bar f1⟩ (by unfold maxLen;exact ⟨by rw [bar_size];omega,by rw [bar_size];omega,by rw [bar_size];omega,by rw [bar_size];omega,by rw [bar_size];omega⟩) W)).mono (fun e w' h=>upost_lead ⟨bar s1,false,bar h1,bar p1,hq1,bar q1,hf1,bar f1⟩ _ _ rfl rfl h)
    ·have hfull:fullU (UV.l ⟨bs,bhh,bh,bp,bhq,bq,bhf,bf⟩) (UV.l ⟨us,uhh,uh,up,uhq,uq,uhf,uf⟩) = UV.l ⟨us,uhh,uh,up,uhq,uq,uhf,uf⟩:=by
      unfold fullU
      rw [if_neg]
      show ¬ us.data.toList.isEmpty = true
      rw [isE_no us hue];simp
     rw [hfull]
     have hul:=undot_len up.data.toList
     have hupl:=Lib.size_eq up
     have CDa:=fun W (hb:Below w.heap.size w W)=>udots_any up W (hM.below hb) (by omega)
     cases uhh with
     | true =>
      have hund:undU (UV.l ⟨us,true,uh,up,uhq,uq,uhf,uf⟩) = UV.l ⟨us,true,uh,bar (undotU up.data.toList),uhq,uq,uhf,uf⟩:=rfl
      rw [hund]
      exact (lead_KH bs bh bp bq bf us uh up uq uf (bar (undotU up.data.toList)) bhh bhq bhf uhq uhf hse hue _ _ w CB CU CDa (fun W=>ulike_any us uh (bar (undotU up.data.toList)) uq uf true uhq uhf W) (fun W=>ucheck_any ⟨us,true,uh,bar (undotU up.data.toList),uhq,uq,uhf,uf⟩ (by unfold maxLen;exact ⟨by simp only;omega,by simp only;omega,by rw [bar_size];omega,by simp only;omega,by simp only;omega⟩) W)).mono (fun e w' h=>upost_lead ⟨us,true,uh,bar (undotU up.data.toList),uhq,uq,uhf,uf⟩ _ _ rfl rfl h)
     | false =>
      have CP:=fun W=>pre_one up W
      cases hps:preS up.data.toList with
      | true =>
       rw [hps] at CP
       have hund:undU (UV.l ⟨us,false,uh,up,uhq,uq,uhf,uf⟩) = UV.l ⟨us,false,uh,bar (undotU up.data.toList),uhq,uq,uhf,uf⟩:=by
        unfold undU
        rw [if_pos (by show (false || preS up.data.toList) = true;rw [hps];rfl)]
        rfl
       rw [hund]
       exact (lead_KP bs bh bp bq bf us uh up uq uf (bar (undotU up.data.toList)) bhh bhq bhf uhq uhf hse hue _ _ w CB CU CP CDa (fun W=>ulike_any us uh (bar (undotU up.data.toList)) uq uf false uhq uhf W) (fun W=>ucheck_any ⟨us,false,uh,bar (undotU up.data.toList),uhq,uq,uhf,uf⟩ (by unfold maxLen;exact ⟨by simp only;omega,by simp only;omega,by rw [bar_size];omega,by simp only;omega,by simp only;omega⟩) W)).mono (fun e w' h=>upost_lead ⟨us,false,uh,bar (undotU up.data.toList),uhq,uq,uhf,uf⟩ _ _ rfl rfl h)
      | false =>
       rw [hps] at CP
       have hund:undU (UV.l ⟨us,false,uh,up,uhq,uq,uhf,uf⟩) = UV.l ⟨us,false,uh,up,uhq,uq,uhf,uf⟩:=by
        unfold undU
        rw [if_neg (by show ¬ (false || preS up.data.toList) = true;rw [hps];simp)]
       rw [hund]
       exact (lead_KN bs bh bp bq bf us uh up uq uf bhh bhq bhf uhq uhf hse hue _ _ w CB CU CP (fun W=>ulike_any us uh up uq uf false uhq uhf W) (fun W=>ucheck_any ⟨us,false,uh,up,uhq,uq,uhf,uf⟩ hu W)).mono (fun e w' h=>upost_lead ⟨us,false,uh,up,uhq,uq,uhf,uf⟩ _ _ rfl rfl h)
  ·rw [if_neg (by simpa using hcb),if_pos hcu]
   rw [hcb] at CB
   refine (lead_u bs bh bp bq bf us uh up uq uf bhh bhq bhf uhh uhq uhf _ hcu w CB CU).mono ?_
   rintro e w' ⟨rfl,hb⟩
   exact ⟨rfl,hb⟩
 ·rw [if_pos hcb]
  refine (lead_b bs bh bp bq bf us uh up uq uf bhh bhq bhf uhh uhq uhf _ hcb w CB).mono ?_
  rintro e w' ⟨rfl,hb⟩
  exact ⟨rfl,hb⟩
end Go.Proofs.YtbbfcbodhmeanaaGreatDoor



namespace Go.Proofs.YtbbfcbodhmeanaaGreatDoor
open Go.RowKit
theorem checkedU_short (u:UL):(ofL (checkedU u).1).short maxLen:=by
 unfold checkedU
 split
 ·rename_i h
  exact (checkU_short (u:=ofL u) (by rw [ofL_l];exact h)).mono (by decide)
 ·show (ofL noUL).short maxLen;unfold UV.short;decide
theorem parseU_short (s:List UInt8):(ofL (parseU s).1).short maxLen:=by
 have h0:(ofL noUL).short maxLen:=by unfold UV.short;decide
 unfold parseU
 split
 ·exact h0
 ·unfold parseA
  split
  ·exact checkedU_short _
  ·split
   ·exact h0
   ·exact checkedU_short _
theorem leadU_short (b u:UL):(ofL (leadU b u).1).short maxLen:=by
 have h0:(ofL noUL).short maxLen:=by unfold UV.short;decide
 unfold leadU
 split
 ·exact h0
 ·split
  ·exact h0
  ·split
   ·exact h0
   ·unfold endU
    split
    ·exact h0
    ·exact checkedU_short _
theorem bled_any (a b:ByteArray) (ha:a.size≤maxLen) (hb:b.size≤maxLen) (w:World) (hM:MaxAt w) :
  Calls Tryz.prog 12 #[.string a,.string b] w fun e w'=>e = .returned (.string (bar (ledU a.data.toList b.data.toList)))∧Below w.heap.size w w':=by
 have CP:=fun W=>uparse_any a ha W
 have CQ:=fun W=>uparse_any b hb W
 have hs1:=parseU_short a.data.toList
 have hs2:=parseU_short b.data.toList
 have CL:=fun W (hW:Below w.heap.size w W)=>ulead_any (ofL (parseU a.data.toList).1) (ofL (parseU b.data.toList).1) hs1 hs2 W (hM.below hW)
 have CR:=fun W=>uprint_any (ofL (leadU (parseU a.data.toList).1 (parseU b.data.toList).1).1) (leadU_short _ _) W
 rw [ofL_l] at CR
 simp only [ofL_l] at CL
 unfold ledU
 generalize parseU a.data.toList = P at *
 generalize parseU b.data.toList = Q at *
 generalize leadU P.1 Q.1 = L at *
 generalize printU L.1 = T at *
 refine (bled_walk w a b _ _ _ _ _ _ _ _ _ _ _ _ _ _ _ ⟨T.1.toArray⟩ _ _ _ _ _ _ _ _ _ P.2 Q.2 L.2 T.2 CP CQ CL CR).mono ?_
 rintro e w' ⟨rfl,hb'⟩
 refine ⟨?_,hb'⟩
 congr 2
 by_cases h1:P.2 ≠ 0
 ·rw [if_pos h1,if_pos h1];rfl
 ·rw [if_neg h1,if_neg h1]
  by_cases h2:Q.2 ≠ 0
  ·rw [if_pos h2,if_pos h2];rfl
  ·rw [if_neg h2,if_neg h2]
   by_cases h3:L.2 ≠ 0
   ·rw [if_pos h3,if_pos h3];rfl
   ·rw [if_neg h3,if_neg h3];rfl
end Go.Proofs.YtbbfcbodhmeanaaGreatDoor



namespace Go.Proofs.YtbbfcbodhmeanaaGreatDoor
open Go.RowKit
set_option maxHeartbeats 1000000 in
theorem right_set (p:UInt8→Bool) (g:Nat) (s:ByteArray) (w:World) (hs:s.size≤1000000000) (hg:∀ c:UInt8,w.cell? ⟨g,c.toNat,none⟩ = some (.bool (p c))) :
  Calls Tryz.prog 124 #[.string s,.pointer (some ⟨g,0,none⟩)] w fun e w'=>e = .returned (.string ⟨(dropEnd p s.data.toList).toArray⟩)∧w' = w:=by
 have HG:Hid (∀ c:UInt8,w.cell? ⟨g,c.toNat,none⟩ = some (.bool (p c))):=hg
 clear hg
 go_enter Tryz.func124,Tryz.ntmps124
 go_wp2
 go_loopw [0] (fun v wr=>∃ t:ByteArray,v = .string t∧t.size≤s.size∧wr = w∧Hid (dropEnd p t.data.toList = dropEnd p s.data.toList)) (fun v _=>strLen v)
 case atStart=>exact ⟨s,rfl,Nat.le_refl _,rfl,rfl⟩
 case round =>
  obtain ⟨t,rfl,hts,rfl,HT⟩:=hrel
  rcases Nat.eq_zero_or_pos t.size with h0 | h0
  ·go_wp2
   go_ret
   have e:t.data.toList = []:=List.length_eq_zero_iff.1 (by rw [← Lib.size_eq];exact h0)
   exact ⟨congrArg Ending.returned (strt_eq (by rw [← HT.out,e];rfl)),rfl⟩
  ·obtain ⟨n,hn⟩:∃ n,t.size = n + 1:=⟨t.size - 1,by omega⟩
   obtain ⟨c,t8,h1,h2,h3,h4⟩:=ba_tail t n hn
   have hcell:=HG.out c
   cases hb:p c
   ·have HE:Hid (dropEnd p t.data.toList = t.data.toList):=by unfold Hid;rw [h4];exact dropEnd_no p _ _ hb
    rw [hb] at hcell
    clear h4 hb
    go_wp2_with (go_at_call 161;refine (in_set g c _ rfl false _ hcell).mono ?_;rintro e w' ⟨rfl,hw'⟩;have hw'':=hw'.symm;subst hw'')
    go_ret
    exact ⟨congrArg Ending.returned (strt_eq (by rw [← HT.out,HE.out])),rfl⟩
   ·have HE:Hid (dropEnd p t8.data.toList = dropEnd p t.data.toList):=by unfold Hid;rw [h4];exact (dropEnd_yes p _ _ hb).symm
    rw [hb] at hcell
    clear h4 hb
    go_wp2_with (go_at_call 161;refine (in_set g c _ rfl true _ hcell).mono ?_;rintro e w' ⟨rfl,hw'⟩;have hw'':=hw'.symm;subst hw'')
    go_roundw
    case rel=>exact ⟨t8,rfl,by omega,trivial,HE.out.trans HT.out⟩
    case measure=>simp [strLen];omega
set_option maxHeartbeats 1000000 in
theorem left_set (p:UInt8→Bool) (g:Nat) (s:ByteArray) (w:World) (hg:∀ c:UInt8,w.cell? ⟨g,c.toNat,none⟩ = some (.bool (p c))) :
  Calls Tryz.prog 123 #[.string s,.pointer (some ⟨g,0,none⟩)] w fun e w'=>e = .returned (.string ⟨(s.data.toList.dropWhile p).toArray⟩)∧w' = w:=by
 have HG:Hid (∀ c:UInt8,w.cell? ⟨g,c.toNat,none⟩ = some (.bool (p c))):=hg
 clear hg
 go_enter Tryz.func123,Tryz.ntmps123
 go_wp2
 go_loopw [0] (fun v wr=>∃ t:ByteArray,v = .string t∧t.size≤s.size∧wr = w∧Hid (t.data.toList.dropWhile p = s.data.toList.dropWhile p)) (fun v _=>strLen v)
 case atStart=>exact ⟨s,rfl,Nat.le_refl _,rfl,rfl⟩
 case round =>
  obtain ⟨t,rfl,hts,rfl,HT⟩:=hrel
  rcases Nat.eq_zero_or_pos t.size with h0 | h0
  ·go_wp2
   go_ret
   have e:t.data.toList = []:=List.length_eq_zero_iff.1 (by rw [← Lib.size_eq];exact h0)
   exact ⟨congrArg Ending.returned (strt_eq (by rw [← HT.out,e];rfl)),rfl⟩
  ·obtain ⟨n,hn⟩:∃ n,t.size = n + 1:=⟨t.size - 1,by omega⟩
   obtain ⟨c,t8,h1,h2,h3,h4⟩:=ba_head t n hn
   have hcell:=HG.out c
   cases hb:p c
   ·have HE:Hid (t.data.toList.dropWhile p = t.data.toList):=by unfold Hid;rw [h4,List.dropWhile_cons,if_neg (by simp [hb])]
    rw [hb] at hcell
    clear h4 hb
    go_wp2_with (go_at_call 161;refine (in_set g c _ rfl false _ hcell).mono ?_;rintro e w' ⟨rfl,hw'⟩;have hw'':=hw'.symm;subst hw'')
    go_ret
    exact ⟨congrArg Ending.returned (strt_eq (by rw [← HT.out,HE.out])),rfl⟩
   ·have HE:Hid (t8.data.toList.dropWhile p = t.data.toList.dropWhile p):=by unfold Hid;rw [h4,List.dropWhile_cons,if_pos hb]
    rw [hb] at hcell
    clear h4 hb
    go_wp2_with (go_at_call 161;refine (in_set g c _ rfl true _ hcell).mono ?_;rintro e w' ⟨rfl,hw'⟩;have hw'':=hw'.symm;subst hw'')
    go_roundw
    case rel=>exact ⟨t8,rfl,by omega,trivial,HE.out.trans HT.out⟩
    case measure=>simp [strLen];omega
set_option maxHeartbeats 2000000 in
set_option maxRecDepth 100000 in
theorem trim_set (cs:ByteArray) (s:ByteArray) (w:World) (hs:s.size≤1000000000) (hc2:2≤cs.size) (hcm:cs.size≤1000) (hasc:∀ (j:Nat) (b:UInt8),cs.data.toList[j]? = some b→b.toNat < 128) :
  Calls Tryz.prog 70 #[.string s,.string cs] w fun e w'=>e = .returned (.string ⟨(trimBy cs.data.toList.contains s.data.toList).toArray⟩)∧Below w.heap.size w w':=by
 have hcne:cs.toList.isEmpty = false:=by
  rw [ByteArray.toList_eq]
  cases h:cs.data.toList with
  | nil=>have:=congrArg List.length h;rw [← Lib.size_eq] at this;rw [List.length_nil] at this;omega
  | cons a b=>rfl
 rcases Nat.eq_zero_or_pos s.size with h0 | h0
 ·have e:s.data.toList = []:=List.length_eq_zero_iff.1 (by rw [← Lib.size_eq];exact h0)
  obtain rfl:s = ⟨#[]⟩:=ByteArray.ext (Array.toList_inj.1 e)
  clear e h0 hs
  go_enter Tryz.func70,Tryz.ntmps70
  go_wp2
  go_ret
  exact ⟨rfl,Below.refl _ _⟩
 ·have hne:s.toList.isEmpty = false:=by
   rw [ByteArray.toList_eq]
   cases h:s.data.toList with
   | nil=>have:=congrArg List.length h;rw [← Lib.size_eq] at this;rw [List.length_nil] at this;omega
   | cons a b=>rfl
  have hn1:((cs.size:Int) == 1) = false:=by rw [beq_eq_false_iff_ne];omega
  have HM:=Tryz.strings_makeASCIISet zero256 cs w (by omega) hasc
  have HS1:Hid ((Lib.setCells cs.data.toList).size = 256):=Lib.setCells_size _
  have HS2:Hid (∀ c:UInt8,(Lib.setCells cs.data.toList)[c.toNat]? = some (.bool (cs.data.toList.contains c))):=fun c=>Lib.setCells_at _ c
  have HS3:Hid ((Lib.setCells cs.data.toList).all (·.oneCell') = true):=Lib.setCells_one _
  generalize Lib.setCells cs.data.toList = SA at *
  have HMM:Hid (Calls Tryz.prog 122 #[.string cs] w _):=HM
  clear HM hasc
  go_enter Tryz.func70,Tryz.ntmps70
  go_wp2_with fail
  refine HMM.out.mono ?_
  rintro e w1 ⟨rfl,rfl⟩
  clear HMM
  have hA1:=HS1.out
  have hsc:(storeCells ⟨w.heap.size + 1,0,none⟩ SA.toList 0).run Tryz.prog ((w.alloc (.cells SA 152)).alloc (.cells Tryz.zeroCells152 152)) = .ok () ((w.alloc (.cells SA 152)).alloc (.cells SA 152)):=by
   have:=run_storeCells_new (P:=Tryz.prog) (w.alloc (.cells SA 152)) 152 Tryz.zeroCells152 SA (by rw [hA1];kernel_rfl) (by rw [hA1];kernel_rfl) HS3.out
   simpa using this
  have HC:Hid (∀ c:UInt8,((w.alloc (.cells SA 152)).alloc (.cells SA 152)).cell? ⟨w.heap.size + 1,c.toNat,none⟩ = some (.bool (cs.data.toList.contains c))):=fun c=>by
   rw [World.cell?_alloc_at _ _ _ _ (by simp)];exact HS2.out c
  have hb2:Below w.heap.size w ((w.alloc (.cells SA 152)).alloc (.cells SA 152)):=((Below.refl _ _).alloc (Nat.le_refl _) _).alloc (by simp) _
  go_wp2_with fail
  clear hsc
  generalize ((w.alloc (.cells SA 152)).alloc (.cells SA 152)) = w2 at *
  refine (right_set cs.data.toList.contains (w.heap.size + 1) s w2 hs HC.out).mono ?_
  rintro e w3 ⟨rfl,hw3⟩
  have hw3':=hw3.symm
  subst hw3'
  go_wp2_with fail
  refine (left_set cs.data.toList.contains (w.heap.size + 1) ⟨(dropEnd cs.data.toList.contains s.data.toList).toArray⟩ w2 HC.out).mono ?_
  rintro e w3 ⟨rfl,hw3⟩
  have hw3':=hw3.symm
  subst hw3'
  clear HC
  go_wp2
  go_ret
  exact ⟨rfl,hb2⟩
end Go.Proofs.YtbbfcbodhmeanaaGreatDoor



namespace Go.Proofs.YtbbfcbodhmeanaaGreatDoor
open Go.RowKit
def schSet:List UInt8:=[97,98,99,100,101,102,103,104,105,106,107,108,109,110,111,112,113,114,115,116,117,118,119,120,121,122,48,49,50,51,52,53,54,55,56,57,43,45,46]
theorem schSet_is (c:UInt8):schSet.contains c = schB c:=by
 have:∀ n:Fin 256,schSet.contains (UInt8.ofNat n.val) = schB (UInt8.ofNat n.val):=by decide +kernel
 have h:=this ⟨c.toNat,c.toNat_lt⟩
 simp only [UInt8.ofNat_toNat] at h
 exact h
theorem trim_all (p:UInt8→Bool) (l:List UInt8):(trimBy p l).isEmpty = l.all p:=by
 unfold trimBy dropEnd
 rw [Bool.eq_iff_iff,List.isEmpty_iff,List.all_eq_true]
 constructor
 ·intro h c hc
  have h1:∀ (m:List UInt8),m.dropWhile p = []→∀ c ∈ m,p c = true:=fun m hm c hc=>by
   induction m with
   | nil=>cases hc
   | cons a m ih =>
    rw [List.dropWhile_cons] at hm
    split at hm
    ·rename_i ha
     rcases List.mem_cons.1 hc with rfl | hc
     ·exact ha
     ·exact ih hm hc
    ·cases hm
  have h2:=h1 _ h
  rcases hd:l.reverse.dropWhile p with _ | ⟨a,m⟩
  ·exact h1 _ hd c (by simpa using hc)
  ·have h3:p a = false:=by
    have:∀ (m:List UInt8) (a:UInt8) (t:List UInt8),m.dropWhile p = a::t→p a = false:=fun m=>by
     induction m with
     | nil=>intro a t h;cases h
     | cons b m ih =>
      intro a t h
      rw [List.dropWhile_cons] at h
      split at h
      ·exact ih a t h
      ·rename_i hb;cases h;simpa using hb
    exact this _ _ _ hd
   have:=h2 a (by rw [hd];simp)
   rw [h3] at this
   cases this
 ·intro h
  have h1:∀ (m:List UInt8),(∀ c ∈ m,p c = true)→m.dropWhile p = []:=fun m hm=>by
   induction m with
   | nil=>rfl
   | cons a m ih=>rw [List.dropWhile_cons,if_pos (hm a (by simp)),ih (fun c hc=>hm c (by simp [hc]))]
  rw [h1 l.reverse (fun c hc=>h c (by simpa using hc))]
  rfl
set_option maxHeartbeats 1000000 in
theorem rscheme_any (s:ByteArray) (w:World) (hs:s.size≤1000000) :
  Calls Tryz.prog 101 #[.string s] w fun e w'=>e = .returned (.bool (s.data.toList.isEmpty || schemeS s.data.toList))∧Below w.heap.size w w':=by
 by_cases hne:s.data.toList = []
 ·obtain rfl:=bempty_yes s hne
  go_enter Tryz.func101,Tryz.ntmps101
  go_wp2
  go_ret
  exact ⟨rfl,Below.refl _ _⟩
 ·have he:=bempty_no s hne
  have h0:=pos_no s hne
  have h0i:(0:Int) < (s.size:Int):=by omega
  have HS:Hid ((s.data.toList.isEmpty || schemeS s.data.toList) = ((decide (97≤s[0].toNat) && decide (s[0].toNat≤122)) && s.data.toList.all schB)):=by
   unfold Hid
   rw [isE_no s hne,Bool.false_or]
   have e:=dropB s 0 h0
   rw [List.drop_zero] at e
   unfold schemeS
   cases hl:s.data.toList with
   | nil=>rw [hl] at e;cases e
   | cons a l=>rw [hl] at e;cases e;rfl
  have CT:=trim_set ⟨schSet.toArray⟩ s w (by omega) (by decide) (by decide) (fun j b hb=>by
   have:∀ b ∈ schSet,b.toNat < 128:=by decide
   exact this b (List.mem_of_getElem? hb))
  obtain ⟨TT,hTT⟩:∃ T:ByteArray,T = ⟨(trimBy (ByteArray.mk schSet.toArray).data.toList.contains s.data.toList).toArray⟩:=⟨_,rfl⟩
  rw [← hTT] at CT
  have hTe:TT.data.toList.isEmpty = s.data.toList.all schB:=by
   rw [hTT]
   show (trimBy schSet.contains s.data.toList).isEmpty = _
   rw [show schSet.contains = schB from funext schSet_is,trim_all]
  have HC:Hid (Calls Tryz.prog 70 #[.string s,.string ⟨#[97,98,99,100,101,102,103,104,105,106,107,108,109,110,111,112,113,114,115,116,117,118,119,120,121,122,48,49,50,51,52,53,54,55,56,57,43,45,46]⟩] w fun e w'=>e = .returned (.string TT)∧Below w.heap.size w w'):=CT
  clear CT hTT
  cases ha:s.data.toList.all schB with
  | false =>
   have HN:Hid ((s.data.toList.isEmpty || schemeS s.data.toList) = false):=by unfold Hid;rw [HS.out,ha,Bool.and_false]
   rw [ha] at hTe
   have hT0:TT.toList.isEmpty = false:=by rw [ByteArray.toList_eq];exact hTe
   clear HS ha hTe hne
   go_enter Tryz.func101,Tryz.ntmps101
   go_wp2_with fail
   refine HC.out.mono ?_
   rintro e w1 ⟨rfl,hb1⟩
   clear HC
   go_wp2
   go_ret
   exact ⟨by rw [HN.out];rfl,hb1⟩
  | true =>
   rw [ha] at hTe
   have hT0:=bempty_yes TT (by simpa using hTe)
   subst hT0
   have h1d:decide ((97:Int)≤(s[0].toNat:Int)) = decide (97≤s[0].toNat):=decide_eq_decide.2 (by omega)
   have h2d:decide ((s[0].toNat:Int)≤122) = decide (s[0].toNat≤122):=decide_eq_decide.2 (by omega)
   have HN:Hid ((s.data.toList.isEmpty || schemeS s.data.toList) = (decide ((97:Int)≤(s[0].toNat:Int)) && decide ((s[0].toNat:Int)≤122))):=by unfold Hid;rw [HS.out,ha,Bool.and_true,h1d,h2d]
   clear HS ha hTe hne h1d h2d
   by_cases h1:(97:Int)≤(s[0].toNat:Int)
   ·by_cases h2:(s[0].toNat:Int)≤122
    ·go_enter Tryz.func101,Tryz.ntmps101
     go_wp2_with fail
     refine HC.out.mono ?_
     rintro e w1 ⟨rfl,hb1⟩
     clear HC
     go_wp2
     go_ret
     exact ⟨by rw [HN.out];simp [h1,h2],hb1⟩
    ·have h2':decide ((s[0].toNat:Int)≤122) = false:=decide_eq_false h2
     go_enter Tryz.func101,Tryz.ntmps101
     go_wp2_with fail
     refine HC.out.mono ?_
     rintro e w1 ⟨rfl,hb1⟩
     clear HC
     go_wp2
     go_ret
     exact ⟨by rw [HN.out];simp [h2],hb1⟩
   ·have h1':decide ((97:Int)≤(s[0].toNat:Int)) = false:=decide_eq_false h1
    go_enter Tryz.func101,Tryz.ntmps101
    go_wp2_with fail
    refine HC.out.mono ?_
    rintro e w1 ⟨rfl,hb1⟩
    clear HC
    go_wp2
    go_ret
    exact ⟨by rw [HN.out,h1'];rfl,hb1⟩
end Go.Proofs.YtbbfcbodhmeanaaGreatDoor



namespace Go.Proofs.YtbbfcbodhmeanaaGreatDoor
open Go.RowKit
theorem kept_on {W W':World} {k:Nat} {o:Obj} (h:W.heap[k]? = some o) (hb:Below W.heap.size W W'):W'.heap[k]? = some o:=by
 rw [hb.block _ (Array.getElem?_eq_some_iff.1 h).1];exact h
theorem kept_alloc {W:World} {k:Nat} {o o':Obj} (h:W.heap[k]? = some o):(W.alloc o').heap[k]? = some o:=kept_on h ((Below.refl _ _).alloc (Nat.le_refl _) _)
theorem cells_8 {W:World} {k:Nat} {t:TypeId} {v0 v1 v2 v3 v4 v5 v6 v7:Value} (h:W.heap[k]? = some (.cells #[v0,v1,v2,v3,v4,v5,v6,v7] t)) :
  W.cell? ⟨k,0,none⟩ = some v0∧W.cell? ⟨k,1,none⟩ = some v1∧W.cell? ⟨k,2,none⟩ = some v2∧W.cell? ⟨k,3,none⟩ = some v3∧W.cell? ⟨k,4,none⟩ = some v4∧W.cell? ⟨k,5,none⟩ = some v5∧W.cell? ⟨k,6,none⟩ = some v6∧W.cell? ⟨k,7,none⟩ = some v7∧∀ i,W.frozen? ⟨k,i,none⟩ = false :=
 ⟨blk_cell h 0,blk_cell h 1,blk_cell h 2,blk_cell h 3,blk_cell h 4,blk_cell h 5,blk_cell h 6,blk_cell h 7,blk_frozen h⟩
end Go.Proofs.YtbbfcbodhmeanaaGreatDoor

