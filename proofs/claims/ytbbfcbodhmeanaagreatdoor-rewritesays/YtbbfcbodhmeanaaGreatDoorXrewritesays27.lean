
import Derived.Test.YtbbfcbodhmeanaaGreatDoorXrewritesays26
import Derived.Test.YtbbfcbodhmeanaaGreatDoorXrewritesays13
namespace Go.Proofs.YtbbfcbodhmeanaaGreatDoor
open Go.RowKit
theorem app_bar (a:ByteArray) (l:List UInt8) (b:ByteArray) (h:a.data.toList = l):a ++ b = bar (l ++ b.data.toList):=by
 apply ba_inj
 rw [data_app,h]
 rfl
theorem ucomp_any (b u:UV) (hb:b.short 120) (hu:u.short 120) (w:World) :
  Calls Tryz.prog 95 #[b.v,u.v] w fun e w'=>e = .returned ((ofL (compU b.l u.l)).v)∧Below w.heap.size w w':=by
 obtain ⟨bs,bhh,bh,bp,bhq,bq,bhf,bf⟩:=b
 obtain ⟨us,uhh,uh,up,uhq,uq,uhf,uf⟩:=u
 obtain ⟨_,_,hbp,_,_⟩:=hb
 obtain ⟨_,_,hup,_,_⟩:=hu
 simp only at hbp hup
 cases uhh with
 | true=>exact comp_H bs bh bp bq bf us uh up uq uf bhh bhq bhf uhq uhf w
 | false =>
  by_cases hpe:up.data.toList = []
  ·obtain rfl:=bempty_yes up hpe
   cases uhq with
   | true=>exact comp_E1 bs bh bp bq bf us uh uq uf bhh bhq bhf uhf w
   | false=>exact comp_E2 bs bh bp bq bf us uh uq uf bhh bhq bhf uhf w
  ·have he:=bempty_no up hpe
   have h0:=pos_no up hpe
   have hps:=preS_at up h0
   have hce:compU (UV.l ⟨bs,bhh,bh,bp,bhq,bq,bhf,bf⟩) (UV.l ⟨us,false,uh,up,uhq,uq,uhf,uf⟩) = if preS up.data.toList then ⟨bs.data.toList,bhh,bh.data.toList,up.data.toList,uhq,uq.data.toList,uhf,uf.data.toList⟩ else if bhh && bp.data.toList.isEmpty then ⟨bs.data.toList,bhh,bh.data.toList,47::up.data.toList,uhq,uq.data.toList,uhf,uf.data.toList⟩ else ⟨bs.data.toList,bhh,bh.data.toList,dirP bp.data.toList ++ up.data.toList,uhq,uq.data.toList,uhf,uf.data.toList⟩:=by
    unfold compU UV.l
    simp only
    rw [if_neg (by simp),if_neg (by rw [isE_no up hpe];simp)]
   rw [hce]
   cases h1:((up[0].toNat:Int) == 47) with
   | true =>
    rw [hps,h1,if_pos rfl]
    exact comp_S bs bh bp bq bf us uh up uq uf bhh bhq bhf uhq uhf he h0 h1 w
   | false =>
    rw [hps,h1,if_neg (by simp)]
    have last:∀ W,Calls Tryz.prog 147 #[.string bp,.int .u8 47] W fun e w'=>e = .returned (.int .i64 (Lib.lastIndexByte bp 47))∧w' = W:=fun W=>Tryz.strings_LastIndexByte bp 47 (by omega) W
    obtain ⟨d1,d2,d3⟩:=last_dir bp
    have hD:bp.extract 0 (Lib.lastIndexByte bp 47 + 1).toNat = bar (dirP bp.data.toList):=by
     apply ba_inj
     rw [Lib.extract_data,d3]
     simp [bar]
    have hDs:(bar (dirP bp.data.toList)).size≤1000:=by
     rw [bar_size,d3,List.length_take]
     have:=Lib.size_eq bp
     omega
    have hk:Lib.lastIndexByte bp 47 + 1 = (((Lib.lastIndexByte bp 47 + 1).toNat:Nat):Int):=by omega
    cases bhh with
    | true =>
     by_cases hbe:bp.data.toList = []
     ·obtain rfl:=bempty_yes bp hbe
      rw [if_pos (by rfl)]
      refine (comp_B bs bh bq bf us uh up uq uf bhq bhf uhq uhf he h0 h1 (by omega) w).mono ?_
      rintro e w' ⟨rfl,hb⟩
      refine ⟨?_,hb⟩
      rw [app_bar ⟨#[47]⟩ [47] up rfl]
      rfl
     ·rw [if_neg (by rw [isE_no bp hbe];simp)]
      refine (comp_R1 bs bh bp bq bf us uh up uq uf bhq bhf uhq uhf he h0 h1 (by omega) (by omega) _ _ hk d1 _ hD hDs (bempty_no bp hbe) last w).mono ?_
      rintro e w' ⟨rfl,hb⟩
      refine ⟨?_,hb⟩
      rw [app_bar (bar (dirP bp.data.toList)) _ up rfl]
      rfl
    | false =>
     rw [if_neg (by simp)]
     refine (comp_R0 bs bh bp bq bf us uh up uq uf bhq bhf uhq uhf he h0 h1 (by omega) (by omega) _ _ hk d1 _ hD hDs last w).mono ?_
     rintro e w' ⟨rfl,hb⟩
     refine ⟨?_,hb⟩
     rw [app_bar (bar (dirP bp.data.toList)) _ up rfl]
     rfl
def tot (xs:List (List UInt8)):Nat:=(xs.map fun x=>x.length + 1).sum
theorem tot_app (a b:List (List UInt8)):tot (a ++ b) = tot a + tot b:=by simp [tot]
theorem tot_cons (a:List UInt8) (b:List (List UInt8)):tot (a::b) = a.length + 1 + tot b:=by simp [tot]
theorem tot_nil:tot [] = 0:=rfl
theorem tot_back (s:List UInt8) (left:List (List UInt8)):tot (backP s left)≤tot left:=by
 unfold backP
 split
 ·rcases List.eq_nil_or_concat left with rfl | ⟨l,y,rfl⟩
  ·exact Nat.le_refl _
  ·rw [List.concat_eq_append,List.dropLast_concat,tot_app];omega
 ·exact Nat.le_refl _
theorem tot_dots:∀ (ps left:List (List UInt8)),tot (dotsGo ps left)≤tot left + tot ps
 | [],left=>by rw [dotsGo,tot_nil];omega
 | s::r,left=>by
  rw [dotsGo,tot_cons]
  split
  ·have h1:=tot_back s left
   have h2:=tot_dots r (if r.isEmpty then backP s left ++ [[]] else backP s left)
   have h3:tot (if r.isEmpty then backP s left ++ [[]] else backP s left)≤tot left + 1:=by
    split
    ·rw [tot_app];show tot (backP s left) + 1≤_;omega
    ·omega
   omega
  ·have h2:=tot_dots r (left ++ [s])
   rw [tot_app,tot_cons,tot_nil] at h2
   omega
theorem tot_join (xs:List (List UInt8)):(joinP xs).length≤tot xs:=by
 cases xs with
 | nil=>exact Nat.zero_le _
 | cons a t =>
  show (joinG [47] a t).length≤_
  induction t generalizing a with
  | nil=>rw [tot_cons];simp [joinG];omega
  | cons b t ih =>
   have:=ih b
   rw [tot_cons]
   simp only [joinG,List.length_append,List.length_cons,List.length_nil]
   omega
theorem tot_parts:∀ l:List UInt8,tot (partsP l) = l.length + 1
 | []=>rfl
 | c::r=>by
  have ih:=tot_parts r
  unfold partsP at ih ⊢
  rw [splitP]
  split
  ·rw [tot_cons];simp only;rw [ih];simp;omega
  ·simp only
   rw [tot_cons] at ih ⊢
   simp only [List.length_cons]
   omega
theorem undot_len (p:List UInt8):(undotU p).length≤p.length + 1:=by
 have h1:=tot_join (dotsGo (partsP p) [])
 have h2:=tot_dots (partsP p) []
 rw [tot_nil,tot_parts] at h2
 unfold undotU
 omega
theorem comp_len (b u:UL) (N:Nat) (h1:b.sch.length≤N) (h2:b.hst.length≤N) (h3:b.pth.length≤N) (h4:b.qry.length≤N) (g2:u.hst.length≤N) (g3:u.pth.length≤N) (g4:u.qry.length≤N) (g5:u.frg.length≤N) :
  (compU b u).sch.length≤N∧(compU b u).hst.length≤N∧(compU b u).pth.length≤N + N + 1∧(compU b u).qry.length≤N∧(compU b u).frg.length≤N:=by
 obtain ⟨m,hm⟩:=dirP_append b.pth
 have hd:=congrArg List.length hm
 rw [List.length_append] at hd
 unfold compU
 repeat' split
 all_goals (refine ⟨?_,?_,?_,?_,?_⟩ <;> simp only [List.length_append,List.length_cons] <;> omega)
theorem upost_lead {w w':World} {e:Ending} (y:UV) (L:Bool) (n:Nat) (hL:L = likeU y.l) (hn:n = checkU y.l) (h:e = .returned (.tuple #[if L = true then (ofL noUL).v else if n = 0 then y.v else (ofL noUL).v,.int .i64 (if L = true then 4 else (n:Int))])∧Below w.heap.size w w'):UPost w (endU y.l) e w':=by
 obtain ⟨rfl,hb⟩:=h
 refine ⟨?_,hb⟩
 subst hL hn
 unfold endU checkedU
 cases hl:likeU y.l with
 | true=>rw [if_pos rfl,if_pos rfl,if_pos rfl];rfl
 | false =>
  by_cases h:checkU y.l = 0
  ·simp only [h,Bool.false_eq_true,if_false,if_true]
   rfl
  ·simp only [h,Bool.false_eq_true,if_false]
theorem pre_one (s:ByteArray) (w:World):Calls Tryz.prog 59 #[.string s,.string ⟨#[47]⟩] w fun e w'=>e = .returned (.bool (preS s.data.toList))∧w' = w:=by
 refine (Tryz.strings_HasPrefix s ⟨#[47]⟩ w).mono ?_
 rintro e w' ⟨rfl,rfl⟩
 refine ⟨?_,rfl⟩
 rw [show Lib.hasPrefix s.data.toList (ByteArray.mk #[47]).data.toList = preS s.data.toList from by
  show Lib.hasPrefix s.data.toList [47] = preS s.data.toList
  cases s.data.toList with
  | nil=>rfl
  | cons a l=>simp [Lib.hasPrefix,List.isPrefixOf,preS,Bool.beq_comm]]
theorem ulead_any (b u:UV) (hb:b.short maxLen) (hu:u.short maxLen) (w:World) (hM:MaxAt w) :
  Calls Tryz.prog 51 #[b.v,u.v] w fun e w'=>UPost w (leadU b.l u.l) e w':=by
 have CB:=fun W=>ucheck_any b hb W
 have CU:=fun W=>ucheck_any u hu W
 obtain ⟨bs,bhh,bh,bp,bhq,bq,bhf,bf⟩:=b
 obtain ⟨us,uhh,uh,up,uhq,uq,uhf,uf⟩:=u
 unfold leadU
 by_cases hcb:checkU (UV.l ⟨bs,bhh,bh,bp,bhq,bq,bhf,bf⟩) = 0
 ·by_cases hcu:checkU (UV.l ⟨us,uhh,uh,up,uhq,uq,uhf,uf⟩) = 0
  ·rw [if_neg (by simpa using hcb),if_neg (by simpa using hcu)]
   rw [hcb] at CB
   rw [hcu] at CU
   have sb:=checkU_short hcb
   have su:=checkU_short hcu
   by_cases hse:bs.data.toList = []
   ·obtain rfl:=bempty_yes bs hse
    rw [if_pos (by rfl)]
    refine (lead_S bh bp bq bf us uh up uq uf bhh bhq bhf uhh uhq uhf w CB CU).mono ?_
    rintro e w' ⟨rfl,hb⟩
    exact ⟨rfl,hb⟩
   ·rw [if_neg (by show ¬ bs.data.toList.isEmpty = true;rw [isE_no bs hse];simp)]
    obtain ⟨b1,b2,b3,b4,b5⟩:=sb
    obtain ⟨u1,u2,u3,u4,u5⟩:=su
    simp only at b1 b2 b3 b4 b5 u1 u2 u3 u4 u5
    by_cases hue:us.data.toList = []
    ·obtain rfl:=bempty_yes us hue
     have CC:=fun W=>ucomp_any ⟨bs,bhh,bh,bp,bhq,bq,bhf,bf⟩ ⟨⟨#[]⟩,uhh,uh,up,uhq,uq,uhf,uf⟩ ⟨b1,b2,b3,b4,b5⟩ ⟨u1,u2,u3,u4,u5⟩ W
     have hlen:=comp_len (UV.l ⟨bs,bhh,bh,bp,bhq,bq,bhf,bf⟩) (UV.l ⟨⟨#[]⟩,uhh,uh,up,uhq,uq,uhf,uf⟩) 120 (by show bs.data.toList.length≤120;rw [← Lib.size_eq];exact b1) (by show bh.data.toList.length≤120;rw [← Lib.size_eq];exact b2) (by show bp.data.toList.length≤120;rw [← Lib.size_eq];exact b3) (by show bq.data.toList.length≤120;rw [← Lib.size_eq];exact b4) (by show uh.data.toList.length≤120;rw [← Lib.size_eq];exact u2) (by show up.data.toList.length≤120;rw [← Lib.size_eq];exact u3) (by show uq.data.toList.length≤120;rw [← Lib.size_eq];exact u4) (by show uf.data.toList.length≤120;rw [← Lib.size_eq];exact u5)
     have hfull:fullU (UV.l ⟨bs,bhh,bh,bp,bhq,bq,bhf,bf⟩) (UV.l ⟨⟨#[]⟩,uhh,uh,up,uhq,uq,uhf,uf⟩) = compU (UV.l ⟨bs,bhh,bh,bp,bhq,bq,bhf,bf⟩) (UV.l ⟨⟨#[]⟩,uhh,uh,up,uhq,uq,uhf,uf⟩):=rfl
     rw [hfull]
     generalize compU (UV.l ⟨bs,bhh,bh,bp,bhq,bq,bhf,bf⟩) (UV.l ⟨⟨#[]⟩,uhh,uh,up,uhq,uq,uhf,uf⟩) = Y at *
     obtain ⟨s1,hh1,h1,p1,hq1,q1,hf1,f1⟩:=Y
     obtain ⟨l1,l2,l3,l4,l5⟩:=hlen
     simp only at l1 l2 l3 l4 l5
     have hul:=undot_len p1
     have CDa:=fun W (hb:Below w.heap.size w W)=>udots_any (bar p1) W (hM.below hb) (by rw [bar_size];omega)
     cases hh1 with
     | true =>
      have hund:undU ⟨s1,true,h1,p1,hq1,q1,hf1,f1⟩ = UV.l ⟨bar s1,true,bar h1,bar (undotU p1),hq1,bar q1,hf1,bar f1⟩:=rfl
      rw [hund]
      exact (lead_CH bs bh bp bq bf uh up uq uf (bar s1) (bar h1) (bar p1) (bar q1) (bar f1) (bar (undotU p1)) bhh bhq bhf uhh uhq uhf hq1 hf1 hse _ _ w CB CU CC CDa (fun W=>ulike_any (bar s1) (bar h1) (bar (undotU p1)) (bar q1) (bar f1) true hq1 hf1 W) (fun W=>ucheck_any ⟨bar s1,true,bar h1,bar (undotU p1),hq1,bar q1,hf1,bar f1⟩ (by unfold maxLen;exact ⟨by rw [bar_size];omega,by rw [bar_size];omega,by rw [bar_size];omega,by rw [bar_size];omega,by rw [bar_size];omega⟩) W)).mono (fun e w' h=>upost_lead ⟨bar s1,true,bar h1,bar (undotU p1),hq1,bar q1,hf1,bar f1⟩ _ _ rfl rfl h)
     | false =>
      have CP:=fun W=>pre_one (bar p1) W
      rw [bar_l] at CP
      cases hps:preS p1 with
      | true =>
       rw [hps] at CP
       have hund:undU ⟨s1,false,h1,p1,hq1,q1,hf1,f1⟩ = UV.l ⟨bar s1,false,bar h1,bar (undotU p1),hq1,bar q1,hf1,bar f1⟩:=by unfold undU;rw [if_pos (by simp only [hps];rfl)];rfl
       rw [hund]
       exact (lead_CP bs bh bp bq bf uh up uq uf (bar s1) (bar h1) (bar p1) (bar q1) (bar f1) (bar (undotU p1)) bhh bhq bhf uhh uhq uhf hq1 hf1 hse _ _ w CB CU CC CP CDa (fun W=>ulike_any (bar s1) (bar h1) (bar (undotU p1)) (bar q1) (bar f1) false hq1 hf1 W) (fun W=>ucheck_any ⟨bar s1,false,bar h1,bar (undotU p1),hq1,bar q1,hf1,bar f1⟩ (by unfold maxLen;exact ⟨by rw [bar_size];omega,by rw [bar_size];omega,by rw [bar_size];omega,by rw [bar_size];omega,by rw [bar_size];omega⟩) W)).mono (fun e w' h=>upost_lead ⟨bar s1,false,bar h1,bar (undotU p1),hq1,bar q1,hf1,bar f1⟩ _ _ rfl rfl h)
      | false =>
       rw [hps] at CP
       have hund:undU ⟨s1,false,h1,p1,hq1,q1,hf1,f1⟩ = UV.l ⟨bar s1,false,bar h1,bar p1,hq1,bar q1,hf1,bar f1⟩:=by unfold undU;rw [if_neg (by simp only [hps];simp)];rfl
       rw [hund]
       exact (lead_CN bs bh bp bq bf uh up uq uf (bar s1) (bar h1) (bar p1) (bar q1) (bar f1) bhh bhq bhf uhh uhq uhf hq1 hf1 hse _ _ w CB CU CC CP (fun W=>ulike_any (bar s1) (bar h1) (bar p1) (bar q1) (bar f1) false hq1 hf1 W) (fun W=>ucheck_any ⟨bar s1,false,bar h1,bar p1,hq1,bar q1,hf1,bar f1⟩ (by unfold maxLen;exact ⟨by rw [bar_size];omega,by rw [bar_size];omega,by rw [bar_size];omega,by rw [bar_size];omega,by rw [bar_size];omega⟩) W)).mono (fun e w' h=>upost_lead ⟨bar s1,false,bar h1,bar p1,hq1,bar q1,hf1,bar f1⟩ _ _ rfl rfl h)
    ·have hfull:fullU (UV.l ⟨bs,bhh,bh,bp,bhq,bq,bhf,bf⟩) (UV.l ⟨us,uhh,uh,up,uhq,uq,uhf,uf⟩) = UV.l ⟨us,uhh,uh,up,uhq,uq,uhf,uf⟩:=by
      unfold fullU
      rw [if_neg]
      show ¬ us.data.toList.isEmpty = true
      rw [isE_no us hue];simp
     rw [hfull]
     have hul:=undot_len up.data.toList
     have hupl:=Lib.size_eq up
     have CDa:=fun W (hb:Below w.heap.size w W)=>udots_any up W (hM.below hb) (by omega)
     cases uhh with
     | true =>
      have hund:undU (UV.l ⟨us,true,uh,up,uhq,uq,uhf,uf⟩) = UV.l ⟨us,true,uh,bar (undotU up.data.toList),uhq,uq,uhf,uf⟩:=rfl
      rw [hund]
      exact (lead_KH bs bh bp bq bf us uh up uq uf (bar (undotU up.data.toList)) bhh bhq bhf uhq uhf hse hue _ _ w CB CU CDa (fun W=>ulike_any us uh (bar (undotU up.data.toList)) uq uf true uhq uhf W) (fun W=>ucheck_any ⟨us,true,uh,bar (undotU up.data.toList),uhq,uq,uhf,uf⟩ (by unfold maxLen;exact ⟨by simp only;omega,by simp only;omega,by rw [bar_size];omega,by simp only;omega,by simp only;omega⟩) W)).mono (fun e w' h=>upost_lead ⟨us,true,uh,bar (undotU up.data.toList),uhq,uq,uhf,uf⟩ _ _ rfl rfl h)
     | false =>
      have CP:=fun W=>pre_one up W
      cases hps:preS up.data.toList with
      | true =>
       rw [hps] at CP
       have hund:undU (UV.l ⟨us,false,uh,up,uhq,uq,uhf,uf⟩) = UV.l ⟨us,false,uh,bar (undotU up.data.toList),uhq,uq,uhf,uf⟩:=by
        unfold undU
        rw [if_pos (by show (false || preS up.data.toList) = true;rw [hps];rfl)]
        rfl
       rw [hund]
       exact (lead_KP bs bh bp bq bf us uh up uq uf (bar (undotU up.data.toList)) bhh bhq bhf uhq uhf hse hue _ _ w CB CU CP CDa (fun W=>ulike_any us uh (bar (undotU up.data.toList)) uq uf false uhq uhf W) (fun W=>ucheck_any ⟨us,false,uh,bar (undotU up.data.toList),uhq,uq,uhf,uf⟩ (by unfold maxLen;exact ⟨by simp only;omega,by simp only;omega,by rw [bar_size];omega,by simp only;omega,by simp only;omega⟩) W)).mono (fun e w' h=>upost_lead ⟨us,false,uh,bar (undotU up.data.toList),uhq,uq,uhf,uf⟩ _ _ rfl rfl h)
      | false =>
       rw [hps] at CP
       have hund:undU (UV.l ⟨us,false,uh,up,uhq,uq,uhf,uf⟩) = UV.l ⟨us,false,uh,up,uhq,uq,uhf,uf⟩:=by
        unfold undU
        rw [if_neg (by show ¬ (false || preS up.data.toList) = true;rw [hps];simp)]
       rw [hund]
       exact (lead_KN bs bh bp bq bf us uh up uq uf bhh bhq bhf uhq uhf hse hue _ _ w CB CU CP (fun W=>ulike_any us uh up uq uf false uhq uhf W) (fun W=>ucheck_any ⟨us,false,uh,up,uhq,uq,uhf,uf⟩ hu W)).mono (fun e w' h=>upost_lead ⟨us,false,uh,up,uhq,uq,uhf,uf⟩ _ _ rfl rfl h)
  ·rw [if_neg (by simpa using hcb),if_pos hcu]
   rw [hcb] at CB
   refine (lead_u bs bh bp bq bf us uh up uq uf bhh bhq bhf uhh uhq uhf _ hcu w CB CU).mono ?_
   rintro e w' ⟨rfl,hb⟩
   exact ⟨rfl,hb⟩
 ·rw [if_pos hcb]
  refine (lead_b bs bh bp bq bf us uh up uq uf bhh bhq bhf uhh uhq uhf _ hcb w CB).mono ?_
  rintro e w' ⟨rfl,hb⟩
  exact ⟨rfl,hb⟩
end Go.Proofs.YtbbfcbodhmeanaaGreatDoor



namespace Go.Proofs.YtbbfcbodhmeanaaGreatDoor
open Go.RowKit
theorem checkedU_short (u:UL):(ofL (checkedU u).1).short maxLen:=by
 unfold checkedU
 split
 ·rename_i h
  exact (checkU_short (u:=ofL u) (by rw [ofL_l];exact h)).mono (by decide)
 ·show (ofL noUL).short maxLen;unfold UV.short;decide
theorem parseU_short (s:List UInt8):(ofL (parseU s).1).short maxLen:=by
 have h0:(ofL noUL).short maxLen:=by unfold UV.short;decide
 unfold parseU
 split
 ·exact h0
 ·unfold parseA
  split
  ·exact checkedU_short _
  ·split
   ·exact h0
   ·exact checkedU_short _
theorem leadU_short (b u:UL):(ofL (leadU b u).1).short maxLen:=by
 have h0:(ofL noUL).short maxLen:=by unfold UV.short;decide
 unfold leadU
 split
 ·exact h0
 ·split
  ·exact h0
  ·split
   ·exact h0
   ·unfold endU
    split
    ·exact h0
    ·exact checkedU_short _
theorem bled_any (a b:ByteArray) (ha:a.size≤maxLen) (hb:b.size≤maxLen) (w:World) (hM:MaxAt w) :
  Calls Tryz.prog 12 #[.string a,.string b] w fun e w'=>e = .returned (.string (bar (ledU a.data.toList b.data.toList)))∧Below w.heap.size w w':=by
 have CP:=fun W=>uparse_any a ha W
 have CQ:=fun W=>uparse_any b hb W
 have hs1:=parseU_short a.data.toList
 have hs2:=parseU_short b.data.toList
 have CL:=fun W (hW:Below w.heap.size w W)=>ulead_any (ofL (parseU a.data.toList).1) (ofL (parseU b.data.toList).1) hs1 hs2 W (hM.below hW)
 have CR:=fun W=>uprint_any (ofL (leadU (parseU a.data.toList).1 (parseU b.data.toList).1).1) (leadU_short _ _) W
 rw [ofL_l] at CR
 simp only [ofL_l] at CL
 unfold ledU
 generalize parseU a.data.toList = P at *
 generalize parseU b.data.toList = Q at *
 generalize leadU P.1 Q.1 = L at *
 generalize printU L.1 = T at *
 refine (bled_walk w a b _ _ _ _ _ _ _ _ _ _ _ _ _ _ _ ⟨T.1.toArray⟩ _ _ _ _ _ _ _ _ _ P.2 Q.2 L.2 T.2 CP CQ CL CR).mono ?_
 rintro e w' ⟨rfl,hb'⟩
 refine ⟨?_,hb'⟩
 congr 2
 by_cases h1:P.2 ≠ 0
 ·rw [if_pos h1,if_pos h1];rfl
 ·rw [if_neg h1,if_neg h1]
  by_cases h2:Q.2 ≠ 0
  ·rw [if_pos h2,if_pos h2];rfl
  ·rw [if_neg h2,if_neg h2]
   by_cases h3:L.2 ≠ 0
   ·rw [if_pos h3,if_pos h3];rfl
   ·rw [if_neg h3,if_neg h3];rfl
end Go.Proofs.YtbbfcbodhmeanaaGreatDoor



namespace Go.Proofs.YtbbfcbodhmeanaaGreatDoor
open Go.RowKit
def tx8 (l:List UInt8):ByteArray:=⟨l.toArray⟩
theorem tx8_data (l:List UInt8):(tx8 l).data.toList = l:=rfl
theorem tx8_size (l:List UInt8):(tx8 l).size = l.length:=by show l.toArray.size = _;simp
structure SAt (w:World) (g:Nat) (q:Option Addr) (c:Nat) (L:List PT) (wh:List (List UInt8)):Prop where
 blk:∃ cs,w.heap[g]? = some (.cells cs 77)∧cs[0]? = some (.slice q L.length c)∧∀ i,i < 12→cs[1 + i]? = some (.string (tx8 (wh.getD i [])))
 few:L.length≤12
 cap:L.length≤c∧c≤maxLen
 kids:KAt w 1 q L
 short:∀ x ∈ wh,x.length≤120
theorem SAt.slice {w:World} {g:Nat} {q:Option Addr} {c:Nat} {L:List PT} {wh:List (List UInt8)} (h:SAt w g q c L wh):w.cell? ⟨g,0,none⟩ = some (.slice q L.length c):=by
 obtain ⟨cs,h1,h2,-⟩:=h.blk
 rw [blk_c h1,h2]
theorem SAt.text {w:World} {g:Nat} {q:Option Addr} {c:Nat} {L:List PT} {wh:List (List UInt8)} (h:SAt w g q c L wh) (i:Nat) (hi:i < 12):w.cell? ⟨g,1 + i,none⟩ = some (.string (tx8 (wh.getD i []))):=by
 obtain ⟨cs,h1,-,h3⟩:=h.blk
 rw [blk_c h1,h3 i hi]
theorem SAt.lt {w:World} {g:Nat} {q:Option Addr} {c:Nat} {L:List PT} {wh:List (List UInt8)} (h:SAt w g q c L wh):g < w.heap.size:=by
 obtain ⟨cs,h1,-⟩:=h.blk
 exact (Array.getElem?_eq_some_iff.1 h1).1
theorem SAt.below {w w':World} {g:Nat} {q:Option Addr} {c:Nat} {L:List PT} {wh:List (List UInt8)} (h:SAt w g q c L wh) (hb:Below w.heap.size w w'):SAt w' g q c L wh:=by
 obtain ⟨cs,h1,h2,h3⟩:=h.blk
 exact ⟨⟨cs,blk_on h1 hb,h2,h3⟩,h.few,h.cap,KAt.below hb _ _ _ h.kids,h.short⟩
theorem wh_short {wh:List (List UInt8)} (h:∀ x ∈ wh,x.length≤120) (i:Nat):(wh.getD i []).length≤120:=by
 rw [List.getD_eq_getElem?_getD]
 cases hx:wh[i]? with
 | none=>simp
 | some y=>simpa using h y (List.mem_of_getElem? hx)
theorem tx8_empty (l:List UInt8):(tx8 l).toList.isEmpty = l.isEmpty:=by rw [ByteArray.toList_eq,tx8_data]
set_option maxHeartbeats 2000000 in
theorem from_any (i:Int) (hi:i < 12) (w:World) (g:Nat) (q:Option Addr) (c:Nat) (L:List PT) (wh:List (List UInt8)) (h:SAt w g q c L wh) :
  Calls Tryz.prog 41 #[.pointer (some ⟨g,0,none⟩),.int .i64 i] w fun e w'=>e = .returned (.string (tx8 (fromW wh i)))∧w' = w:=by
 by_cases h0:i < 0
 ·have HN:Hid (fromW wh i = nowS):=by unfold Hid fromW;rw [if_pos h0]
  clear h
  go_enter Tryz.func41,Tryz.ntmps41
  go_wp2
  go_ret
  exact ⟨by rw [HN.out];rfl,rfl⟩
 ·obtain ⟨k,rfl⟩:∃ k:Nat,i = (k:Int):=⟨i.toNat,by omega⟩
  have hk:k < 12:=by omega
  have hc:=h.text k hk
  clear h
  have HE:=tx8_empty (wh.getD k [])
  by_cases he:wh.getD k [] = []
  ·have HN:Hid (fromW wh k = nowS):=by unfold Hid fromW;rw [if_neg h0,if_pos (by simpa using he)]
   rw [he] at hc HE
   have hE:(tx8 []).toList.isEmpty = true:=HE
   clear HE he
   go_enter Tryz.func41,Tryz.ntmps41
   go_wp2
   go_ret
   exact ⟨by rw [HN.out];rfl,rfl⟩
  ·have HN:Hid (fromW wh k = wh.getD k []):=by unfold Hid fromW;rw [if_neg h0,if_neg (by simpa using he)];simp
   have hE:(tx8 (wh.getD k [])).toList.isEmpty = false:=by rw [HE];simpa using he
   clear HE he
   generalize wh.getD k [] = t at *
   go_enter Tryz.func41,Tryz.ntmps41
   go_wp2
   go_ret
   exact ⟨by rw [HN.out];rfl,rfl⟩
theorem SAt.part {w:World} {g:Nat} {q:Option Addr} {c:Nat} {L:List PT} {wh:List (List UInt8)} (h:SAt w g q c L wh) (k:Nat) (hk:k < L.length) :
  ∃ b o,q = some ⟨b,o,none⟩∧b < w.heap.size∧∃ pb cb pk ck,PCells w b (o + k * 7) (L.getD k pt0) pb cb pk ck∧PHeld w 0 (L.getD k pt0) pb cb pk ck:=by
 obtain ⟨b,o,e,hp⟩:=KAt.each h.kids (fun e=>by rw [e] at hk;simp at hk)
 exact ⟨b,o,e,(hp k hk).lt,hp k hk⟩
set_option maxHeartbeats 2000000 in
theorem ok1_any (k:Nat) (w:World) (g:Nat) (q:Option Addr) (c:Nat) (L:List PT) (wh:List (List UInt8)) (hk:k < L.length) (h:SAt w g q c L wh) (s0 i0:Nat) (t:List UInt8) (h1:w.cell? ⟨s0,0,none⟩ = some (.pointer (some ⟨g,0,none⟩))) (h2:w.cell? ⟨i0,0,none⟩ = some (.string (tx8 t))) :
  Calls Tryz.prog 83 #[.int .i64 (k:Int),.pointer (some ⟨s0,0,none⟩),.pointer (some ⟨i0,0,none⟩)] w fun e w'=>e = .returned (.bool (okID t k (L.getD k pt0)))∧∃ m,w' = w.drewN m:=by
 obtain ⟨b,o,rfl,-,pb,cb,pk,ck,⟨-,-,c2,-⟩,-⟩:=h.part k hk
 have hs:=h.slice
 have hc1:=h.cap.1
 have hc2:=h.cap.2
 have h12:=h.few
 clear h
 obtain ⟨n,hn⟩:∃ n,L.length = n:=⟨_,rfl⟩
 rw [hn] at hk hs hc1 h12
 clear hn
 have HO:Hid (okID t k (L.getD k pt0) = (!(L.getD k pt0).id.toList.isEmpty && ((L.getD k pt0).id.toList == (tx8 t).toList))):=by
  unfold Hid okID
  rw [ByteArray.toList_eq,ByteArray.toList_eq,tx8_data]
 generalize (L.getD k pt0).id = I at *
 generalize okID t k (L.getD k pt0) = R at *
 have hkz:(k:Int) < (n:Int):=by omega
 by_cases he:I.toList.isEmpty = true
 ·have HR:Hid (R = false):=by unfold Hid;rw [HO.out,he];rfl
  clear HO
  go_enter Tryz.func83,Tryz.ntmps83
  go_wp2_with fail
  go_quiet (fail)
  go_wp2_with fail
  go_ret
  exact ⟨by rw [HR.out];rfl,_,rfl⟩
 ·have he:I.toList.isEmpty = false:=by simpa using he
  have HR:Hid (R = (I.toList == (tx8 t).toList)):=by unfold Hid;rw [HO.out,he];rfl
  clear HO
  go_enter Tryz.func83,Tryz.ntmps83
  go_wp2_with fail
  go_quiet (fail)
  go_wp2_with fail
  go_ret
  exact ⟨by rw [HR.out];rfl,_,rfl⟩
end Go.Proofs.YtbbfcbodhmeanaaGreatDoor



namespace Go.Proofs.YtbbfcbodhmeanaaGreatDoor
open Go.RowKit
set_option maxHeartbeats 4000000 in
theorem ok2_any (k:Nat) (w:World) (g:Nat) (q:Option Addr) (c:Nat) (L:List PT) (wh:List (List UInt8)) (hk:k < L.length) (h:SAt w g q c L wh) (s0 i0:Nat) (t:List UInt8) (h1:w.cell? ⟨s0,0,none⟩ = some (.pointer (some ⟨g,0,none⟩))) (h2:w.cell? ⟨i0,0,none⟩ = some (.string (tx8 t))) :
  Calls Tryz.prog 84 #[.int .i64 (k:Int),.pointer (some ⟨s0,0,none⟩),.pointer (some ⟨i0,0,none⟩)] w fun e w'=>e = .returned (.bool (okLoc wh t k (L.getD k pt0)))∧Below w.heap.size w w':=by
 obtain ⟨b,o,rfl,hbl,pb,cb,pk,ck,⟨-,-,-,c3,-⟩,-⟩:=h.part k hk
 have hgl:=h.lt
 have hs:=h.slice
 have hc1:=h.cap.1
 have hc2:=h.cap.2
 have h12:=h.few
 have ht:=h.text k (by omega)
 have hsh:(wh.getD k []).length≤120:=wh_short h.short k
 clear h
 obtain ⟨n,hn⟩:∃ n,L.length = n:=⟨_,rfl⟩
 rw [hn] at hk hs hc1 h12
 clear hn
 have HO:Hid (okLoc wh t k (L.getD k pt0) = (!(L.getD k pt0).loc.toList.isEmpty && ((tx8 (noFr (wh.getD k []))).toList == (tx8 t).toList))):=by
  unfold Hid okLoc
  rw [ByteArray.toList_eq,ByteArray.toList_eq,ByteArray.toList_eq,tx8_data,tx8_data]
 have CF:Hid (∀ W,Calls Tryz.prog 80 #[.string (tx8 (wh.getD k []))] W fun e w'=>e = .returned (.string (tx8 (noFr (wh.getD k []))))∧Below W.heap.size W w'):=fun W=>bfrag_any _ (by rw [tx8_size];unfold maxLen;omega) W
 generalize (L.getD k pt0).loc = I at *
 generalize okLoc wh t k (L.getD k pt0) = R at *
 generalize noFr (wh.getD k []) = NF at *
 generalize wh.getD k [] = wk at *
 have hkz:(k:Int) < (n:Int):=by omega
 have hk12:(k:Int) < 12:=by omega
 have hk0:(0:Int)≤(k:Int):=by omega
 by_cases he:I.toList.isEmpty = true
 ·have HR:Hid (R = false):=by unfold Hid;rw [HO.out,he];rfl
  clear HO CF
  go_enter Tryz.func84,Tryz.ntmps84
  go_wp2_with fail
  go_quiet (fail)
  go_wp2_with fail
  go_ret
  exact ⟨by rw [HR.out];rfl,below_drewN' (Below.refl _ _) _⟩
 ·have he:I.toList.isEmpty = false:=by simpa using he
  have HR:Hid (R = ((tx8 NF).toList == (tx8 t).toList)):=by unfold Hid;rw [HO.out,he];rfl
  clear HO
  have k1:∀ w',Below w.heap.size w w'→w'.cell? ⟨s0,0,none⟩ = some (.pointer (some ⟨g,0,none⟩)):=fun w' hb=>(hb.cell (p:=⟨s0,0,none⟩) (World.block_lt_of_cell? w _ h1)).trans h1
  have k2:∀ w',Below w.heap.size w w'→w'.cell? ⟨i0,0,none⟩ = some (.string (tx8 t)):=fun w' hb=>(hb.cell (p:=⟨i0,0,none⟩) (World.block_lt_of_cell? w _ h2)).trans h2
  have k3:∀ w',Below w.heap.size w w'→w'.cell? ⟨g,0,none⟩ = some (.slice (some ⟨b,o,none⟩) n c):=fun w' hb=>(hb.cell (p:=⟨g,0,none⟩) hgl).trans hs
  have k4:∀ w',Below w.heap.size w w'→w'.cell? ⟨g,1 + k,none⟩ = some (.string (tx8 wk)):=fun w' hb=>(hb.cell (p:=⟨g,1 + k,none⟩) hgl).trans ht
  have k5:∀ w',Below w.heap.size w w'→w'.cell? ⟨b,o + k * 7 + 3,none⟩ = some (.string I):=fun w' hb=>(hb.cell (p:=⟨b,o + k * 7 + 3,none⟩) hbl).trans c3
  clear h1 h2 hs ht c3
  have hb0:Below w.heap.size w w:=Below.refl _ _
  go_enter Tryz.func84,Tryz.ntmps84
  go_wp2_with fail
  go_region_held3 (fun w'=>Below w.heap.size w w') (first | assumption | exact hb0.drew) (first
   | (go_at_call 80;refine (CF.out _).mono ?_;rintro e w1 ⟨rfl,hb1⟩;have hbe1:Below w.heap.size w w1:=(hb0.drew).trans (hb1.mono (Nat.le_refl _));clear hb1))
  go_wp2_with fail
  go_ret
  exact ⟨by rw [HR.out];rfl,hbe1⟩
theorem firstP_skip (ok:Nat→PT→Bool) (L:List PT) (k:Nat) (hk:k < L.length) (h:¬ (manyS (L.getD k pt0).ty.data.toList = false∧ok k (L.getD k pt0) = true)):firstP ok k (L.drop k) = firstP ok (k + 1) (L.drop (k + 1)):=by
 have e:L.getD k pt0 = L[k]:=by rw [List.getD_eq_getElem?_getD,List.getElem?_eq_getElem hk];rfl
 rw [e] at h
 rw [List.drop_eq_getElem_cons hk,firstP,if_neg h]
theorem firstP_hit (ok:Nat→PT→Bool) (L:List PT) (k:Nat) (hk:k < L.length) (h:manyS (L.getD k pt0).ty.data.toList = false∧ok k (L.getD k pt0) = true):firstP ok k (L.drop k) = k:=by
 have e:L.getD k pt0 = L[k]:=by rw [List.getD_eq_getElem?_getD,List.getElem?_eq_getElem hk];rfl
 rw [e] at h
 rw [List.drop_eq_getElem_cons hk,firstP,if_pos h]
set_option maxHeartbeats 4000000 in
set_option maxRecDepth 100000 in
theorem first_any (F:Nat) (caps:Array Value) (ok:Nat→PT→Bool) (w:World) (g:Nat) (q:Option Addr) (c:Nat) (L:List PT) (wh:List (List UInt8)) (h:SAt w g q c L wh)
  (hcall:∀ (args:Array Value) (W:World),Sem.run Tryz.prog (callFunc F args) W = .ok (.enter F args) W)
  (hask:∀ (k:Nat) (W:World),k < L.length→Below w.heap.size w W→Calls Tryz.prog F (#[.int .i64 (k:Int)] ++ caps) W fun e w'=>e = .returned (.bool (ok k (L.getD k pt0)))∧Below W.heap.size W w') :
  Calls Tryz.prog 82 #[.pointer (some ⟨g,0,none⟩),.func (Fn.func F) #[] caps] w fun e w'=>e = .returned (.int .i64 (firstP ok 0 L))∧Below w.heap.size w w':=by
 have HS:Hid (SAt w g q c L wh):=h
 have HA:Hid (∀ (k:Nat) (W:World),k < L.length→Below w.heap.size w W→Calls Tryz.prog F (#[.int .i64 (k:Int)] ++ caps) W fun e w'=>e = .returned (.bool (ok k (L.getD k pt0)))∧Below W.heap.size W w'):=hask
 have hs:=h.slice
 have hc1:=h.cap.1
 have hc2:=h.cap.2
 have h12:=h.few
 clear h hask
 obtain ⟨n,hn⟩:∃ n,L.length = n:=⟨_,rfl⟩
 have HN:Hid (L.length = n):=hn
 rw [hn] at hs hc1 h12
 clear hn
 obtain ⟨R,hR⟩:∃ R,firstP ok 0 L = R:=⟨_,rfl⟩
 have HR:Hid (firstP ok 0 L = R):=hR
 rw [hR]
 clear hR
 go_enter Tryz.func82,Tryz.ntmps82
 go_wp2_with fail
 go_loopw [12] (fun iv wr=>∃ k:Nat,k≤n∧iv = .int .i64 k∧Below w.heap.size w wr∧Hid (firstP ok k (L.drop k) = R)) (fun iv _=>n - (intOf iv).toNat)
 case atStart=>exact ⟨0,Nat.zero_le _,rfl,Below.refl _ _,HR⟩
 case round =>
  obtain ⟨k,hk,rfl,hbr,HK⟩:=hrel
  clear HR
  by_cases hlt:k < n
  ·have hlz:(k:Int) < (n:Int):=by omega
   obtain ⟨b,o,rfl,hbl,pb,cb,pk,ck,⟨c0,c1,c2,c3,c4,c5,c6⟩,hH⟩:=(HS.out.below hbr).part k (by rw [HN.out];exact hlt)
   have CM:Hid (∀ W,Calls Tryz.prog 18 #[.string (L.getD k pt0).ty] W fun e w'=>e = .returned (.bool (manyS (L.getD k pt0).ty.data.toList))∧w' = W):=fun W=>pmany_any _ W
   have HCA:Hid (∀ (W:World),Below w.heap.size w W→Calls Tryz.prog F (#[.int .i64 (k:Int)] ++ caps) W fun e w'=>e = .returned (.bool (ok k (L.getD k pt0)))∧Below W.heap.size W w'):=fun W hW=>HA.out k W (by rw [HN.out];exact hlt) hW
   have HSk:Hid (¬ (manyS (L.getD k pt0).ty.data.toList = false∧ok k (L.getD k pt0) = true)→firstP ok (k + 1) (L.drop (k + 1)) = R):=fun hn=>by rw [← firstP_skip ok L k (by rw [HN.out];exact hlt) hn];exact HK.out
   have HHit:Hid (manyS (L.getD k pt0).ty.data.toList = false∧ok k (L.getD k pt0) = true→R = k):=fun hn=>by rw [← HK.out];exact firstP_hit ok L k (by rw [HN.out];exact hlt) hn
   clear hH HK
   have hsz:=hbr.size
   generalize ok k (L.getD k pt0) = OK at *
   generalize manyS (L.getD k pt0).ty.data.toList = MA at *
   generalize (L.getD k pt0).body.length = nb at *
   generalize (L.getD k pt0).kids.length = nk at *
   generalize (L.getD k pt0).how = hw at *
   generalize (L.getD k pt0).ty = ty at *
   cases MA with
   | true =>
    have HX:Hid (firstP ok (k + 1) (L.drop (k + 1)) = R):=HSk.out (by simp)
    clear HSk HHit
    go_wp2_with fail
    refine (CM.out _).mono ?_
    rintro e w1 ⟨rfl,rfl⟩
    clear CM
    go_wp2_with fail
    go_roundw
    case rel=>exact ⟨k + 1,by omega,by go_num,hbr.alloc hsz _,HX⟩
    case measure=>simp [intOf];omega
   | false =>
    go_wp2_with fail
    refine (CM.out _).mono ?_
    rintro e w1 ⟨rfl,rfl⟩
    clear CM
    go_wp2_with fail
    refine (HCA.out _ (hbr.alloc hsz _)).mono ?_
    rintro e w2 ⟨rfl,hb2⟩
    have hbe2:Below w.heap.size w w2:=(hbr.alloc hsz _).trans (hb2.mono (by simp;omega))
    clear HCA hb2
    cases OK with
    | true =>
     have HX:Hid (R = k):=HHit.out (by simp)
     clear HSk HHit
     go_wp2_with fail
     go_ret
     exact ⟨by rw [HX.out];rfl,hbe2⟩
    | false =>
     have HX:Hid (firstP ok (k + 1) (L.drop (k + 1)) = R):=HSk.out (by simp)
     clear HSk HHit
     go_wp2_with fail
     go_roundw
     case rel=>exact ⟨k + 1,by omega,by go_num,hbe2,HX⟩
     case measure=>simp [intOf];omega
  ·have hlz:¬ (k:Int) < (n:Int):=by omega
   have HX:Hid (R = -1):=by
    unfold Hid
    rw [← HK.out,List.drop_of_length_le (by rw [HN.out];omega),firstP]
   clear HK
   go_wp2_with fail
   go_ret
   exact ⟨by rw [HX.out];rfl,hbr⟩
end Go.Proofs.YtbbfcbodhmeanaaGreatDoor

