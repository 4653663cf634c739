
import Derived.Test.YtbbfcbodhmeanaaGreatDoorXrewritesays13
namespace Go.Proofs.YtbbfcbodhmeanaaGreatDoor
open Go.RowKit
abbrev noB:Nat→Prop:=fun _=>False
def WholePost (f:Nat) (p:PT) (w:World) (e:Ending) (w':World):Prop :=
 ∃ (pb:Option Addr) (cb:Nat) (pk:Option Addr) (ck:Nat),e = .returned (.agg #[.string p.ty,.string p.cs,.string p.id,.string p.loc,.int .i64 p.how,.slice pb p.body.length cb,.slice pk p.kids.length ck])∧Below w.heap.size w w'∧InB (BK noB w.heap.size w'.heap.size pk p.kids) pb∧PHeldK (fun a l=>RT w' noB f w.heap.size w'.heap.size a ck l) w' p pb cb pk ck
structure WhAt (f:Nat) (w:World) (A r B V0 n cc:Nat) (PAC:Array Value) (q2:Option Addr) (body:List UInt8) (qv:Option Addr) (Zo:List PZ) (Y:List PY3) (W:World):Prop where
 bel:Below A w W
 kA:W.heap[A]? = some (.cells PAC 25)
 kR:W.heap[r]? = some (.cells #[.string ⟨#[]⟩,.string ⟨#[]⟩,.string ⟨#[]⟩,.string ⟨#[]⟩,.int .i64 0,.slice none 0 0,.slice none 0 0] 25)
 row:BRow W q2 body
 own:W.ownsRow B 25 7 (.slice qv n cc) n (pzv (Y.map (·.1) ++ Zo.drop Y.length))
 pw:Y.Pairwise (fun x y=>x.2.2≤y.2.1)
 each:∀ y ∈ Y,V0≤y.2.1∧y.2.1≤y.2.2∧y.2.2≤W.heap.size∧InB (BK noB y.2.1 y.2.2 y.1.2.2.1 y.1.1.kids) y.1.2.1.1∧PHeldK (fun a l=>RT W noB f y.2.1 y.2.2 a y.1.2.2.2 l) W y.1.1 y.1.2.1.1 y.1.2.1.2 y.1.2.2.1 y.1.2.2.2
theorem held_move {w w':World} {f:Nat} {y:PY3} (hm:∀ b,y.2.1≤b∧b < y.2.2→b < w.heap.size→w'.heap[b]? = w.heap[b]?) (hi:InB (BK noB y.2.1 y.2.2 y.1.2.2.1 y.1.1.kids) y.1.2.1.1) (h:PHeldK (fun a l=>RT w noB f y.2.1 y.2.2 a y.1.2.2.2 l) w y.1.1 y.1.2.1.1 y.1.2.1.2 y.1.2.2.1 y.1.2.2.2):PHeldK (fun a l=>RT w' noB f y.2.1 y.2.2 a y.1.2.2.2 l) w' y.1.1 y.1.2.1.1 y.1.2.1.2 y.1.2.2.1 y.1.2.2.2:=by
 have hs:∀ b,(y.2.1≤b∧b < y.2.2) ∨ noB b→b < w.heap.size→w'.heap[b]? = w.heap[b]?:=fun b hb hl=>hm b (by rcases hb with hb | hb;exact hb;exact hb.elim) hl
 obtain ⟨p1,p2,p3,p4,p5⟩:=h
 exact ⟨p1,p2,BRow.move hs p3 (fun a ha=>(hi a ha).out),p4,RT.move f _ _ _ _ _ hs p5⟩
theorem WhAt.below {f:Nat} {w:World} {A r B V0 n cc:Nat} {PAC:Array Value} {q2:Option Addr} {body:List UInt8} {qv:Option Addr} {Zo:List PZ} {Y:List PY3} {W W':World} (m:WhAt f w A r B V0 n cc PAC q2 body qv Zo Y W) (hA:A≤W.heap.size) (hb:Below W.heap.size W W'):WhAt f w A r B V0 n cc PAC q2 body qv Zo Y W' :=
 ⟨m.bel.trans (hb.mono hA),blk_on m.kA hb,blk_on m.kR hb,m.row.under hb,ownsRow_below m.own hb,m.pw,fun y hy=>by
  obtain ⟨h1,h2,h3,h4,h5⟩:=m.each y hy
  exact ⟨h1,h2,Nat.le_trans h3 hb.size,h4,held_move (fun b _ hl=>hb.block b hl) h4 h5⟩⟩
abbrev put7 (W:World) (r:Nat) (v0 v1 v2 v3 v4 v5 v6:Value):World:=((((((W.setCell ⟨r,0,none⟩ v0).setCell ⟨r,1,none⟩ v1).setCell ⟨r,2,none⟩ v2).setCell ⟨r,3,none⟩ v3).setCell ⟨r,4,none⟩ v4).setCell ⟨r,5,none⟩ v5).setCell ⟨r,6,none⟩ v6
theorem put7_block (W:World) (r:Nat) (v0 v1 v2 v3 v4 v5 v6:Value) (b:Nat) (hr:b ≠ r):(put7 W r v0 v1 v2 v3 v4 v5 v6).heap[b]? = W.heap[b]?:=by
 unfold put7
 rw [Below.heap_setCell _ _ _ _ hr,Below.heap_setCell _ _ _ _ hr,Below.heap_setCell _ _ _ _ hr,Below.heap_setCell _ _ _ _ hr,Below.heap_setCell _ _ _ _ hr,Below.heap_setCell _ _ _ _ hr,Below.heap_setCell _ _ _ _ hr]
theorem put7_size (W:World) (r:Nat) (v0 v1 v2 v3 v4 v5 v6:Value):(put7 W r v0 v1 v2 v3 v4 v5 v6).heap.size = W.heap.size:=by
 unfold put7
 simp [World.setCell]
theorem put7_below {w W:World} {B r:Nat} (h:Below B w W) (hr:B≤r) (v0 v1 v2 v3 v4 v5 v6:Value):Below B w (put7 W r v0 v1 v2 v3 v4 v5 v6) :=
 Below.setCell (p:=⟨r,6,none⟩) (Below.setCell (p:=⟨r,5,none⟩) (Below.setCell (p:=⟨r,4,none⟩) (Below.setCell (p:=⟨r,3,none⟩) (Below.setCell (p:=⟨r,2,none⟩) (Below.setCell (p:=⟨r,1,none⟩) (Below.setCell (p:=⟨r,0,none⟩) h hr _) hr _) hr _) hr _) hr _) hr _) hr _
theorem put7_owns {W:World} {B e s n r:Nat} {v:Value} {xs:List Value} (h:W.ownsRow B e s v n xs) (hr:r < B) (v0 v1 v2 v3 v4 v5 v6:Value):(put7 W r v0 v1 v2 v3 v4 v5 v6).ownsRow B e s v n xs :=
 owns_set (owns_set (owns_set (owns_set (owns_set (owns_set (owns_set h ⟨r,0,none⟩ _ hr) ⟨r,1,none⟩ _ hr) ⟨r,2,none⟩ _ hr) ⟨r,3,none⟩ _ hr) ⟨r,4,none⟩ _ hr) ⟨r,5,none⟩ _ hr) ⟨r,6,none⟩ _ hr
theorem WhAt.step {f:Nat} {w:World} {A r B V0 n cc g k lo:Nat} {PAC:Array Value} {q2:Option Addr} {body:List UInt8} {Zo:List PZ} {Y:List PY3} {W:World} (m:WhAt f w A r B V0 n cc PAC q2 body (some ⟨g,0,none⟩) Zo Y W) (hAg:A < g) (hrg:r < g) (hq:∀ a,q2 = some a→a.block < g) (hgV:g < V0) (hV:V0≤lo) (hlo:lo≤W.heap.size) (hYk:Y.length = k) (hk:k < Zo.length) (hpre:∀ y ∈ Y,y.2.2≤lo)
  (z:PZ) (hi:InB (BK noB lo W.heap.size z.2.2.1 z.1.kids) z.2.1.1) (hz:PHeldK (fun a l=>RT W noB f lo W.heap.size a z.2.2.2 l) W z.1 z.2.1.1 z.2.1.2 z.2.2.1 z.2.2.2) :
  WhAt f w A r B V0 n cc PAC q2 body (some ⟨g,0,none⟩) Zo (Y ++ [(z,lo,W.heap.size)]) (W.setCells g (k * 7) [.string z.1.ty,.string z.1.cs,.string z.1.id,.string z.1.loc,.int .i64 z.1.how,.slice z.2.1.1 z.1.body.length z.2.1.2,.slice z.2.2.1 z.1.kids.length z.2.2.2]):=by
 have hbl:∀ b,b ≠ g→(W.setCells g (k * 7) [.string z.1.ty,.string z.1.cs,.string z.1.id,.string z.1.loc,.int .i64 z.1.how,.slice z.2.1.1 z.1.body.length z.2.1.2,.slice z.2.2.1 z.1.kids.length z.2.2.2]).heap[b]? = W.heap[b]?:=fun b hb=>setCells_block g _ _ _ b hb
 have hs:=setCells_size g [.string z.1.ty,.string z.1.cs,.string z.1.id,.string z.1.loc,.int .i64 z.1.how,.slice z.2.1.1 z.1.body.length z.2.1.2,.slice z.2.2.1 z.1.kids.length z.2.2.2] (k * 7) W
 refine ⟨setCells_below (W:=W) (by omega) _ _ _ m.bel,by rw [hbl A (by omega)];exact m.kA,by rw [hbl r (by omega)];exact m.kR,BRow.move (Q:=fun b=>b < g) (fun b hb _=>hbl b (by omega)) m.row (fun a ha=>hq a ha),?_,?_,fun y hy=>?_⟩
 ·have h:=m.own
  rw [hYk,List.drop_eq_getElem_cons hk] at h
  have h2:=owns_seven z h
  rw [List.length_map,hYk] at h2
  rw [List.map_append,List.length_append,hYk,List.append_assoc]
  exact h2
 ·rw [List.pairwise_append]
  refine ⟨m.pw,by simp,fun x hx y hy=>?_⟩
  obtain rfl:y = (z,lo,W.heap.size):=by simpa using hy
  exact hpre x hx
 ·rw [hs]
  rcases List.mem_append.1 hy with hy | hy
  ·obtain ⟨h1,h2,h3,h4,h5⟩:=m.each y hy
   exact ⟨h1,h2,h3,h4,held_move (fun b hb _=>hbl b (by omega)) h4 h5⟩
  ·obtain rfl:y = (z,lo,W.heap.size):=by simpa using hy
   exact ⟨hV,hlo,Nat.le_refl _,hi,held_move (y:=(z,lo,W.heap.size)) (fun b hb _=>hbl b (by have:lo≤b:=hb.1;omega)) hi hz⟩
set_option maxHeartbeats 8000000 in
set_option maxRecDepth 100000 in
theorem whole_any:∀ (f F:Nat) (p:PT) (pb:Option Addr) (cb:Nat) (pk:Option Addr) (ck:Nat) (w:World),lev f p = true→(∀ x ∈ flatP f p,x.kids.length≤1000∧x.body.length≤1000000)→PHeld w F p pb cb pk ck →
  Calls Tryz.prog 62 #[.agg #[.string p.ty,.string p.cs,.string p.id,.string p.loc,.int .i64 p.how,.slice pb p.body.length cb,.slice pk p.kids.length ck]] w fun e w'=>WholePost f p w e w':=by
 intro f
 induction f with
 | zero=>intro F p pb cb pk ck w hl;rw [lev] at hl;cases hl
 | succ f ih =>
  intro F p pb cb pk ck w hl hsz hH
  rw [lev_succ,List.all_eq_true] at hl
  obtain ⟨hk1000,hbm⟩:=hsz p (by rw [flatP_succ];simp)
  have IH:Hid (∀ (F:Nat) (k:PT) (pb:Option Addr) (cb:Nat) (pk:Option Addr) (ck:Nat) (w:World),k ∈ p.kids→PHeld w F k pb cb pk ck→Calls Tryz.prog 62 #[.agg #[.string k.ty,.string k.cs,.string k.id,.string k.loc,.int .i64 k.how,.slice pb k.body.length cb,.slice pk k.kids.length ck]] w fun e w'=>WholePost f k w e w'):=fun F k pb cb pk ck w hk h2=>ih F k pb cb pk ck w (hl k hk) (fun x hx=>hsz x (by rw [flatP_succ];exact List.mem_cons_of_mem _ (List.mem_flatMap.2 ⟨k,hk,hx⟩))) h2
  obtain ⟨W1,hW1⟩:∃ W,W = (w.alloc (.cells #[.string p.ty,.string p.cs,.string p.id,.string p.loc,.int .i64 p.how,.slice pb p.body.length cb,.slice pk p.kids.length ck] 25)).alloc (.cells #[.string ⟨#[]⟩,.string ⟨#[]⟩,.string ⟨#[]⟩,.string ⟨#[]⟩,.int .i64 0,.slice none 0 0,.slice none 0 0] 25):=⟨_,rfl⟩
  have hb1:Below w.heap.size w W1:=by rw [hW1];exact ((Below.refl _ _).alloc (Nat.le_refl _) _).alloc (by simp) _
  have kA1:W1.heap[w.heap.size]? = some (.cells #[.string p.ty,.string p.cs,.string p.id,.string p.loc,.int .i64 p.how,.slice pb p.body.length cb,.slice pk p.kids.length ck] 25):=by rw [hW1];exact blk_on (blk_new w _) ((Below.refl _ _).alloc (Nat.le_refl _) _)
  have kR1:W1.heap[w.heap.size + 1]? = some (.cells #[.string ⟨#[]⟩,.string ⟨#[]⟩,.string ⟨#[]⟩,.string ⟨#[]⟩,.int .i64 0,.slice none 0 0,.slice none 0 0] 25):=by
   rw [hW1]
   have:=blk_new (w.alloc (.cells #[.string p.ty,.string p.cs,.string p.id,.string p.loc,.int .i64 p.how,.slice pb p.body.length cb,.slice pk p.kids.length ck] 25)) (.cells #[.string ⟨#[]⟩,.string ⟨#[]⟩,.string ⟨#[]⟩,.string ⟨#[]⟩,.int .i64 0,.slice none 0 0,.slice none 0 0] 25)
   simpa using this
  have hs1:W1.heap.size = w.heap.size + 2:=by rw [hW1];simp
  have HW1:Hid (W1 = (w.alloc (.cells #[.string p.ty,.string p.cs,.string p.id,.string p.loc,.int .i64 p.how,.slice pb p.body.length cb,.slice pk p.kids.length ck] 25)).alloc (.cells #[.string ⟨#[]⟩,.string ⟨#[]⟩,.string ⟨#[]⟩,.string ⟨#[]⟩,.int .i64 0,.slice none 0 0,.slice none 0 0] 25)):=hW1
  clear hW1
  have HPL0:Hid (PLen p):=hH.1
  have HBR:Hid (BRow W1 pb p.body):=hH.2.2.1.under hb1
  have hKZ:∃ (F':Nat) (Zo:List PZ),Zo.map (·.1) = p.kids∧Cells w pk (pzv Zo)∧∀ z ∈ Zo,PHeld w F' z.1 z.2.1.1 z.2.1.2 z.2.2.1 z.2.2.2:=by
   have hk:KAt w F pk p.kids:=hH.2.2.2.2
   cases F with
   | zero =>
    have e:p.kids = []:=hk
    exact ⟨0,[],by rw [e];rfl,(fun h=>absurd rfl h),fun z hz=>by cases hz⟩
   | succ F' =>
    obtain ⟨Z,h1,h2,h3⟩:=hk.list
    exact ⟨F',Z,h1,h2,h3⟩
  obtain ⟨F',Zo,hZo,hZc,hZh⟩:=hKZ
  have HKN:Hid (pk = none→p.kids.length = 0∧ck = 0):=fun e=>by have h1:=hH.2.2.2.1.2.2 e;have h2:=hH.2.2.2.1.1;exact ⟨by omega,h1⟩
  have hZl:Zo.length = p.kids.length:=by rw [← hZo,List.length_map]
  obtain ⟨n,hn⟩:∃ n,p.kids.length = n:=⟨_,rfl⟩
  obtain ⟨nb,hnb⟩:∃ n,p.body.length = n:=⟨_,rfl⟩
  obtain ⟨A,hA⟩:∃ A,w.heap.size = A:=⟨_,rfl⟩
  obtain ⟨r,hr⟩:∃ r,A + 1 = r:=⟨_,rfl⟩
  have HN:Hid (p.kids.length = n):=hn
  have HNB:Hid (nb = p.body.length):=hnb.symm
  have HA:Hid (w.heap.size = A):=hA
  have HR:Hid (A + 1 = r):=hr
  rw [hA] at kA1 kR1 hs1 hb1
  rw [hr] at kR1
  have hArr:¬ r = A:=by omega
  have HS1:Hid (W1.heap.size = r + 1):=by unfold Hid;omega
  have HZO:Hid (Zo.map (·.1) = p.kids):=hZo
  have HZL:Hid (n = Zo.length):=by unfold Hid;rw [hZl,hn]
  have HZC:Hid (Cells w pk (pzv Zo)):=hZc
  have HZH:Hid (∀ z ∈ Zo,PHeld w F' z.1 z.2.1.1 z.2.1.2 z.2.2.1 z.2.2.2):=hZh
  have HPOST:Hid (∀ (pb:Option Addr) (cb:Nat) (pk:Option Addr) (ck:Nat) (w':World),Below A w w'→InB (BK noB A w'.heap.size pk p.kids) pb→PHeldK (fun a l=>RT w' noB (f + 1) A w'.heap.size a ck l) w' p pb cb pk ck→WholePost (f + 1) p w (.returned (.agg #[.string p.ty,.string p.cs,.string p.id,.string p.loc,.int .i64 p.how,.slice pb nb cb,.slice pk n ck])) w'):=by
   subst hn hnb hA
   exact fun pb cb pk ck w' h1 h2 h3=>⟨pb,cb,pk,ck,rfl,h1,h2,h3⟩
  rw [hn,hnb] at kA1 HW1
  rw [hn,hnb]
  rw [hn] at HKN hk1000
  rw [hnb] at hbm
  clear hn hnb ih hl hsz hH hZo hZl hZc hZh
  have CB:Hid (Calls Tryz.prog 74 #[.slice pb nb cb] W1 fun e w'=>∃ q c,e = .returned (.slice q nb c)∧w'.ownsRow W1.heap.size 5 1 (.slice q nb c) nb (bv p.body)∧Below W1.heap.size W1 w'):=bclone_any pb p.body nb cb HNB.out W1 HBR.out (by omega)
  go_enter Tryz.func62,Tryz.ntmps62
  go_upto_region 1 with fail
  rw [← HW1.out]
  clear HW1 hs1 hA hr HBR
  obtain ⟨z0,z1,z2,z3,z4,z5,z6,zf⟩:=o_cells kA1
  have HKA1:Hid (W1.heap[A]? = some (.cells #[.string p.ty,.string p.cs,.string p.id,.string p.loc,.int .i64 p.how,.slice pb nb cb,.slice pk n ck] 25)):=kA1
  have HKR1:Hid (W1.heap[r]? = some (.cells #[.string ⟨#[]⟩,.string ⟨#[]⟩,.string ⟨#[]⟩,.string ⟨#[]⟩,.int .i64 0,.slice none 0 0,.slice none 0 0] 25)):=kR1
  have HB1:Hid (Below A w W1):=hb1
  clear kA1 kR1 hb1
  go_wp2_with fail
  refine CB.out.mono ?_
  rintro e w2 ⟨q2,c2,rfl,own2,hb2⟩
  have hA1:A≤W1.heap.size:=by have:=HS1.out;have:=HR.out;omega
  have kA2:=blk_on HKA1.out hb2
  have own2':w2.ownsRow W1.heap.size 5 1 (.slice q2 nb c2) p.body.length (bv p.body):=by rw [← HNB.out];exact own2
  obtain ⟨q2',c2',e2,h2a,h2b,h2n,hrow⟩:=owned_row own2'
  injection e2 with ea eb ec
  subst ea ec
  clear eb
  obtain ⟨V2,hV2⟩:∃ W,W = w2.setCell ⟨A,5,none⟩ (.slice q2 nb c2):=⟨_,rfl⟩
  have hV2s:V2.heap.size = w2.heap.size:=by rw [hV2];simp [World.setCell]
  have hp2:=own_freshF own2 (Nat.le_refl _)
  have HP2:Hid (∀ a,q2 = some a→r < a.block∧a.block < V2.heap.size):=fun a ha=>by have h1:=hp2 a ha;have h2:=HS1.out;omega
  have HKA2:Hid (V2.heap[A]? = some (.cells #[.string p.ty,.string p.cs,.string p.id,.string p.loc,.int .i64 p.how,.slice q2 nb c2,.slice pk n ck] 25)):=by unfold Hid;rw [hV2];exact (set_blk kA2 5 _).trans rfl
  have HKR2:Hid (V2.heap[r]? = some (.cells #[.string ⟨#[]⟩,.string ⟨#[]⟩,.string ⟨#[]⟩,.string ⟨#[]⟩,.int .i64 0,.slice none 0 0,.slice none 0 0] 25)):=by unfold Hid;rw [hV2,Below.heap_setCell _ _ _ _ hArr];exact blk_on HKR1.out hb2
  have HB2:Hid (Below A w V2):=by unfold Hid;rw [hV2];exact Below.setCell (p:=⟨A,5,none⟩) (HB1.out.trans (hb2.mono hA1)) (Nat.le_refl _) _
  have HRW2:Hid (BRow V2 q2 p.body):=BRow.move (Q:=fun b=>r < b) (fun b hb _=>by rw [hV2,Below.heap_setCell _ _ _ _ (show b ≠ A by have:=HR.out;omega)]) hrow (fun a ha=>(HP2.out a ha).1)
  have H2:Hid (nb≤c2∧c2≤maxLen∧(q2 = none→c2 = 0)):=⟨by rw [HNB.out];exact h2a,h2b,fun e=>(h2n e).2⟩
  have HV2:Hid (V2 = w2.setCell ⟨A,5,none⟩ (.slice q2 nb c2)):=hV2
  have hV2r:r < V2.heap.size:=by have h1:=hb2.size;have h2:=HS1.out;omega
  clear z0 z1 z2 z3 z4 z5 z6 zf own2 own2' hrow hp2 hV2 hV2s h2a h2b h2n HKA1 HKR1 HB1 CB hb2
  obtain ⟨z0,z1,z2,z3,z4,z5,z6,zf⟩:=o_cells kA2
  clear kA2
  go_upto_region 2 with fail
  rw [← HV2.out]
  clear z0 z1 z2 z3 z4 z5 z6 zf HV2
  obtain ⟨z0,z1,z2,z3,z4,z5,z6,zf⟩:=o_cells HKA2.out
  have hbw2:Below w.heap.size w V2:=by rw [HA.out];exact HB2.out
  have CP:Hid (Calls Tryz.prog 115 #[.slice pk n ck] V2 fun e w'=>∃ q c',e = .returned (.slice q n c')∧w'.ownsRow V2.heap.size 25 7 (.slice q n c') n (pzv Zo)∧Below V2.heap.size V2 w'):=pclone_any pk n ck Zo HZL.out hk1000 V2 (HZC.out.below hbw2) HKN.out
  clear hbw2
  go_wp2_with fail
  refine CP.out.mono ?_
  rintro e w3 ⟨qv,cc,rfl,own3,hb3⟩
  have hAV:A≤V2.heap.size:=by have:=HR.out;omega
  have kA3:=blk_on HKA2.out hb3
  obtain ⟨V3,hV3⟩:∃ W,W = w3.setCell ⟨A,6,none⟩ (.slice qv n cc):=⟨_,rfl⟩
  have hV3s:V3.heap.size = w3.heap.size:=by rw [hV3];simp [World.setCell]
  have HG:Hid (∀ a,qv = some a→V2.heap.size≤a.block∧a.block < V3.heap.size):=fun a ha=>by rw [hV3s];exact own_freshF own3 (Nat.le_refl _) a ha
  have HCAP:Hid (n≤cc∧cc≤maxLen∧(qv = none→cc = 0)):=by
   obtain ⟨_,_,e,h1,h2,h3,_⟩:=owned_cells own3
   cases e
   exact ⟨h1,h2,fun e=>(h3 e).2⟩
  have HM:Hid (WhAt f w A r V2.heap.size V3.heap.size n cc #[.string p.ty,.string p.cs,.string p.id,.string p.loc,.int .i64 p.how,.slice q2 nb c2,.slice qv n cc] q2 p.body qv Zo [] V3):=by
   have hbl:∀ b,b ≠ A→V3.heap[b]? = w3.heap[b]?:=fun b hb=>by rw [hV3];exact Below.heap_setCell _ _ _ _ hb
   refine ⟨by rw [hV3];exact Below.setCell (p:=⟨A,6,none⟩) (HB2.out.trans (hb3.mono hAV)) (Nat.le_refl _) _,by rw [hV3];exact (set_blk kA3 6 _).trans rfl,by rw [hbl r hArr];exact blk_on HKR2.out hb3,BRow.move (Q:=fun b=>r < b) (fun b hb _=>hbl b (by have:=HR.out;omega)) (HRW2.out.under hb3) (fun a ha=>(HP2.out a ha).1),owns_move own3 (fun g hg=>hbl g (by have:=(own3.lt g hg).1;have:=HR.out;omega)),List.Pairwise.nil,fun y hy=>by cases hy⟩
  have HV2W:Hid (V2.heap.size≤V3.heap.size):=by unfold Hid;rw [hV3s];exact hb3.size
  have HV3:Hid (V3 = w3.setCell ⟨A,6,none⟩ (.slice qv n cc)):=hV3
  clear own3 hV3 hV3s HKA2 HKR2 HRW2 CP hb3 z0 z1 z2 z3 z4 z5 z6 zf
  obtain ⟨z0,z1,z2,z3,z4,z5,z6,zf⟩:=o_cells kA3
  clear kA3
  go_upto_region 3 with fail
  rw [← HV3.out]
  clear z0 z1 z2 z3 z4 z5 z6 zf HV3
  have y6:V3.cell? ⟨A,6,none⟩ = some (.slice qv n cc):=(blk_c HM.out.kA 6).trans rfl
  have HV2S:Hid (r < V2.heap.size):=hV2r
  clear hV2r
  go_wp2_with fail
  clear y6
  go_loopw [16] (fun iv wr=>∃ (k:Nat) (Y:List PY3),k≤n∧iv = .int .i64 k∧Hid (Y.length = k)∧Hid (Y.map (·.1.1) = p.kids.take k)∧Hid (V3.heap.size≤wr.heap.size)∧Hid (WhAt f w A r V2.heap.size V3.heap.size n cc #[.string p.ty,.string p.cs,.string p.id,.string p.loc,.int .i64 p.how,.slice q2 nb c2,.slice qv n cc] q2 p.body qv Zo Y wr)) (fun iv _=>n - (intOf iv).toNat)
  case atStart=>exact ⟨0,[],Nat.zero_le _,rfl,rfl,rfl,Nat.le_refl _,HM⟩
  case round =>
   obtain ⟨k,Y,hk,rfl,HYl,HYm,HVs,HMk⟩:=hrel
   clear HM
   by_cases hlt:k < n
   ·have hlz:(k:Int) < (n:Int):=by omega
    have hkZ:k < Zo.length:=by rw [← HZL.out];exact hlt
    obtain ⟨g,hg⟩:∃ g,qv = some ⟨g,0,none⟩:=by
     rcases HMk.out.own.2 with ⟨_,h0⟩ | ⟨g,cap,cur,e,_⟩
     ·omega
     ·injection e with e1 _ _
      exact ⟨g,e1⟩
    subst hg
    obtain ⟨hgV2,hgV3⟩:V2.heap.size≤g∧g < V3.heap.size:=HG.out _ rfl
    have hat:∀ j u,(pzc Zo[k])[j]? = some u→j < 7→wr.cell? ⟨g,k * 7 + j,none⟩ = some u:=fun j u hj h7=>by
     rw [HMk.out.own.cellAt (k * 7 + j) (by omega)]
     refine pz_at _ k Zo[k] ?_ j u hj
     rw [List.getElem?_append_right (by rw [List.length_map,HYl.out];exact Nat.le_refl _),List.length_map,HYl.out,Nat.sub_self,List.getElem?_drop,Nat.add_zero,List.getElem?_eq_getElem hkZ]
    have d0:=hat 0 _ rfl (by decide)
    have d1:=hat 1 _ rfl (by decide)
    have d2:=hat 2 _ rfl (by decide)
    have d3:=hat 3 _ rfl (by decide)
    have d4:=hat 4 _ rfl (by decide)
    have d5:=hat 5 _ rfl (by decide)
    have d6:=hat 6 _ rfl (by decide)
    have hzm:Zo[k] ∈ Zo:=List.getElem_mem hkZ
    have hbw:Below w.heap.size w wr:=by rw [HA.out];exact HMk.out.bel
    have hPH:=(HZH.out _ hzm).below hbw
    have hmem:Zo[k].1 ∈ p.kids:=by rw [← HZO.out];exact List.mem_map.2 ⟨_,hzm,rfl⟩
    have HTK:Hid (p.kids.take (k + 1) = p.kids.take k ++ [Zo[k].1]):=by
     have hkP:k < p.kids.length:=by rw [HN.out];exact hlt
     have e:p.kids[k] = Zo[k].1:=by
      have h1:=congrArg (·[k]?) HZO.out
      simp only [List.getElem?_map,List.getElem?_eq_getElem hkZ,List.getElem?_eq_getElem hkP] at h1
      exact (Option.some.inj h1).symm
     unfold Hid
     rw [List.take_add_one,List.getElem?_eq_getElem hkP,e]
     rfl
    rw [Nat.add_zero] at d0
    clear hat hzm hbw
    generalize Zo[k] = z at *
    obtain ⟨Wk,hWk⟩:∃ W,W = wr.alloc (.cells #[.string z.1.ty,.string z.1.cs,.string z.1.id,.string z.1.loc,.int .i64 z.1.how,.slice z.2.1.1 z.1.body.length z.2.1.2,.slice z.2.2.1 z.1.kids.length z.2.2.2] 25):=⟨_,rfl⟩
    have hbk:Below wr.heap.size wr Wk:=by rw [hWk];exact (Below.refl _ _).alloc (Nat.le_refl _) _
    have hsk:Wk.heap.size = wr.heap.size + 1:=by rw [hWk];simp
    have hAr:A≤wr.heap.size:=Nat.le_of_lt (Array.getElem?_eq_some_iff.1 HMk.out.kA).1
    have HMW:Hid (WhAt f w A r V2.heap.size V3.heap.size n cc #[.string p.ty,.string p.cs,.string p.id,.string p.loc,.int .i64 p.how,.slice q2 nb c2,.slice (some ⟨g,0,none⟩) n cc] q2 p.body (some ⟨g,0,none⟩) Zo Y Wk):=HMk.out.below hAr hbk
    have HKE:Hid (Wk.heap[wr.heap.size]? = some (.cells #[.string z.1.ty,.string z.1.cs,.string z.1.id,.string z.1.loc,.int .i64 z.1.how,.slice z.2.1.1 z.1.body.length z.2.1.2,.slice z.2.2.1 z.1.kids.length z.2.2.2] 25)):=by unfold Hid;rw [hWk];exact blk_new _ _
    have HIH:Hid (Calls Tryz.prog 62 #[.agg #[.string z.1.ty,.string z.1.cs,.string z.1.id,.string z.1.loc,.int .i64 z.1.how,.slice z.2.1.1 z.1.body.length z.2.1.2,.slice z.2.2.1 z.1.kids.length z.2.2.2]] Wk.drew fun e w'=>∃ yb ycb yk yck,e = .returned (.agg #[.string z.1.ty,.string z.1.cs,.string z.1.id,.string z.1.loc,.int .i64 z.1.how,.slice yb z.1.body.length ycb,.slice yk z.1.kids.length yck])∧Below Wk.heap.size Wk w'∧(InB (BK noB Wk.heap.size w'.heap.size yk z.1.kids) yb∧PHeldK (fun a l=>RT w' noB f Wk.heap.size w'.heap.size a yck l) w' z.1 yb ycb yk yck)):=(IH.out F' z.1 _ _ _ _ Wk.drew hmem ((PHeld.below hPH hbk).below ((Below.refl _ _).drew))).mono fun e w' h=>by
     obtain ⟨yb,ycb,yk,yck,he,hb,hi,hh⟩:=h
     exact ⟨yb,ycb,yk,yck,he,((Below.refl _ Wk).drew).trans hb,hi,hh⟩
    have HWk:Hid (Wk = wr.alloc (.cells #[.string z.1.ty,.string z.1.cs,.string z.1.id,.string z.1.loc,.int .i64 z.1.how,.slice z.2.1.1 z.1.body.length z.2.1.2,.slice z.2.2.1 z.1.kids.length z.2.2.2] 25)):=hWk
    have HPRE:Hid (∀ y ∈ Y,y.2.2≤Wk.heap.size):=fun y hy=>by have:=(HMk.out.each y hy).2.2.1;omega
    have HVk:Hid (V3.heap.size≤Wk.heap.size):=by have:=HVs.out;unfold Hid;omega
    have HGg:Hid (V2.heap.size≤g∧g < V3.heap.size):=⟨hgV2,hgV3⟩
    have HKZ:Hid (k < Zo.length):=hkZ
    have HQ2:Hid (∀ a,q2 = some a→a.block < g):=fun a ha=>by have:=(HP2.out a ha).2;omega
    obtain ⟨E,hE⟩:∃ E,wr.heap.size = E:=⟨_,rfl⟩
    have hEg:E ≠ g:=by have:=HVs.out;omega
    have hAg:A ≠ g:=by have:=HV2S.out;have:=HR.out;omega
    rw [hE] at HKE
    clear hWk hbk hsk hAr hPH hmem HMk hgV2 hgV3 hkZ
    go_upto_region 6 with fail
    rw [← HWk.out]
    clear hE d0 d1 d2 d3 d4 d5 d6 HWk
    refine lwR6 Wk A E g k n cc _ z.1 _ _ _ _ _ _ _ HIH.out _ _ HMW.out.own hlt HMW.out.kA rfl HKE.out hAg hEg _ _ _ _ _ _ _ _ _ _ _ _ _ _ _ _ _ _ _ _ _ _ _ _ _ _ _ ?_
    intro u21 u22 u23 u24 u25 u26 yb ycb yk yck w4 hb4 hpx
    have hm4:=HMW.out.below (by have:=HMW.out.bel.size;rw [HA.out] at this;exact this) hb4
    have hst:=hm4.step (k:=k) (lo:=Wk.heap.size) (by have:=HGg.out.1;have:=HV2S.out;have:=HR.out;omega) (by have:=HGg.out.1;have:=HV2S.out;omega) HQ2.out HGg.out.2 HVk.out hb4.size HYl.out HKZ.out HPRE.out (z.1,(yb,ycb),(yk,yck)) hpx.1 hpx.2
    have HST:Hid (WhAt f w A r V2.heap.size V3.heap.size n cc #[.string p.ty,.string p.cs,.string p.id,.string p.loc,.int .i64 p.how,.slice q2 nb c2,.slice (some ⟨g,0,none⟩) n cc] q2 p.body (some ⟨g,0,none⟩) Zo (Y ++ [((z.1,(yb,ycb),(yk,yck)),Wk.heap.size,w4.heap.size)]) (w4.setCells g (k * 7) [.string z.1.ty,.string z.1.cs,.string z.1.id,.string z.1.loc,.int .i64 z.1.how,.slice yb z.1.body.length ycb,.slice yk z.1.kids.length yck])):=hst
    have HY2:Hid ((Y ++ [((z.1,(yb,ycb),(yk,yck)),Wk.heap.size,w4.heap.size)]).map (·.1.1) = p.kids.take (k + 1)):=by unfold Hid;rw [List.map_append,HYm.out,HTK.out];rfl
    have HL2:Hid ((Y ++ [((z.1,(yb,ycb),(yk,yck)),Wk.heap.size,w4.heap.size)]).length = k + 1):=by unfold Hid;rw [List.length_append,HYl.out];rfl
    have HV4:Hid (V3.heap.size≤(w4.setCells g (k * 7) [.string z.1.ty,.string z.1.cs,.string z.1.id,.string z.1.loc,.int .i64 z.1.how,.slice yb z.1.body.length ycb,.slice yk z.1.kids.length yck]).heap.size):=by unfold Hid;rw [setCells_size];have:=HVk.out;have:=hb4.size;omega
    clear hm4 hst hb4 hpx HMW HIH
    go_wp2_with fail
    go_roundw
    case rel=>exact ⟨k + 1,_,by omega,by go_num,HL2,HY2,HV4,HST⟩
    case measure=>simp [intOf];omega
   ·have hlz:¬ ((k:Int) < (n:Int)):=by omega
    obtain rfl:k = n:=by omega
    have hYk:Y.map (·.1.1) = p.kids:=by rw [HYm.out,List.take_of_length_le (by rw [HN.out];exact Nat.le_refl _)]
    have hown:=HMk.out.own
    rw [HYl.out,List.drop_of_length_le (by rw [← HZL.out];exact Nat.le_refl _),List.append_nil] at hown
    have hAV3:A < wr.heap.size:=(Array.getElem?_eq_some_iff.1 HMk.out.kA).1
    have hrV3:r < wr.heap.size:=(Array.getElem?_eq_some_iff.1 HMk.out.kR).1
    have HFIN:Hid (WholePost (f + 1) p w (.returned (.agg #[.string p.ty,.string p.cs,.string p.id,.string p.loc,.int .i64 p.how,.slice q2 nb c2,.slice qv k cc])) (put7 wr r (.string p.ty) (.string p.cs) (.string p.id) (.string p.loc) (.int .i64 p.how) (.slice q2 nb c2) (.slice qv k cc))):=by
     have hbl:∀ b,b ≠ A→b ≠ r→(put7 wr r (.string p.ty) (.string p.cs) (.string p.id) (.string p.loc) (.int .i64 p.how) (.slice q2 nb c2) (.slice qv k cc)).heap[b]? = wr.heap[b]?:=fun b _ h2=>put7_block wr r _ _ _ _ _ _ _ b h2
     have hrA:=HR.out
     have hV2r:=HV2S.out
     refine HPOST.out q2 c2 qv cc _ (put7_below HMk.out.bel (by omega) _ _ _ _ _ _ _) (fun a ha=>?_) ⟨HPL0.out,by rw [← HNB.out];exact H2.out,BRow.move (Q:=fun b=>r < b) (fun b hb _=>hbl b (by omega) (by omega)) HMk.out.row (fun a ha=>(HP2.out a ha).1),by rw [HN.out];exact HCAP.out,fun hne=>?_⟩
     ·have h1:=HP2.out a ha
      rw [put7_size]
      have h2:=HVs.out
      have h3:V2.heap.size≤V3.heap.size ∨ qv = none:=by
       cases hq:qv with
       | none=>exact .inr rfl
       | some b=>exact .inl (by have:=HG.out b hq;omega)
      have h4:=HV2W.out
      exact .inl ⟨by omega,by omega,fun _ g hg=>by have h5:V2.heap.size≤g:=(HG.out _ hg).1;omega⟩
     ·have hk0:0 < k:=by rw [← HN.out];exact List.length_pos_iff.2 hne
      obtain ⟨g,hg⟩:∃ g,qv = some ⟨g,0,none⟩:=by
       rcases hown.2 with ⟨_,h0⟩ | ⟨g,cap,cur,e,_⟩
       ·omega
       ·injection e with e1 _ _
        exact ⟨g,e1⟩
      obtain ⟨hg1,hg2⟩:=HG.out _ hg
      have hg3:=(hown.lt g (by rw [hg];rfl)).2
      refine ⟨g,Y,hg,by simp only at hg1;omega,by rw [put7_size];exact hg3,hYk,?_,HMk.out.pw,fun y hy=>?_⟩
      ·rw [HN.out]
       exact owns_weaken (put7_owns hown (by omega) _ _ _ _ _ _ _) (by omega)
      ·obtain ⟨h1,h2,h3,h4,h5⟩:=HMk.out.each y hy
       simp only at hg1 hg2
       exact ⟨by omega,h2,by rw [put7_size];exact h3,h4,held_move (fun b hb _=>hbl b (by omega) (by omega)) h4 h5⟩
    obtain ⟨z0,z1,z2,z3,z4,z5,z6,zf⟩:=o_cells HMk.out.kA
    obtain ⟨r0,r1,r2,r3,r4,r5,r6,rf⟩:=o_cells HMk.out.kR
    clear hown hAV3 hrV3 hYk HYl HYm HMk IH HPOST
    go_wp2_with fail
    refine bodyPost_ret (v:=.agg #[.string p.ty,.string p.cs,.string p.id,.string p.loc,.int .i64 p.how,.slice q2 nb c2,.slice qv k cc]) ?_ rfl HFIN.out
    rw [results_cell1 rfl]
    go_simp
end Go.Proofs.YtbbfcbodhmeanaaGreatDoor

