
import Derived.Test.YtbbfcbodhmeanaaGreatDoorXrewritesays8
import Derived.Deep.RegionHeld3
namespace Go.Proofs.YtbbfcbodhmeanaaGreatDoor
open Go.RowKit
def lkv (n:Nat) (x:LK):Array Value:=#[.int .i64 ((n - x.1:Nat):Int),.int .i64 ((n - x.1 + x.2.length:Nat):Int),.string (lba (unamp x.2))]
theorem lkC_lkv {p:ByteArray} {s:List UInt8} (hS:Suf p s) (q:UInt8→Bool):lkC p s (s.dropWhile q) (s.takeWhile q) = lkv p.size (s.length,s.takeWhile q):=by
 unfold lkC lkv
 rw [pos_plus hS (tw_dw q s)]
 rfl
theorem sees_suf (g:Nat) (p:ByteArray) (s:List UInt8) (hS:Suf p s) (c:UInt8) (cc:Int) (ec:cc = (c.toNat:Int)) (b:Bool) (hb:(s.head? == some c) = b) (w:World) (hr:RdAt w g p (pos p s)) :
  Calls Tryz.prog 174 #[.pointer (some ⟨g,0,none⟩),.int .u8 cc] w fun e w'=>e = .returned (.bool b)∧∃ m,w' = w.drewN m:=by
 subst hb
 have:=sees_any g p (pos p s) c cc ec w hr
 rw [hS.drop] at this
 exact this
theorem done_suf (g:Nat) (p:ByteArray) (s:List UInt8) (hS:Suf p s) (b:Bool) (hb:decide (s = []) = b) (w:World) (hr:RdAt w g p (pos p s)) :
  Calls Tryz.prog 75 #[.pointer (some ⟨g,0,none⟩)] w fun e w'=>e = .returned (.bool b)∧∃ m,w' = w.drewN m:=by
 have h:=done_any g p (pos p s) w hr
 have e:decide ((p.size:Int)≤(pos p s:Nat)) = b:=by
  rw [← hb,Bool.eq_iff_iff]
  simp only [decide_eq_true_eq]
  have:=hS.len
  unfold pos
  constructor
  ·intro h;exact List.length_eq_zero_iff.1 (by omega)
  ·rintro rfl;simp
 rw [e] at h
 exact h
abbrev linkZ:Obj:=.cells #[.int .i64 0,.int .i64 0,.string ⟨#[]⟩] 40
set_option maxHeartbeats 4000000 in
set_option maxRecDepth 100000 in
theorem value_bare (w0:World) (HE:LEnv w0) (g:Nat) (hg:w0.heap.size≤g) (p:ByteArray) (s:List UInt8) (hS:Suf p s) (w:World) (hr:RdAt w g p (pos p s)) (hb:Below w0.heap.size w0 w) (hp:p.size≤4000)
  (h34:(s.head? == some 34) = false) (h39:(s.head? == some 39) = false) :
  Calls Tryz.prog 203 #[.pointer (some ⟨g,0,none⟩)] w fun e w'=>e = .returned (.agg (lkv p.size (s.length,s.takeWhile inBare)))∧Moves w g (pos p (s.dropWhile inBare)) w':=by
 have HR:Hid (RdAt w g p (pos p s)):=hr
 have hlt:=hr.lt
 have hne:g ≠ w.heap.size:=by omega
 have C1:Hid (∀ W,RdAt W g p (pos p s)→Calls Tryz.prog 174 #[.pointer (some ⟨g,0,none⟩),.int .u8 34] W fun e w'=>e = .returned (.bool false)∧∃ m,w' = W.drewN m):=fun W hW=>sees_suf g p s hS 34 34 rfl false h34 W hW
 have C2:Hid (∀ W,RdAt W g p (pos p s)→Calls Tryz.prog 174 #[.pointer (some ⟨g,0,none⟩),.int .u8 39] W fun e w'=>e = .returned (.bool false)∧∃ m,w' = W.drewN m):=fun W hW=>sees_suf g p s hS 39 39 rfl false h39 W hW
 have CL:Hid (∀ W,RdAt W g p (pos p s)→Below w0.heap.size w0 W→Calls Tryz.prog 211 #[.pointer (some ⟨g,0,none⟩),.func (Fn.func 212) #[] #[]] W fun e w'=>e = .returned (.agg (lkv p.size (s.length,s.takeWhile inBare)))∧Moves W g (pos p (s.dropWhile inBare)) w'):=fun W h1 h2=>by
  have:=link_any w0 HE 212 #[] inBare (fun _=>True) (fun _ _ _ _=>trivial) g hg p s hS W h1 h2 trivial (ask_val1 g) hp
  rw [lkC_lkv hS] at this
  exact this
 have HB:Hid (Below w0.heap.size w0 w):=hb
 have hba:Below w.heap.size w (w.alloc linkZ):=(Below.refl _ _).alloc (Nat.le_refl _) _
 have hnew:=lnew w linkZ
 obtain ⟨V0,V1,V2,hV⟩:∃ (V0 V1:Nat) (V2:ByteArray),lkv p.size (s.length,s.takeWhile inBare) = #[.int .i64 (V0:Int),.int .i64 (V1:Int),.string V2]:=⟨_,_,_,rfl⟩
 rw [hV] at CL
 rw [hV]
 generalize pos p (s.dropWhile inBare) = m at *
 generalize pos p s = k at *
 clear hr HE hb hS h34 h39 hV
 obtain ⟨W0,hW0⟩:∃ W,W = w.alloc linkZ:=⟨_,rfl⟩
 rw [← hW0] at hba hnew
 have hr0:=HR.out.below hba
 go_enter Tryz.func203,Tryz.ntmps203
 go_wp2_with fail
 rw [← hW0]
 clear hW0
 refine (C1.out _ hr0).mono ?_
 rintro e w1 ⟨rfl,n1,rfl⟩
 go_wp2_with fail
 refine (C2.out _ (hr0.drewN _)).mono ?_
 rintro e w1 ⟨rfl,n2,rfl⟩
 have hB0:Below w0.heap.size w0 W0:=HB.out.trans (hba.mono HB.out.size)
 clear C1 C2
 go_wp2_with fail
 refine (CL.out _ (hr0.drewN _) (below_many hB0 _)).mono ?_
 rintro e w3 ⟨rfl,hm3⟩
 have hk3:=hm3.kept (show (W0.drewN _).heap[w.heap.size]? = _ from hnew) (Ne.symm hne)
 have HM:Hid (Moves w g m w3):=(((Moves.still HR.out).then hba).drewN _).trans hm3 HR.out
 obtain ⟨c0,c1,c2,cf⟩:=lcells3 hk3
 clear CL hk3 hm3 hnew hr0 hba hB0
 go_wp2_with fail
 refine bodyPost_ret (v:=.agg #[.int .i64 (V0:Int),.int .i64 (V1:Int),.string V2]) ?_ rfl ⟨rfl,?_⟩
 ·rw [results_cell1 rfl]
  go_simp
 ·exact ((HM.out.new _ _ (Nat.le_refl _) _).new _ _ (Nat.le_refl _) _).new _ _ (Nat.le_refl _) _
theorem drewN_add (w:World) (a b:Nat):(w.drewN a).drewN b = w.drewN (a + b):=World.drewN_drewN w a b
set_option maxHeartbeats 8000000 in
set_option maxRecDepth 100000 in
theorem value_34 (w0:World) (HE:LEnv w0) (g:Nat) (hg:w0.heap.size≤g) (p:ByteArray) (t:List UInt8) (hS:Suf p (34::t)) (w:World) (hr:RdAt w g p (pos p (34::t))) (hb:Below w0.heap.size w0 w) (hp:p.size≤4000) :
  Calls Tryz.prog 203 #[.pointer (some ⟨g,0,none⟩)] w fun e w'=>e = .returned (.agg (lkv p.size (t.length,t.takeWhile (notQ 34))))∧Moves w g (pos p ((t.dropWhile (notQ 34)).drop 1)) w':=by
 have HR:Hid (RdAt w g p (pos p (34::t))):=hr
 have hlt:=hr.lt
 have hne:g ≠ w.heap.size:=by omega
 have hne1:g ≠ w.heap.size + 1:=by omega
 have C1:Hid (∀ W,RdAt W g p (pos p (34::t))→Calls Tryz.prog 174 #[.pointer (some ⟨g,0,none⟩),.int .u8 34] W fun e w'=>e = .returned (.bool true)∧∃ m,w' = W.drewN m):=fun W hW=>sees_suf g p (34::t) hS 34 34 rfl true rfl W hW
 have CL:Hid (∀ W h,h ≠ g→W.cell? ⟨h,0,none⟩ = some (.int .u8 34)→RdAt W g p (pos p t)→Below w0.heap.size w0 W→Calls Tryz.prog 211 #[.pointer (some ⟨g,0,none⟩),.func (Fn.func 213) #[] #[.pointer (some ⟨h,0,none⟩)]] W fun e w'=>e = .returned (.agg (lkv p.size (t.length,t.takeWhile (notQ 34))))∧Moves W g (pos p (t.dropWhile (notQ 34))) w'):=fun W h hh hc h1 h2=>by
  have:=link_any w0 HE 213 #[.pointer (some ⟨h,0,none⟩)] (notQ 34) (fun W=>W.cell? ⟨h,0,none⟩ = some (.int .u8 ((34:UInt8).toNat:Int))) (fun W v t hW=>by
   have hlt:=World.block_lt_of_cell? W _ hW
   exact (((Below.refl _ _).alloc (Nat.le_refl _) _).cell (p:=⟨h,0,none⟩) hlt).trans hW) g hg p t hS.tl W h1 h2 hc (ask_val2 g h 34 hh) hp
  rw [lkC_lkv hS.tl] at this
  exact this
 have CD:Hid (∀ W,RdAt W g p (pos p (t.dropWhile (notQ 34)))→Calls Tryz.prog 75 #[.pointer (some ⟨g,0,none⟩)] W fun e w'=>e = .returned (.bool (decide (t.dropWhile (notQ 34) = [])))∧∃ m,w' = W.drewN m):=fun W hW=>done_suf g p _ (hS.tl.dw _) _ rfl W hW
 have HB:Hid (Below w0.heap.size w0 w):=hb
 have hba:Below w.heap.size w (w.alloc linkZ):=(Below.refl _ _).alloc (Nat.le_refl _) _
 have hnew:=lnew w linkZ
 have hlen:=hS.len
 have hix:∀ hk:pos p (34::t) < p.size,p[pos p (34::t)]'hk = 34:=fun hk=>by
  have h:=hS.drop
  rw [dropB p _ hk] at h
  exact (List.cons.inj h).1
 have hk:pos p (34::t) < p.size:=by unfold pos;simp only [List.length_cons] at hlen ⊢;omega
 have hp1:pos p t = pos p (34::t) + 1:=pos_plus hS (a:=[34]) rfl
 have HX:Hid (t.dropWhile (notQ 34) ≠ []→pos p ((t.dropWhile (notQ 34)).drop 1) = pos p (t.dropWhile (notQ 34)) + 1):=fun h=>by
  cases hd:t.dropWhile (notQ 34) with
  | nil=>exact absurd hd h
  | cons y r=>exact pos_plus (hd ▸ hS.tl.dw (notQ 34)) (a:=[y]) rfl
 have HX0:Hid (t.dropWhile (notQ 34) = []→pos p ((t.dropWhile (notQ 34)).drop 1) = pos p (t.dropWhile (notQ 34))):=fun h=>by rw [h];rfl
 have hmle:=pos_le p (t.dropWhile (notQ 34))
 obtain ⟨V0,V1,V2,hV⟩:∃ (V0 V1:Nat) (V2:ByteArray),lkv p.size (t.length,t.takeWhile (notQ 34)) = #[.int .i64 (V0:Int),.int .i64 (V1:Int),.string V2]:=⟨_,_,_,rfl⟩
 rw [hV] at CL
 rw [hV]
 rw [hp1] at CL
 generalize pos p ((t.dropWhile (notQ 34)).drop 1) = m2 at *
 generalize pos p (t.dropWhile (notQ 34)) = m at *
 generalize pos p (34::t) = k at *
 clear hr HE hb hS hV hp1 hlen
 generalize t.dropWhile (notQ 34) = D at *
 obtain ⟨W0,hW0⟩:∃ W,W = w.alloc linkZ:=⟨_,rfl⟩
 rw [← hW0] at hba hnew
 have hr0:=HR.out.below hba
 have hsz0:W0.heap.size = w.heap.size + 1:=by rw [hW0];simp
 have hkn:p[k]'hk = 34:=hix hk
 have hki:(k:Int) < (p.size:Int):=by omega
 have hwr:IntKind.i64.wrap ((k:Int) + 1) = ((k + 1:Nat):Int):=by rw [IntKind.wrap_i64];omega
 go_enter Tryz.func203,Tryz.ntmps203
 go_wp2_with fail
 rw [← hW0]
 clear hW0
 refine (C1.out _ hr0).mono ?_
 rintro e w1 ⟨rfl,n1,rfl⟩
 go_wp2_with fail
 have h0:=hr0.page
 have h1:=hr0.at_
 have hf1:=hr0.frozen 1
 have hr2:=hr0.drewN (n1 + 1)
 go_region
 go_wp2_with fail
 obtain ⟨W1,hW1⟩:∃ W,W = ((W0.drewN (n1 + 1)).setCell ⟨g,1,none⟩ (.int .i64 ((k:Int) + 1))).alloc (.cells #[.int .u8 34] 5):=⟨_,rfl⟩
 have M01:Moves W0 g ((k + 1:Nat):Int) W1:=by rw [hW1];exact ((((Moves.still hr0).drewN _).trans Moves.of_set hr0)).alloc _
 have hk1:=M01.kept hnew (Ne.symm hne)
 have hr1:=M01.rd hr0
 have hq1:W1.heap[w.heap.size + 1]? = some (.cells #[.int .u8 34] 5):=by
  have h:=lnew ((W0.drewN (n1 + 1)).setCell ⟨g,1,none⟩ (.int .i64 ((k:Int) + 1))) (.cells #[.int .u8 34] 5)
  rw [← hW1,set1_size,World.heap_drewN,hsz0] at h
  exact h
 have hqc:W1.cell? ⟨w.heap.size + 1,0,none⟩ = some (.int .u8 34):=by simp [World.cell?,hq1]
 have hB1:Below w0.heap.size w0 W1:=M01.base (HB.out.trans (hba.mono HB.out.size)) hg
 have M1:Hid (Moves w g ((k + 1:Nat):Int) W1):=((Moves.still HR.out).then hba).trans M01 HR.out
 rw [← hW1]
 clear hW1 M01 hr2 h0 h1 hf1 hr0 hsz0 hnew hba
 refine (CL.out _ _ (Ne.symm hne1) hqc hr1 hB1).mono ?_
 rintro e w5 ⟨rfl,hm5⟩
 have hk5:=hm5.kept hk1 (Ne.symm hne)
 have hr5:=hm5.rd hr1
 have HM:Hid (Moves w g m w5):=M1.out.trans hm5 HR.out
 have hl5:=hr5.lt
 have hn5:g ≠ w5.heap.size:=by omega
 have hz5:=lltn hk5
 have hz5':w.heap.size ≠ w5.heap.size:=by omega
 clear CL hm5 hk1 hr1 hB1 M1 hq1 hqc
 obtain ⟨W6,hW6⟩:∃ W,W = w5.alloc (.cells #[.int .i64 (V0:Int),.int .i64 (V1:Int),.string V2] 40):=⟨_,rfl⟩
 have hr6:RdAt W6 g p m:=by rw [hW6];exact hr5.below ((Below.refl _ _).alloc (Nat.le_refl _) _)
 have hk6:W6.heap[w.heap.size]? = some linkZ:=by rw [hW6];exact lkept hk5 ((Below.refl _ _).alloc (Nat.le_refl _) _)
 have hl6:W6.heap[w5.heap.size]? = some (.cells #[.int .i64 (V0:Int),.int .i64 (V1:Int),.string V2] 40):=by rw [hW6];exact lnew _ _
 have HM6:Hid (Moves w g m W6):=by unfold Hid;rw [hW6];exact HM.out.alloc _
 have HW6:Hid (W6 = _):=hW6
 clear hW6 hk5 hr5
 go_wp2_with fail
 rw [← HW6.out]
 refine (CD.out _ hr6).mono ?_
 rintro e w7 ⟨rfl,n7,rfl⟩
 have c1:=hr6.at_
 have cf1:=hr6.frozen 1
 obtain ⟨d0,d1,d2,df⟩:=lcells3 hk6
 obtain ⟨e0,e1,e2,ef⟩:=lcells3 hl6
 have hwm:IntKind.i64.wrap ((m:Int) + 1) = ((m + 1:Nat):Int):=by rw [IntKind.wrap_i64];omega
 by_cases hD:D = []
 ·rw [decide_eq_true hD]
  have hX:=HX0.out hD
  subst hX
  clear CD HX HX0 hD HM HW6 hr6 hk6 hl6
  go_wp2_with fail
  refine bodyPost_ret (v:=.agg #[.int .i64 (V0:Int),.int .i64 (V1:Int),.string V2]) ?_ rfl ⟨rfl,?_⟩
  ·rw [results_cell1 rfl]
   go_simp
  ·exact (((HM6.out.drewN _).new _ _ (Nat.le_refl _) _).new _ _ (Nat.le_refl _) _).new _ _ (Nat.le_refl _) _
 ·rw [decide_eq_false hD]
  have hX:=HX.out hD
  have M2:Hid (Moves w g ((m + 1:Nat):Int) ((W6.drewN n7).setCell ⟨g,1,none⟩ (.int .i64 ((m + 1:Nat):Int)))):=(HM6.out.drewN _).trans Moves.of_set HR.out
  subst hX
  clear CD HX HX0 hD HM HW6 hr6 hk6 hl6
  go_wp2_with fail
  refine bodyPost_ret (v:=.agg #[.int .i64 (V0:Int),.int .i64 (V1:Int),.string V2]) ?_ rfl ⟨rfl,?_⟩
  ·rw [results_cell1 rfl]
   go_simp
  ·exact ((M2.out.new _ _ (Nat.le_refl _) _).new _ _ (Nat.le_refl _) _).new _ _ (Nat.le_refl _) _
set_option maxHeartbeats 8000000 in
set_option maxRecDepth 100000 in
theorem value_39 (w0:World) (HE:LEnv w0) (g:Nat) (hg:w0.heap.size≤g) (p:ByteArray) (t:List UInt8) (hS:Suf p (39::t)) (w:World) (hr:RdAt w g p (pos p (39::t))) (hb:Below w0.heap.size w0 w) (hp:p.size≤4000) :
  Calls Tryz.prog 203 #[.pointer (some ⟨g,0,none⟩)] w fun e w'=>e = .returned (.agg (lkv p.size (t.length,t.takeWhile (notQ 39))))∧Moves w g (pos p ((t.dropWhile (notQ 39)).drop 1)) w':=by
 have HR:Hid (RdAt w g p (pos p (39::t))):=hr
 have hlt:=hr.lt
 have hne:g ≠ w.heap.size:=by omega
 have hne1:g ≠ w.heap.size + 1:=by omega
 have C1:Hid (∀ W,RdAt W g p (pos p (39::t))→Calls Tryz.prog 174 #[.pointer (some ⟨g,0,none⟩),.int .u8 34] W fun e w'=>e = .returned (.bool false)∧∃ m,w' = W.drewN m):=fun W hW=>sees_suf g p (39::t) hS 34 34 rfl false rfl W hW
 have C2:Hid (∀ W,RdAt W g p (pos p (39::t))→Calls Tryz.prog 174 #[.pointer (some ⟨g,0,none⟩),.int .u8 39] W fun e w'=>e = .returned (.bool true)∧∃ m,w' = W.drewN m):=fun W hW=>sees_suf g p (39::t) hS 39 39 rfl true rfl W hW
 have CL:Hid (∀ W h,h ≠ g→W.cell? ⟨h,0,none⟩ = some (.int .u8 39)→RdAt W g p (pos p t)→Below w0.heap.size w0 W→Calls Tryz.prog 211 #[.pointer (some ⟨g,0,none⟩),.func (Fn.func 213) #[] #[.pointer (some ⟨h,0,none⟩)]] W fun e w'=>e = .returned (.agg (lkv p.size (t.length,t.takeWhile (notQ 39))))∧Moves W g (pos p (t.dropWhile (notQ 39))) w'):=fun W h hh hc h1 h2=>by
  have:=link_any w0 HE 213 #[.pointer (some ⟨h,0,none⟩)] (notQ 39) (fun W=>W.cell? ⟨h,0,none⟩ = some (.int .u8 ((39:UInt8).toNat:Int))) (fun W v t hW=>by
   have hlt:=World.block_lt_of_cell? W _ hW
   exact (((Below.refl _ _).alloc (Nat.le_refl _) _).cell (p:=⟨h,0,none⟩) hlt).trans hW) g hg p t hS.tl W h1 h2 hc (ask_val2 g h 39 hh) hp
  rw [lkC_lkv hS.tl] at this
  exact this
 have CD:Hid (∀ W,RdAt W g p (pos p (t.dropWhile (notQ 39)))→Calls Tryz.prog 75 #[.pointer (some ⟨g,0,none⟩)] W fun e w'=>e = .returned (.bool (decide (t.dropWhile (notQ 39) = [])))∧∃ m,w' = W.drewN m):=fun W hW=>done_suf g p _ (hS.tl.dw _) _ rfl W hW
 have HB:Hid (Below w0.heap.size w0 w):=hb
 have hba:Below w.heap.size w (w.alloc linkZ):=(Below.refl _ _).alloc (Nat.le_refl _) _
 have hnew:=lnew w linkZ
 have hlen:=hS.len
 have hix:∀ hk:pos p (39::t) < p.size,p[pos p (39::t)]'hk = 39:=fun hk=>by
  have h:=hS.drop
  rw [dropB p _ hk] at h
  exact (List.cons.inj h).1
 have hk:pos p (39::t) < p.size:=by unfold pos;simp only [List.length_cons] at hlen ⊢;omega
 have hp1:pos p t = pos p (39::t) + 1:=pos_plus hS (a:=[39]) rfl
 have HX:Hid (t.dropWhile (notQ 39) ≠ []→pos p ((t.dropWhile (notQ 39)).drop 1) = pos p (t.dropWhile (notQ 39)) + 1):=fun h=>by
  cases hd:t.dropWhile (notQ 39) with
  | nil=>exact absurd hd h
  | cons y r=>exact pos_plus (hd ▸ hS.tl.dw (notQ 39)) (a:=[y]) rfl
 have HX0:Hid (t.dropWhile (notQ 39) = []→pos p ((t.dropWhile (notQ 39)).drop 1) = pos p (t.dropWhile (notQ 39))):=fun h=>by rw [h];rfl
 have hmle:=pos_le p (t.dropWhile (notQ 39))
 obtain ⟨V0,V1,V2,hV⟩:∃ (V0 V1:Nat) (V2:ByteArray),lkv p.size (t.length,t.takeWhile (notQ 39)) = #[.int .i64 (V0:Int),.int .i64 (V1:Int),.string V2]:=⟨_,_,_,rfl⟩
 rw [hV] at CL
 rw [hV]
 rw [hp1] at CL
 generalize pos p ((t.dropWhile (notQ 39)).drop 1) = m2 at *
 generalize pos p (t.dropWhile (notQ 39)) = m at *
 generalize pos p (39::t) = k at *
 clear hr HE hb hS hV hp1 hlen
 generalize t.dropWhile (notQ 39) = D at *
 obtain ⟨W0,hW0⟩:∃ W,W = w.alloc linkZ:=⟨_,rfl⟩
 rw [← hW0] at hba hnew
 have hr0:=HR.out.below hba
 have hsz0:W0.heap.size = w.heap.size + 1:=by rw [hW0];simp
 have hkn:p[k]'hk = 39:=hix hk
 have hki:(k:Int) < (p.size:Int):=by omega
 have hwr:IntKind.i64.wrap ((k:Int) + 1) = ((k + 1:Nat):Int):=by rw [IntKind.wrap_i64];omega
 go_enter Tryz.func203,Tryz.ntmps203
 go_wp2_with fail
 rw [← hW0]
 clear hW0
 refine (C1.out _ hr0).mono ?_
 rintro e w1 ⟨rfl,n0,rfl⟩
 go_wp2_with fail
 refine (C2.out _ (hr0.drewN _)).mono ?_
 rintro e w1 ⟨rfl,n2,rfl⟩
 obtain ⟨n1,hn1⟩:∃ n,n = n0 + n2:=⟨_,rfl⟩
 rw [drewN_add,← hn1]
 clear hn1
 go_wp2_with fail
 have h0:=hr0.page
 have h1:=hr0.at_
 have hf1:=hr0.frozen 1
 have hr2:=hr0.drewN (n1 + 1)
 go_region
 go_wp2_with fail
 obtain ⟨W1,hW1⟩:∃ W,W = ((W0.drewN (n1 + 1)).setCell ⟨g,1,none⟩ (.int .i64 ((k:Int) + 1))).alloc (.cells #[.int .u8 39] 5):=⟨_,rfl⟩
 have M01:Moves W0 g ((k + 1:Nat):Int) W1:=by rw [hW1];exact ((((Moves.still hr0).drewN _).trans Moves.of_set hr0)).alloc _
 have hk1:=M01.kept hnew (Ne.symm hne)
 have hr1:=M01.rd hr0
 have hq1:W1.heap[w.heap.size + 1]? = some (.cells #[.int .u8 39] 5):=by
  have h:=lnew ((W0.drewN (n1 + 1)).setCell ⟨g,1,none⟩ (.int .i64 ((k:Int) + 1))) (.cells #[.int .u8 39] 5)
  rw [← hW1,set1_size,World.heap_drewN,hsz0] at h
  exact h
 have hqc:W1.cell? ⟨w.heap.size + 1,0,none⟩ = some (.int .u8 39):=by simp [World.cell?,hq1]
 have hB1:Below w0.heap.size w0 W1:=M01.base (HB.out.trans (hba.mono HB.out.size)) hg
 have M1:Hid (Moves w g ((k + 1:Nat):Int) W1):=((Moves.still HR.out).then hba).trans M01 HR.out
 rw [← hW1]
 clear hW1 M01 hr2 h0 h1 hf1 hr0 hsz0 hnew hba
 refine (CL.out _ _ (Ne.symm hne1) hqc hr1 hB1).mono ?_
 rintro e w5 ⟨rfl,hm5⟩
 have hk5:=hm5.kept hk1 (Ne.symm hne)
 have hr5:=hm5.rd hr1
 have HM:Hid (Moves w g m w5):=M1.out.trans hm5 HR.out
 have hl5:=hr5.lt
 have hn5:g ≠ w5.heap.size:=by omega
 have hz5:=lltn hk5
 have hz5':w.heap.size ≠ w5.heap.size:=by omega
 clear CL hm5 hk1 hr1 hB1 M1 hq1 hqc
 obtain ⟨W6,hW6⟩:∃ W,W = w5.alloc (.cells #[.int .i64 (V0:Int),.int .i64 (V1:Int),.string V2] 40):=⟨_,rfl⟩
 have hr6:RdAt W6 g p m:=by rw [hW6];exact hr5.below ((Below.refl _ _).alloc (Nat.le_refl _) _)
 have hk6:W6.heap[w.heap.size]? = some linkZ:=by rw [hW6];exact lkept hk5 ((Below.refl _ _).alloc (Nat.le_refl _) _)
 have hl6:W6.heap[w5.heap.size]? = some (.cells #[.int .i64 (V0:Int),.int .i64 (V1:Int),.string V2] 40):=by rw [hW6];exact lnew _ _
 have HM6:Hid (Moves w g m W6):=by unfold Hid;rw [hW6];exact HM.out.alloc _
 have HW6:Hid (W6 = _):=hW6
 clear hW6 hk5 hr5
 go_wp2_with fail
 rw [← HW6.out]
 refine (CD.out _ hr6).mono ?_
 rintro e w7 ⟨rfl,n7,rfl⟩
 have c1:=hr6.at_
 have cf1:=hr6.frozen 1
 obtain ⟨d0,d1,d2,df⟩:=lcells3 hk6
 obtain ⟨e0,e1,e2,ef⟩:=lcells3 hl6
 have hwm:IntKind.i64.wrap ((m:Int) + 1) = ((m + 1:Nat):Int):=by rw [IntKind.wrap_i64];omega
 by_cases hD:D = []
 ·rw [decide_eq_true hD]
  have hX:=HX0.out hD
  subst hX
  clear CD HX HX0 hD HM HW6 hr6 hk6 hl6
  go_wp2_with fail
  refine bodyPost_ret (v:=.agg #[.int .i64 (V0:Int),.int .i64 (V1:Int),.string V2]) ?_ rfl ⟨rfl,?_⟩
  ·rw [results_cell1 rfl]
   go_simp
  ·exact (((HM6.out.drewN _).new _ _ (Nat.le_refl _) _).new _ _ (Nat.le_refl _) _).new _ _ (Nat.le_refl _) _
 ·rw [decide_eq_false hD]
  have hX:=HX.out hD
  have M2:Hid (Moves w g ((m + 1:Nat):Int) ((W6.drewN n7).setCell ⟨g,1,none⟩ (.int .i64 ((m + 1:Nat):Int)))):=(HM6.out.drewN _).trans Moves.of_set HR.out
  subst hX
  clear CD HX HX0 hD HM HW6 hr6 hk6 hl6
  go_wp2_with fail
  refine bodyPost_ret (v:=.agg #[.int .i64 (V0:Int),.int .i64 (V1:Int),.string V2]) ?_ rfl ⟨rfl,?_⟩
  ·rw [results_cell1 rfl]
   go_simp
  ·exact ((M2.out.new _ _ (Nat.le_refl _) _).new _ _ (Nat.le_refl _) _).new _ _ (Nat.le_refl _) _
theorem value_any (w0:World) (HE:LEnv w0) (g:Nat) (hg:w0.heap.size≤g) (p:ByteArray) (s:List UInt8) (hS:Suf p s) (w:World) (hr:RdAt w g p (pos p s)) (hb:Below w0.heap.size w0 w) (hp:p.size≤4000) :
  Calls Tryz.prog 203 #[.pointer (some ⟨g,0,none⟩)] w fun e w'=>e = .returned (.agg (lkv p.size ((valP s).1.length,(valP s).2.1)))∧Moves w g (pos p (valP s).2.2) w':=by
 cases s with
 | nil=>exact value_bare w0 HE g hg p [] hS w hr hb hp rfl rfl
 | cons c t =>
  by_cases h34:c = 34
  ·subst h34;exact value_34 w0 HE g hg p t hS w hr hb hp
  ·by_cases h39:c = 39
   ·subst h39;exact value_39 w0 HE g hg p t hS w hr hb hp
   ·have hv:valP (c::t) = (c::t,(c::t).takeWhile inBare,(c::t).dropWhile inBare):=by simp only [valP];rw [if_neg (by simp [qB,h34,h39])]
    rw [hv]
    exact value_bare w0 HE g hg p (c::t) hS w hr hb hp (by simp [h34]) (by simp [h39])
theorem val_suf (s:List UInt8):(valP s).2.2 <:+ s:=by
 cases s with
 | nil=>exact List.nil_suffix
 | cons c t =>
  simp only [valP]
  split
  ·exact ((List.drop_suffix _ _).trans (List.dropWhile_suffix _)).trans (List.suffix_cons c t)
  ·exact List.dropWhile_suffix _
end Go.Proofs.YtbbfcbodhmeanaaGreatDoor



namespace Go.Proofs.YtbbfcbodhmeanaaGreatDoor
open Go.RowKit
def lowT (l:List UInt8):List UInt8:=Lib.toLowerD l
def lkO (n:Nat) (v:Option LK):Array Value:=match v with
 | none=>#[.int .i64 0,.int .i64 0,.string ⟨#[]⟩]
 | some x=>lkv n x
theorem name_ext {p:ByteArray} {c:UInt8} {t:List UInt8} (hS:Suf p (c::t)):p.extract (pos p (c::t)) (pos p (t.dropWhile inAttr)) = lba (nameP (c::t)):=by
 rw [name_cons]
 exact ext_of hS (by rw [List.cons_append,tw_dw])
set_option maxHeartbeats 8000000 in
set_option maxRecDepth 100000 in
theorem attr_no (w0:World) (HE:LEnv w0) (g:Nat) (hg:w0.heap.size≤g) (p:ByteArray) (c:UInt8) (t:List UInt8) (hS:Suf p (c::t)) (w:World) (hr:RdAt w g p (pos p (c::t))) (hb:Below w0.heap.size w0 w) (hp:p.size≤4000)
  (h61:((((t.dropWhile inAttr).dropWhile spB)).head? == some 61) = false) :
  Calls Tryz.prog 175 #[.pointer (some ⟨g,0,none⟩)] w fun e w'=>e = .returned (.tuple #[.string (lba (lowT (nameP (c::t)))),.agg (lkO p.size none),.bool false])∧Moves w g (pos p ((t.dropWhile inAttr).dropWhile spB)) w':=by
 have HR:Hid (RdAt w g p (pos p (c::t))):=hr
 have hlt:=hr.lt
 have hne:g ≠ w.heap.size:=by omega
 have S1:=hS.tl
 have S2:=S1.dw inAttr
 have S3:=S2.dw spB
 have CP1:Hid (∀ W,RdAt W g p (pos p t)→Calls Tryz.prog 170 #[.pointer (some ⟨g,0,none⟩),.func (Fn.func 201) #[] #[]] W fun e w'=>e = .returned (.string (lba (t.takeWhile inAttr)))∧Moves W g (pos p (t.dropWhile inAttr)) w'):=fun W h1=>pass_suf _ #[] inAttr (fun _=>True) g p t S1 W h1 trivial (ask_attr1 g) hp
 have CP2:Hid (∀ W,RdAt W g p (pos p (t.dropWhile inAttr))→Calls Tryz.prog 170 #[.pointer (some ⟨g,0,none⟩),.func (Fn.func 172) #[] #[]] W fun e w'=>e = .returned (.string (lba ((t.dropWhile inAttr).takeWhile spB)))∧Moves W g (pos p ((t.dropWhile inAttr).dropWhile spB)) w'):=fun W h1=>pass_suf _ #[] spB (fun _=>True) g p _ S2 W h1 trivial (ask_space g) hp
 have CS:Hid (∀ W,RdAt W g p (pos p ((t.dropWhile inAttr).dropWhile spB))→Calls Tryz.prog 174 #[.pointer (some ⟨g,0,none⟩),.int .u8 61] W fun e w'=>e = .returned (.bool false)∧∃ m,w' = W.drewN m):=fun W hW=>sees_suf g p _ S3 61 61 rfl false h61 W hW
 have hnl:(nameP (c::t)).length≤4000:=by
  rw [name_cons,List.length_cons]
  have:=(List.takeWhile_prefix (l:=t) inAttr).length_le
  have:=hS.len
  simp only [List.length_cons] at this
  omega
 have CT:Hid (∀ W,Below w0.heap.size w0 W→Calls Tryz.prog 202 #[.string (lba (nameP (c::t)))] W fun e w'=>e = .returned (.string (lba (lowT (nameP (c::t)))))∧Below W.heap.size W w'):=fun W hW=>Tryz.strings_ToLower_any (lba (nameP (c::t))) W (by rw [lba_size];omega) (HE W hW).cv (HE W hW).u8
 have HB:Hid (Below w0.heap.size w0 w):=hb
 have hx:=name_ext hS
 have hk1:pos p t = pos p (c::t) + 1:=pos_plus hS (a:=[c]) rfl
 have hk2:pos p (c::t)≤pos p (t.dropWhile inAttr):=by
  have h1:=pos_plus S1 (tw_dw inAttr t)
  omega
 have hk3:=pos_le p (t.dropWhile inAttr)
 have hba:Below w.heap.size w (w.alloc linkZ):=(Below.refl _ _).alloc (Nat.le_refl _) _
 have hnew:=lnew w linkZ
 rw [hk1] at CP1
 unfold lkO
 generalize lba (lowT (nameP (c::t))) = NL at *
 generalize lba (nameP (c::t)) = NM at *
 generalize pos p ((t.dropWhile inAttr).dropWhile spB) = m3 at *
 generalize pos p (t.dropWhile inAttr) = m2 at *
 generalize pos p (c::t) = k at *
 have hki:(k:Int)≤(m2:Int):=by omega
 have hkj:(m2:Int)≤(p.size:Int):=by omega
 have hwr:IntKind.i64.wrap ((k:Int) + 1) = ((k + 1:Nat):Int):=by rw [IntKind.wrap_i64];omega
 clear hr HE hb hS S1 S2 S3 h61 hnl hk1
 have h1:=HR.out.at_
 have hf:=HR.out.frozen 1
 go_enter Tryz.func175,Tryz.ntmps175
 go_wp2_with fail
 obtain ⟨W1,hW1⟩:∃ W,W = (w.setCell ⟨g,1,none⟩ (.int .i64 ((k:Int) + 1))).alloc linkZ:=⟨_,rfl⟩
 have M1:Moves w g ((k + 1:Nat):Int) W1:=by rw [hW1];exact Moves.of_set.alloc _
 have hr1:=M1.rd HR.out
 have hz1:W1.heap[w.heap.size]? = some linkZ:=by
  have h:=lnew (w.setCell ⟨g,1,none⟩ (.int .i64 ((k:Int) + 1))) linkZ
  rw [← hW1,set1_size] at h
  exact h
 rw [← hW1]
 clear hW1 h1 hf hba hnew
 refine (CP1.out _ hr1).mono ?_
 rintro e w2 ⟨rfl,hm2⟩
 have M2:Hid (Moves w g m2 w2):=M1.trans hm2 HR.out
 have hr2:=hm2.rd hr1
 have hz2:=hm2.kept hz1 (Ne.symm hne)
 have hB2:Below w0.heap.size w0 w2:=M2.out.base HB.out hg
 clear CP1 hm2 M1 hr1 hz1
 have hS0:∀ w',Below w2.heap.size w2 w'→w'.cell? ⟨g,0,none⟩ = some (.string p):=fun w' h=>(hr2.below h).page
 have hS1:∀ w',Below w2.heap.size w2 w'→w'.cell? ⟨g,1,none⟩ = some (.int .i64 (m2:Int)):=fun w' h=>(hr2.below h).at_
 have h22:Below w2.heap.size w2 w2:=Below.refl _ _
 have hc0:=hr2.page
 have hc1:=hr2.at_
 go_wp2_with fail
 go_region_held3 (fun w'=>Below w2.heap.size w2 w') (first | assumption | exact h22.drew) (first
  | (go_at_call 202;refine (CT.out _ (hB2.trans ((h22.drew).mono hB2.size))).mono ?_;rintro e w3 ⟨rfl,hb3⟩;have hbL:Below w2.heap.size w2 w3:=(h22.drew).trans hb3))
 have M3:Hid (Moves w g m2 w3):=M2.out.then hbL
 have hr3:=hr2.below hbL
 have hz3:=lkept hz2 hbL
 clear M2 hr2 hz2 hB2 hS0 hS1 h22 hc0 hc1 hb3 hbL CT
 go_wp2_with fail
 refine (CP2.out _ hr3).mono ?_
 rintro e w4 ⟨rfl,hm4⟩
 have M4:Hid (Moves w g m3 w4):=M3.out.trans hm4 HR.out
 have hr4:=hm4.rd hr3
 have hz4:=hm4.kept hz3 (Ne.symm hne)
 clear CP2 hm4 M3 hr3 hz3
 go_wp2_with fail
 refine (CS.out _ hr4).mono ?_
 rintro e w5 ⟨rfl,n5,rfl⟩
 obtain ⟨d0,d1,d2,df⟩:=lcells3 hz4
 clear CS
 go_wp2_with fail
 refine bodyPost_ret (v:=.tuple #[.string NL,.agg #[.int .i64 0,.int .i64 0,.string ⟨#[]⟩],.bool false]) ?_ rfl ⟨rfl,?_⟩
 ·rw [results_tct rfl]
  go_simp
 ·exact (((M4.out.drewN _).new _ _ (Nat.le_refl _) _).new _ _ (Nat.le_refl _) _).new _ _ (Nat.le_refl _) _
set_option maxHeartbeats 8000000 in
set_option maxRecDepth 100000 in
theorem attr_yes (w0:World) (HE:LEnv w0) (g:Nat) (hg:w0.heap.size≤g) (p:ByteArray) (c:UInt8) (t:List UInt8) (hS:Suf p (c::t)) (w:World) (hr:RdAt w g p (pos p (c::t))) (hb:Below w0.heap.size w0 w) (hp:p.size≤4000)
  (u:List UInt8) (hu:(t.dropWhile inAttr).dropWhile spB = 61::u) :
  Calls Tryz.prog 175 #[.pointer (some ⟨g,0,none⟩)] w fun e w'=>e = .returned (.tuple #[.string (lba (lowT (nameP (c::t)))),.agg (lkv p.size ((valP (u.dropWhile spB)).1.length,(valP (u.dropWhile spB)).2.1)),.bool true])∧Moves w g (pos p (valP (u.dropWhile spB)).2.2) w':=by
 have HR:Hid (RdAt w g p (pos p (c::t))):=hr
 have hlt:=hr.lt
 have hne:g ≠ w.heap.size:=by omega
 have S1:=hS.tl
 have S2:=S1.dw inAttr
 have S3:=S2.dw spB
 rw [hu] at S3
 have S4:=S3.tl
 have S5:=S4.dw spB
 have CP1:Hid (∀ W,RdAt W g p (pos p t)→Calls Tryz.prog 170 #[.pointer (some ⟨g,0,none⟩),.func (Fn.func 201) #[] #[]] W fun e w'=>e = .returned (.string (lba (t.takeWhile inAttr)))∧Moves W g (pos p (t.dropWhile inAttr)) w'):=fun W h1=>pass_suf _ #[] inAttr (fun _=>True) g p t S1 W h1 trivial (ask_attr1 g) hp
 have CP2:Hid (∀ W,RdAt W g p (pos p (t.dropWhile inAttr))→Calls Tryz.prog 170 #[.pointer (some ⟨g,0,none⟩),.func (Fn.func 172) #[] #[]] W fun e w'=>e = .returned (.string (lba ((t.dropWhile inAttr).takeWhile spB)))∧Moves W g (pos p (61::u)) w'):=fun W h1=>by
  have:=pass_suf _ #[] spB (fun _=>True) g p _ S2 W h1 trivial (ask_space g) hp
  rw [hu] at this
  exact this
 have CS:Hid (∀ W,RdAt W g p (pos p (61::u))→Calls Tryz.prog 174 #[.pointer (some ⟨g,0,none⟩),.int .u8 61] W fun e w'=>e = .returned (.bool true)∧∃ m,w' = W.drewN m):=fun W hW=>sees_suf g p _ S3 61 61 rfl true rfl W hW
 have CP3:Hid (∀ W,RdAt W g p (pos p u)→Calls Tryz.prog 170 #[.pointer (some ⟨g,0,none⟩),.func (Fn.func 172) #[] #[]] W fun e w'=>e = .returned (.string (lba (u.takeWhile spB)))∧Moves W g (pos p (u.dropWhile spB)) w'):=fun W h1=>pass_suf _ #[] spB (fun _=>True) g p _ S4 W h1 trivial (ask_space g) hp
 have CV:Hid (∀ W,RdAt W g p (pos p (u.dropWhile spB))→Below w0.heap.size w0 W→Calls Tryz.prog 203 #[.pointer (some ⟨g,0,none⟩)] W fun e w'=>e = .returned (.agg (lkv p.size ((valP (u.dropWhile spB)).1.length,(valP (u.dropWhile spB)).2.1)))∧Moves W g (pos p (valP (u.dropWhile spB)).2.2) w'):=fun W h1 h2=>value_any w0 HE g hg p _ S5 W h1 h2 hp
 have hnl:(nameP (c::t)).length≤4000:=by
  rw [name_cons,List.length_cons]
  have:=(List.takeWhile_prefix (l:=t) inAttr).length_le
  have:=hS.len
  simp only [List.length_cons] at this
  omega
 have CT:Hid (∀ W,Below w0.heap.size w0 W→Calls Tryz.prog 202 #[.string (lba (nameP (c::t)))] W fun e w'=>e = .returned (.string (lba (lowT (nameP (c::t)))))∧Below W.heap.size W w'):=fun W hW=>Tryz.strings_ToLower_any (lba (nameP (c::t))) W (by rw [lba_size];omega) (HE W hW).cv (HE W hW).u8
 have HB:Hid (Below w0.heap.size w0 w):=hb
 have hx:=name_ext hS
 have hk1:pos p t = pos p (c::t) + 1:=pos_plus hS (a:=[c]) rfl
 have hk2:pos p (c::t)≤pos p (t.dropWhile inAttr):=by
  have h1:=pos_plus S1 (tw_dw inAttr t)
  omega
 have hk3:=pos_le p (t.dropWhile inAttr)
 have hba:Below w.heap.size w (w.alloc linkZ):=(Below.refl _ _).alloc (Nat.le_refl _) _
 have hnew:=lnew w linkZ
 rw [hk1] at CP1
 have hk5:pos p u = pos p (61::u) + 1:=pos_plus S3 (a:=[61]) rfl
 have hk6:=pos_le p (61::u)
 rw [hk5] at CP3
 obtain ⟨V0,V1,V2,hV⟩:∃ (V0 V1:Nat) (V2:ByteArray),lkv p.size ((valP (u.dropWhile spB)).1.length,(valP (u.dropWhile spB)).2.1) = #[.int .i64 (V0:Int),.int .i64 (V1:Int),.string V2]:=⟨_,_,_,rfl⟩
 rw [hV] at CV
 rw [hV]
 generalize pos p (valP (u.dropWhile spB)).2.2 = m6 at *
 generalize pos p (u.dropWhile spB) = m5 at *
 generalize pos p (61::u) = m3 at *
 generalize lba (lowT (nameP (c::t))) = NL at *
 generalize lba (nameP (c::t)) = NM at *
 generalize pos p (t.dropWhile inAttr) = m2 at *
 generalize pos p (c::t) = k at *
 have hki:(k:Int)≤(m2:Int):=by omega
 have hkj:(m2:Int)≤(p.size:Int):=by omega
 have hwr:IntKind.i64.wrap ((k:Int) + 1) = ((k + 1:Nat):Int):=by rw [IntKind.wrap_i64];omega
 have hwr3:IntKind.i64.wrap ((m3:Int) + 1) = ((m3 + 1:Nat):Int):=by rw [IntKind.wrap_i64];omega
 clear hr HE hb hS S1 S2 S3 S4 S5 hu hnl hk1 hk5 hV
 have h1:=HR.out.at_
 have hf:=HR.out.frozen 1
 go_enter Tryz.func175,Tryz.ntmps175
 go_wp2_with fail
 obtain ⟨W1,hW1⟩:∃ W,W = (w.setCell ⟨g,1,none⟩ (.int .i64 ((k:Int) + 1))).alloc linkZ:=⟨_,rfl⟩
 have M1:Moves w g ((k + 1:Nat):Int) W1:=by rw [hW1];exact Moves.of_set.alloc _
 have hr1:=M1.rd HR.out
 have hz1:W1.heap[w.heap.size]? = some linkZ:=by
  have h:=lnew (w.setCell ⟨g,1,none⟩ (.int .i64 ((k:Int) + 1))) linkZ
  rw [← hW1,set1_size] at h
  exact h
 rw [← hW1]
 clear hW1 h1 hf hba hnew
 refine (CP1.out _ hr1).mono ?_
 rintro e w2 ⟨rfl,hm2⟩
 have M2:Hid (Moves w g m2 w2):=M1.trans hm2 HR.out
 have hr2:=hm2.rd hr1
 have hz2:=hm2.kept hz1 (Ne.symm hne)
 have hB2:Below w0.heap.size w0 w2:=M2.out.base HB.out hg
 clear CP1 hm2 M1 hr1 hz1
 have hS0:∀ w',Below w2.heap.size w2 w'→w'.cell? ⟨g,0,none⟩ = some (.string p):=fun w' h=>(hr2.below h).page
 have hS1:∀ w',Below w2.heap.size w2 w'→w'.cell? ⟨g,1,none⟩ = some (.int .i64 (m2:Int)):=fun w' h=>(hr2.below h).at_
 have h22:Below w2.heap.size w2 w2:=Below.refl _ _
 have hc0:=hr2.page
 have hc1:=hr2.at_
 go_wp2_with fail
 go_region_held3 (fun w'=>Below w2.heap.size w2 w') (first | assumption | exact h22.drew) (first
  | (go_at_call 202;refine (CT.out _ (hB2.trans ((h22.drew).mono hB2.size))).mono ?_;rintro e w3 ⟨rfl,hb3⟩;have hbL:Below w2.heap.size w2 w3:=(h22.drew).trans hb3))
 have M3:Hid (Moves w g m2 w3):=M2.out.then hbL
 have hr3:=hr2.below hbL
 have hz3:=lkept hz2 hbL
 clear M2 hr2 hz2 hB2 hS0 hS1 h22 hc0 hc1 hb3 hbL CT
 go_wp2_with fail
 refine (CP2.out _ hr3).mono ?_
 rintro e w4 ⟨rfl,hm4⟩
 have M4:Hid (Moves w g m3 w4):=M3.out.trans hm4 HR.out
 have hr4:=hm4.rd hr3
 have hz4:=hm4.kept hz3 (Ne.symm hne)
 clear CP2 hm4 M3 hr3 hz3
 go_wp2_with fail
 refine (CS.out _ hr4).mono ?_
 rintro e w5 ⟨rfl,n5,rfl⟩
 have h1:=hr4.at_
 have hf:=hr4.frozen 1
 clear CS
 go_wp2_with fail
 obtain ⟨W5,hW5⟩:∃ W,W = (w4.drewN n5).setCell ⟨g,1,none⟩ (.int .i64 ((m3:Int) + 1)):=⟨_,rfl⟩
 have M45:Moves w4 g ((m3 + 1:Nat):Int) W5:=by rw [hW5];exact ((Moves.still hr4).drewN _).trans Moves.of_set hr4
 have hr5:=M45.rd hr4
 have hz5:=M45.kept hz4 (Ne.symm hne)
 have M5:Hid (Moves w g ((m3 + 1:Nat):Int) W5):=M4.out.trans M45 HR.out
 rw [← hW5]
 clear hW5 M45 M4 h1 hf hr4 hz4
 refine (CP3.out _ hr5).mono ?_
 rintro e w6 ⟨rfl,hm6⟩
 have M6:Hid (Moves w g m5 w6):=M5.out.trans hm6 HR.out
 have hr6:=hm6.rd hr5
 have hz6:=hm6.kept hz5 (Ne.symm hne)
 have hB6:Below w0.heap.size w0 w6:=M6.out.base HB.out hg
 clear CP3 hm6 M5 hr5 hz5
 go_wp2_with fail
 refine (CV.out _ hr6 hB6).mono ?_
 rintro e w7 ⟨rfl,hm7⟩
 have M7:Hid (Moves w g m6 w7):=M6.out.trans hm7 HR.out
 have hz7:=hm7.kept hz6 (Ne.symm hne)
 obtain ⟨d0,d1,d2,df⟩:=lcells3 hz7
 clear CV hm7 M6 hr6 hz6 hB6 hz7
 go_wp2_with fail
 refine bodyPost_ret (v:=.tuple #[.string NL,.agg #[.int .i64 (V0:Int),.int .i64 (V1:Int),.string V2],.bool true]) ?_ rfl ⟨rfl,?_⟩
 ·rw [results_tct rfl]
  go_simp
 ·exact ((M7.out.new _ _ (Nat.le_refl _) _).new _ _ (Nat.le_refl _) _).new _ _ (Nat.le_refl _) _
theorem attr_any (w0:World) (HE:LEnv w0) (g:Nat) (hg:w0.heap.size≤g) (p:ByteArray) (c:UInt8) (t:List UInt8) (hS:Suf p (c::t)) (w:World) (hr:RdAt w g p (pos p (c::t))) (hb:Below w0.heap.size w0 w) (hp:p.size≤4000) :
  Calls Tryz.prog 175 #[.pointer (some ⟨g,0,none⟩)] w fun e w'=>e = .returned (.tuple #[.string (lba (lowT (nameP (c::t)))),.agg (lkO p.size (attrP (c::t)).1),.bool (attrP (c::t)).1.isSome])∧Moves w g (pos p (attrP (c::t)).2) w':=by
 rw [attr_cons]
 cases hd:(t.dropWhile inAttr).dropWhile spB with
 | nil =>
  have:=attr_no w0 HE g hg p c t hS w hr hb hp (by rw [hd];rfl)
  rw [hd] at this
  exact this
 | cons d u =>
  by_cases h61:d = 61
  ·subst h61
   have:=attr_yes w0 HE g hg p c t hS w hr hb hp u hd
   exact this
  ·have:=attr_no w0 HE g hg p c t hS w hr hb hp (by rw [hd];simp [h61])
   rw [hd] at this
   have e:behP (d::u) = (none,d::u):=by simp only [behP];rw [if_neg h61]
   rw [e]
   exact this
theorem beh_suf (s:List UInt8):(behP s).2 <:+ s:=by
 cases s with
 | nil=>exact List.nil_suffix
 | cons c t =>
  simp only [behP]
  split
  ·exact ((val_suf _).trans (List.dropWhile_suffix _)).trans (List.suffix_cons c t)
  ·exact List.suffix_refl _
theorem attr_suf (s:List UInt8):(attrP s).2 <:+ s:=(((beh_suf _).trans (List.dropWhile_suffix _)).trans (List.dropWhile_suffix _)).trans (List.drop_suffix 1 s)
end Go.Proofs.YtbbfcbodhmeanaaGreatDoor

