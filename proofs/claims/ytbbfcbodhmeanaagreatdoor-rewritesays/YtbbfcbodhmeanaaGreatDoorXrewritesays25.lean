
import Derived.Test.YtbbfcbodhmeanaaGreatDoorXrewritesays24
namespace Go.Proofs.YtbbfcbodhmeanaaGreatDoor
open Go.RowKit
theorem results_one {fn:Func} {p:Tmp} {ty:TypeId} (h:fn.results = #[.cell p ty]) (tmps:Array Value) (P:Program) (w:World) :
  (results fn tmps).run P w = ((asAddr (tmps.getD p undef)).run P w).andThen fun a w₁=>(loadVar ty a).run P w₁:=by
 simp only [results,h]
 simp [Sem.run_bind,Result.andThen]
theorem three_new (w:World) (t:TypeId) (a b c:Array Value):(((w.alloc (.cells a t)).alloc (.cells b t)).alloc (.cells c t)).drew.heap[w.heap.size]? = some (.cells a t)∧(((w.alloc (.cells a t)).alloc (.cells b t)).alloc (.cells c t)).drew.heap[w.heap.size + 1]? = some (.cells b t)∧(((w.alloc (.cells a t)).alloc (.cells b t)).alloc (.cells c t)).drew.heap[w.heap.size + 1 + 1]? = some (.cells c t):=by
 have e:(((w.alloc (.cells a t)).alloc (.cells b t)).alloc (.cells c t)).drew.heap = ((w.heap.push (.cells a t)).push (.cells b t)).push (.cells c t):=rfl
 rw [e]
 refine ⟨?_,?_,?_⟩
 ·rw [Array.getElem?_push,if_neg (by simp;omega),Array.getElem?_push,if_neg (by simp),Array.getElem?_push,if_pos rfl]
 ·rw [Array.getElem?_push,if_neg (by simp),Array.getElem?_push,if_pos (by simp)]
 ·rw [Array.getElem?_push,if_pos (by simp)]
theorem lastIdx_dir (s:ByteArray):∀ k:Nat,k≤s.size→(Lib.lastIdx s 47 k + 1).toNat≤k∧-1≤Lib.lastIdx s 47 k∧dirP (s.data.toList.take k) = s.data.toList.take (Lib.lastIdx s 47 k + 1).toNat:=by
 intro k hk
 have hlen:s.data.toList.length = s.size:=(Lib.size_eq s).symm
 have hget:∀ j,(hj:j < s.size)→s.data[j]! = s.data.toList[j]'(by omega):=fun j hj=>by
  rw [getElem!_pos s.data j hj];rfl
 have hne:∀ c:UInt8,((c.toNat:Int) ≠ 47)→(!(c == 47)) = true:=fun c h=>by
  rw [Bool.not_eq_true',beq_eq_false_iff_ne]
  rintro rfl
  exact h rfl
 have drop_all:∀ l:List UInt8,(∀ c ∈ l,(!(c == 47)) = true)→l.dropWhile (fun c=>!(c == 47)) = []:=fun l h=>by
  induction l with
  | nil=>rfl
  | cons a l ih=>rw [List.dropWhile_cons,if_pos (h a (by simp)),ih (fun c hc=>h c (by simp [hc]))]
 rcases Lib.lastIdx_spec s 47 k with ⟨e,h⟩ | ⟨i,hi,e,h1,h2⟩
 ·rw [e]
  refine ⟨by simp,by omega,?_⟩
  unfold dirP
  rw [drop_all _ (fun c hc=>by
   rw [List.mem_reverse] at hc
   obtain ⟨j,hj,rfl⟩:=List.getElem_of_mem hc
   rw [List.length_take] at hj
   rw [List.getElem_take]
   have:=h j (by omega)
   rw [hget j (by omega)] at this
   exact hne _ this)]
  simp
 ·rw [e]
  refine ⟨by omega,by omega,?_⟩
  have e1:((i:Int) + 1).toNat = i + 1:=by omega
  rw [e1]
  have hi2:i < s.data.toList.length:=by omega
  have split:s.data.toList.take k = s.data.toList.take (i + 1) ++ (s.data.toList.take k).drop (i + 1):=by
   conv=>lhs;rw [← List.take_append_drop (i + 1) (s.data.toList.take k)]
   rw [List.take_take,Nat.min_eq_left (by omega)]
  unfold dirP
  rw [split,List.reverse_append]
  have hA:((s.data.toList.take k).drop (i + 1)).reverse.dropWhile (fun c=>!(c == 47)) = []:=drop_all _ (fun c hc=>by
   rw [List.mem_reverse] at hc
   obtain ⟨j,hj,rfl⟩:=List.getElem_of_mem hc
   rw [List.length_drop,List.length_take] at hj
   rw [List.getElem_drop,List.getElem_take]
   have:=h2 (i + 1 + j) (by omega) (by omega)
   rw [hget (i + 1 + j) (by omega)] at this
   exact hne _ this)
  rw [List.dropWhile_append,hA]
  rw [if_pos (by rfl)]
  have hl:s.data.toList.take (i + 1) = s.data.toList.take i ++ [47]:=by
   rw [List.take_add_one,List.getElem?_eq_getElem hi2]
   have h3:=h1
   rw [hget i (by omega)] at h3
   have:s.data.toList[i] = 47:=by rw [← UInt8.toNat_inj];show _ = 47;omega
   rw [this];rfl
  rw [hl,List.reverse_append]
  show ((47::(s.data.toList.take i).reverse).dropWhile (fun c=>!(c == 47))).reverse = _
  rw [List.dropWhile_cons,if_neg (by simp)]
  simp
theorem last_dir (s:ByteArray):(Lib.lastIndexByte s 47 + 1).toNat≤s.size∧-1≤Lib.lastIndexByte s 47∧dirP s.data.toList = s.data.toList.take (Lib.lastIndexByte s 47 + 1).toNat:=by
 have:=lastIdx_dir s s.size (Nat.le_refl _)
 rw [Lib.size_eq,List.take_length,← Lib.size_eq] at this
 exact this
set_option maxHeartbeats 2000000 in
set_option maxRecDepth 100000 in
theorem comp_H (bs bh bp bq bf us uh up uq uf:ByteArray) (bhh bhq bhf uhq uhf:Bool) (w:World) :
  Calls Tryz.prog 95 #[.agg #[.string bs,.bool bhh,.string bh,.string bp,.bool bhq,.string bq,.bool bhf,.string bf],.agg #[.string us,.bool true,.string uh,.string up,.bool uhq,.string uq,.bool uhf,.string uf]] w fun e w'=>e = .returned (.agg #[.string bs,.bool true,.string uh,.string up,.bool uhq,.string uq,.bool uhf,.string uf])∧Below w.heap.size w w':=by
 go_enter Tryz.func95,Tryz.ntmps95
 go_wp2
 refine bodyPost_ret (v:=.agg #[.string bs,.bool true,.string uh,.string up,.bool uhq,.string uq,.bool uhf,.string uf]) ?_ rfl ⟨rfl,?_⟩
 ·rw [results_one rfl]
  go_simp
 ·repeat (first | refine Below.drew ?_ | refine Below.setCell ?_ (by simp;try omega) _ | refine Below.alloc ?_ (by simp;try omega) _ | exact Below.refl _ _)
set_option maxHeartbeats 2000000 in
set_option maxRecDepth 100000 in
theorem comp_E1 (bs bh bp bq bf us uh uq uf:ByteArray) (bhh bhq bhf uhf:Bool) (w:World) :
  Calls Tryz.prog 95 #[.agg #[.string bs,.bool bhh,.string bh,.string bp,.bool bhq,.string bq,.bool bhf,.string bf],.agg #[.string us,.bool false,.string uh,.string ⟨#[]⟩,.bool true,.string uq,.bool uhf,.string uf]] w fun e w'=>e = .returned (.agg #[.string bs,.bool bhh,.string bh,.string bp,.bool true,.string uq,.bool uhf,.string uf])∧Below w.heap.size w w':=by
 go_enter Tryz.func95,Tryz.ntmps95
 go_wp2
 go_region
 go_wp2
 refine bodyPost_ret (v:=.agg #[.string bs,.bool bhh,.string bh,.string bp,.bool true,.string uq,.bool uhf,.string uf]) ?_ rfl ⟨rfl,?_⟩
 ·rw [results_one rfl]
  go_simp
 ·repeat (first | refine Below.drew ?_ | refine Below.setCell ?_ (by simp;try omega) _ | refine Below.alloc ?_ (by simp;try omega) _ | exact Below.refl _ _)
set_option maxHeartbeats 2000000 in
set_option maxRecDepth 100000 in
theorem comp_E2 (bs bh bp bq bf us uh uq uf:ByteArray) (bhh bhq bhf uhf:Bool) (w:World) :
  Calls Tryz.prog 95 #[.agg #[.string bs,.bool bhh,.string bh,.string bp,.bool bhq,.string bq,.bool bhf,.string bf],.agg #[.string us,.bool false,.string uh,.string ⟨#[]⟩,.bool false,.string uq,.bool uhf,.string uf]] w fun e w'=>e = .returned (.agg #[.string bs,.bool bhh,.string bh,.string bp,.bool bhq,.string bq,.bool uhf,.string uf])∧Below w.heap.size w w':=by
 go_enter Tryz.func95,Tryz.ntmps95
 go_wp2
 go_region
 go_wp2
 go_region
 go_wp2
 refine bodyPost_ret (v:=.agg #[.string bs,.bool bhh,.string bh,.string bp,.bool bhq,.string bq,.bool uhf,.string uf]) ?_ rfl ⟨rfl,?_⟩
 ·rw [results_one rfl]
  go_simp
 ·repeat (first | refine Below.drew ?_ | refine Below.setCell ?_ (by simp;try omega) _ | refine Below.alloc ?_ (by simp;try omega) _ | exact Below.refl _ _)
set_option maxHeartbeats 2000000 in
set_option maxRecDepth 100000 in
theorem comp_S (bs bh bp bq bf us uh up uq uf:ByteArray) (bhh bhq bhf uhq uhf:Bool) (he:up.toList.isEmpty = false) (h0:0 < up.size) (h1:((up[0].toNat:Int) == 47) = true) (w:World) :
  Calls Tryz.prog 95 #[.agg #[.string bs,.bool bhh,.string bh,.string bp,.bool bhq,.string bq,.bool bhf,.string bf],.agg #[.string us,.bool false,.string uh,.string up,.bool uhq,.string uq,.bool uhf,.string uf]] w fun e w'=>e = .returned (.agg #[.string bs,.bool bhh,.string bh,.string up,.bool uhq,.string uq,.bool uhf,.string uf])∧Below w.heap.size w w':=by
 have h0i:(0:Int) < (up.size:Int):=by omega
 go_enter Tryz.func95,Tryz.ntmps95
 go_wp2
 go_region
 go_wp2
 refine bodyPost_ret (v:=.agg #[.string bs,.bool bhh,.string bh,.string up,.bool uhq,.string uq,.bool uhf,.string uf]) ?_ rfl ⟨rfl,?_⟩
 ·rw [results_one rfl]
  go_simp
 ·repeat (first | refine Below.drew ?_ | refine Below.setCell ?_ (by simp;try omega) _ | refine Below.alloc ?_ (by simp;try omega) _ | exact Below.refl _ _)
set_option maxHeartbeats 2000000 in
set_option maxRecDepth 100000 in
theorem comp_B (bs bh bq bf us uh up uq uf:ByteArray) (bhq bhf uhq uhf:Bool) (he:up.toList.isEmpty = false) (h0:0 < up.size) (h1:((up[0].toNat:Int) == 47) = false) (hs:up.size≤1000) (w:World) :
  Calls Tryz.prog 95 #[.agg #[.string bs,.bool true,.string bh,.string ⟨#[]⟩,.bool bhq,.string bq,.bool bhf,.string bf],.agg #[.string us,.bool false,.string uh,.string up,.bool uhq,.string uq,.bool uhf,.string uf]] w fun e w'=>e = .returned (.agg #[.string bs,.bool true,.string bh,.string (⟨#[47]⟩ ++ up),.bool uhq,.string uq,.bool uhf,.string uf])∧Below w.heap.size w w':=by
 have h0i:(0:Int) < (up.size:Int):=by omega
 go_enter Tryz.func95,Tryz.ntmps95
 go_wp2
 go_region
 go_wp2
 refine bodyPost_ret (v:=.agg #[.string bs,.bool true,.string bh,.string (⟨#[47]⟩ ++ up),.bool uhq,.string uq,.bool uhf,.string uf]) ?_ rfl ⟨rfl,?_⟩
 ·rw [results_one rfl]
  go_simp
 ·repeat (first | refine Below.drew ?_ | refine Below.setCell ?_ (by simp;try omega) _ | refine Below.alloc ?_ (by simp;try omega) _ | exact Below.refl _ _)
set_option maxHeartbeats 2000000 in
set_option maxRecDepth 100000 in
theorem comp_R1 (bs bh bp bq bf us uh up uq uf:ByteArray) (bhq bhf uhq uhf:Bool) (he:up.toList.isEmpty = false) (h0:0 < up.size) (h1:((up[0].toNat:Int) == 47) = false) (hs:up.size≤1000) (hbs:bp.size≤1000) (k:Int) (k1:Nat) (hk:k + 1 = (k1:Int)) (hk2:k1≤bp.size) (DR:ByteArray) (hD:bp.extract 0 k1 = DR) (hDs:DR.size≤1000) (hbe:bp.toList.isEmpty = false) (CI:Hid (∀ W,Calls Tryz.prog 147 #[.string bp,.int .u8 47] W fun e w'=>e = .returned (.int .i64 k)∧w' = W)) (w:World) :
  Calls Tryz.prog 95 #[.agg #[.string bs,.bool true,.string bh,.string bp,.bool bhq,.string bq,.bool bhf,.string bf],.agg #[.string us,.bool false,.string uh,.string up,.bool uhq,.string uq,.bool uhf,.string uf]] w fun e w'=>e = .returned (.agg #[.string bs,.bool true,.string bh,.string (DR ++ up),.bool uhq,.string uq,.bool uhf,.string uf])∧Below w.heap.size w w':=by
 have h0i:(0:Int) < (up.size:Int):=by omega
 have hki:(k1:Int)≤(bp.size:Int):=by omega
 have hkw:IntKind.i64.wrap (k1:Int) = (k1:Int):=wrap_small _ (by omega) (by omega)
 have hcat:¬ 9223372036854775807 < DR.size + up.size:=by omega
 go_enter Tryz.func95,Tryz.ntmps95
 go_wp2
 go_region
 go_wp2_with fail
 go_region_with (go_at_call 147;refine (CI.out _).mono ?_;rintro e w4 ⟨rfl,hw4⟩;have hw5:=hw4.symm;subst hw5)
 all_goals (
  go_wp2
  refine bodyPost_ret (v:=.agg #[.string bs,.bool true,.string bh,.string (DR ++ up),.bool uhq,.string uq,.bool uhf,.string uf]) ?_ rfl ⟨rfl,?_⟩
  ·rw [results_one rfl]
   go_simp
  ·repeat (first | refine Below.drew ?_ | refine Below.setCell ?_ (by simp;try omega) _ | refine Below.alloc ?_ (by simp;try omega) _ | exact Below.refl _ _))
set_option maxHeartbeats 2000000 in
set_option maxRecDepth 100000 in
theorem comp_R0 (bs bh bp bq bf us uh up uq uf:ByteArray) (bhq bhf uhq uhf:Bool) (he:up.toList.isEmpty = false) (h0:0 < up.size) (h1:((up[0].toNat:Int) == 47) = false) (hs:up.size≤1000) (hbs:bp.size≤1000) (k:Int) (k1:Nat) (hk:k + 1 = (k1:Int)) (hk2:k1≤bp.size) (DR:ByteArray) (hD:bp.extract 0 k1 = DR) (hDs:DR.size≤1000) (CI:Hid (∀ W,Calls Tryz.prog 147 #[.string bp,.int .u8 47] W fun e w'=>e = .returned (.int .i64 k)∧w' = W)) (w:World) :
  Calls Tryz.prog 95 #[.agg #[.string bs,.bool false,.string bh,.string bp,.bool bhq,.string bq,.bool bhf,.string bf],.agg #[.string us,.bool false,.string uh,.string up,.bool uhq,.string uq,.bool uhf,.string uf]] w fun e w'=>e = .returned (.agg #[.string bs,.bool false,.string bh,.string (DR ++ up),.bool uhq,.string uq,.bool uhf,.string uf])∧Below w.heap.size w w':=by
 have h0i:(0:Int) < (up.size:Int):=by omega
 have hki:(k1:Int)≤(bp.size:Int):=by omega
 have hkw:IntKind.i64.wrap (k1:Int) = (k1:Int):=wrap_small _ (by omega) (by omega)
 have hcat:¬ 9223372036854775807 < DR.size + up.size:=by omega
 go_enter Tryz.func95,Tryz.ntmps95
 go_wp2
 go_region
 go_wp2_with fail
 go_region_with (go_at_call 147;refine (CI.out _).mono ?_;rintro e w4 ⟨rfl,hw4⟩;have hw5:=hw4.symm;subst hw5)
 all_goals (
  go_wp2
  refine bodyPost_ret (v:=.agg #[.string bs,.bool false,.string bh,.string (DR ++ up),.bool uhq,.string uq,.bool uhf,.string uf]) ?_ rfl ⟨rfl,?_⟩
  ·rw [results_one rfl]
   go_simp
  ·repeat (first | refine Below.drew ?_ | refine Below.setCell ?_ (by simp;try omega) _ | refine Below.alloc ?_ (by simp;try omega) _ | exact Below.refl _ _))
end Go.Proofs.YtbbfcbodhmeanaaGreatDoor

