/- Proved parts: Lr. Conditions: each theorem's own. -/
import Derived.Test.YtoljhoabbaigdaaGreatM0
import Derived.Test.YtoljhoabbaigdaaGreatM2
import Derived.Test.YtoljhoabbaigdaaGreatProg
import Derived.Deep.QuietTactic
import Derived.BigQuiet
import Derived.KernelRfl
import Derived.Test.YtoljhoabbaigdaaGreatQ2
set_option maxRecDepth 100000
set_option maxHeartbeats 8000000
namespace Go.Proofs.YtoljhoabbaigdaaGreat
open Go.RowKit

theorem lright (A:Option Addr) (c:Nat) (zs:List Int) (w:World) (h:Sl w A zs) (hm:zs.length<=maxLen) :
  Calls Tryz.prog 115 #[.slice A zs.length c] w fun e w'=>e=.returned (.bool (La.right zs))∧w=w':=by
 unfold maxLen at hm
 by_cases hl:6<zs.length
 ·have R:=qh (La.right_long zs hl)
  go_enter Tryz.func115,Tryz.ntmps115
  go_wp2
  go_ret
  exact ⟨ret_bool R.out.symm,rfl⟩
 ·go_enter Tryz.func115,Tryz.ntmps115
  go_wp2
  go_loop [3,11] (fun l i=>∃ k:Nat,k<=zs.length∧i=.int .i64 k∧l=.int .u64 ((zs.take k).getLastD 0)∧La.risesB 0 (zs.take k)=true) (fun _ i=>zs.length-(intOf i).toNat)
  case atStart=>exact ⟨0,Nat.zero_le _,rfl,rfl,rfl⟩
  case round =>
   obtain ⟨k,hk,rfl,hlast,hr⟩:=hrel
   obtain ⟨p,hp⟩:∃ p,(zs.take k).getLastD 0=p:=⟨_,rfl⟩
   rw [hp] at hlast
   subst hlast
   have P:=qh hp
   have R:=qh hr
   clear hp hr
   by_cases hlt:k<zs.length
   ·obtain ⟨b,o,rfl,hb,hc⟩:=h.at_ hlt
    have hck:=hc k hlt
    have ST:=qh (La.rises_step zs k hlt 0)
    have LD:=qh (La.lastD_take 0 zs k hlt)
    obtain ⟨y,hy⟩:∃ y,zs.getD k 0=y:=⟨_,rfl⟩
    rw [hy] at hck
    have Y:=qh hy
    clear hc hy hb
    by_cases hxy:y<=p
    ·go_wp2
     go_ret
     refine ⟨ret_bool ?_,rfl⟩
     have h1:=ST.out
     rw [R.out,P.out,Y.out,decide_eq_false (by omega),Bool.and_false] at h1
     exact (La.right_false_at zs _ h1).symm
    ·go_wp2
     go_round
     case rel =>
      refine ⟨k+1,by omega,by go_num,?_,?_⟩
      ·rw [LD.out,Y.out]
      ·rw [ST.out,R.out,P.out,Y.out,decide_eq_true (by omega),Bool.and_self]
     case measure=>simp [intOf]; omega
   ·go_wp2
    go_ret
    have hkk:k=zs.length:=by omega
    refine ⟨ret_bool ?_,rfl⟩
    have h1:=R.out
    rw [hkk,List.take_length] at h1
    rw [La.right_all zs h1,decide_eq_true (by omega)]

end Go.Proofs.YtoljhoabbaigdaaGreat
