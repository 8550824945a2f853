/- Proved parts: Lr Ls. Conditions: each theorem's own. -/
import Derived.Test.YtbfgpdgiaclphaaGreatM0
import Derived.Test.YtbfgpdgiaclphaaGreatM2
import Derived.Test.YtbfgpdgiaclphaaGreatProg
import Derived.Deep.QuietTactic
import Derived.BigQuiet
import Derived.KernelRfl
import Derived.Test.YtbfgpdgiaclphaaGreatQ2
set_option maxRecDepth 100000
set_option maxHeartbeats 8000000
namespace Go.Proofs.YtbfgpdgiaclphaaGreat
open Go.RowKit

theorem lright (A:Option Addr) (c:Nat) (zs:List Int) (w:World) (h:Sl w A zs) (hm:zs.length<=maxLen) :
  Calls Tryz.prog 59 #[.slice A zs.length c] w fun e w'=>e=.returned (.bool (La.right zs))∧w=w':=by
 unfold maxLen at hm
 by_cases hl:6<zs.length
 ·have R:=qh (La.right_long zs hl)
  go_enter Tryz.func59,Tryz.ntmps59
  go_wp2
  go_ret
  exact ⟨ret_bool R.out.symm,rfl⟩
 ·go_enter Tryz.func59,Tryz.ntmps59
  go_wp2
  go_loop [3,11] (fun l i=>∃ k:Nat,k<=zs.length∧i=.int .i64 k∧l=.int .u64 ((zs.take k).getLastD 0)∧La.risesB 0 (zs.take k)=true) (fun _ i=>zs.length-(intOf i).toNat)
  case atStart=>exact ⟨0,Nat.zero_le _,rfl,rfl,rfl⟩
  case round =>
   obtain ⟨k,hk,rfl,hlast,hr⟩:=hrel
   obtain ⟨p,hp⟩:∃ p,(zs.take k).getLastD 0=p:=⟨_,rfl⟩
   rw [hp] at hlast
   subst hlast
   have P:=qh hp
   have R:=qh hr
   clear hp hr
   by_cases hlt:k<zs.length
   ·obtain ⟨b,o,rfl,hb,hc⟩:=h.at_ hlt
    have hck:=hc k hlt
    have ST:=qh (La.rises_step zs k hlt 0)
    have LD:=qh (La.lastD_take 0 zs k hlt)
    obtain ⟨y,hy⟩:∃ y,zs.getD k 0=y:=⟨_,rfl⟩
    rw [hy] at hck
    have Y:=qh hy
    clear hc hy hb
    by_cases hxy:y<=p
    ·go_wp2
     go_ret
     refine ⟨ret_bool ?_,rfl⟩
     have h1:=ST.out
     rw [R.out,P.out,Y.out,decide_eq_false (by omega),Bool.and_false] at h1
     exact (La.right_false_at zs _ h1).symm
    ·go_wp2
     go_round
     case rel =>
      refine ⟨k+1,by omega,by go_num,?_,?_⟩
      ·rw [LD.out,Y.out]
      ·rw [ST.out,R.out,P.out,Y.out,decide_eq_true (by omega),Bool.and_self]
     case measure=>simp [intOf]; omega
   ·go_wp2
    go_ret
    have hkk:k=zs.length:=by omega
    refine ⟨ret_bool ?_,rfl⟩
    have h1:=R.out
    rw [hkk,List.take_length] at h1
    rw [La.right_all zs h1,decide_eq_true (by omega)]

theorem rright (A:Option Addr) (c:Nat) (zs:List Int) (w:World) (h:Sl w A zs) (hm:zs.length<=maxLen) (hu:La.U64 zs) :
  Calls Tryz.prog 60 #[.slice A zs.length c] w fun e w'=>e=.returned (.bool (La.right zs))∧∃ n,w'=w.drewN n:=by
 unfold maxLen at hm
 have U:=qh hu
 clear hu
 go_enter Tryz.func60,Tryz.ntmps60
 go_wp2
 go_loopw [3] (fun i wr=>∃ k n:Nat,k<=zs.length∧i=.int .i64 k∧wr=w.drewN n∧La.risesB 0 (zs.take k)=true) (fun i _=>zs.length-(intOf i).toNat)
 case atStart=>exact ⟨0,0,Nat.zero_le _,rfl,rfl,rfl⟩
 case round =>
  obtain ⟨k,n,hk,rfl,rfl,hr⟩:=hrel
  have R:=qh hr
  clear hr
  by_cases hlt:k<zs.length
  ·obtain ⟨b,o,rfl,hb,hc⟩:=h.at_ hlt
   have hck:=hc k hlt
   have hy0:=(U.out.get k hlt).1
   have ST:=qh (La.rises_step zs k hlt 0)
   obtain ⟨y,hy⟩:∃ y,zs.getD k 0=y:=⟨_,rfl⟩
   rw [hy] at hck hy0
   have Y:=qh hy
   have i0:(0:Int)<=(k:Int):=by omega
   have i1:(k:Int)<zs.length:=by omega
   have i2:((k:Int)).toNat=k:=by omega
   clear hy hb
   by_cases h0:y=0
   ·have T:(y == 0)=true:=by simpa using h0
    have HX:=qh h0
    clear h0 hc
    go_wp2_with fail
    go_quiet (fail)
    go_wp2
    go_ret
    refine ⟨ret_bool ?_,drewN2 _ _ _⟩
    have hle:0<=(zs.take k).getLastD 0:=by
     rcases Nat.eq_zero_or_pos k with e | e
     ·subst e; simp [List.getLastD]
     ·obtain ⟨j,rfl⟩:∃ j,k=j+1:=⟨k-1,by omega⟩
      rw [La.lastD_take 0 zs j (by omega)]; exact (U.out.get j (by omega)).1
    have h1:=ST.out
    rw [R.out,Y.out,HX.out,decide_eq_false (by omega),Bool.and_false] at h1
    exact (La.right_false_at zs _ h1).symm
   ·have T:(y == 0)=false:=by simpa using h0
    have HX:=qh h0
    clear h0
    rcases Nat.eq_zero_or_pos k with e | e
    ·subst e
     rw [Nat.add_zero] at hck
     clear hc i0 i2
     go_wp2_with fail
     go_quiet (fail)
     go_wp2
     go_roundw
     case rel =>
      refine ⟨1,_,by omega,by go_num,rfl,?_⟩
      have hyn:=HX.out
      have h9:=ST.out
      rw [R.out,Y.out,show (zs.take 0).getLastD 0=0 from rfl,decide_eq_true (by omega),Bool.and_self] at h9
      exact h9
     case measure=>simp [intOf]; omega
    ·obtain ⟨j,rfl⟩:∃ j,k=j+1:=⟨k-1,by omega⟩
     have hcj:=hc j (by omega)
     have LD:=qh (La.lastD_take 0 zs j (by omega))
     obtain ⟨x,hx⟩:∃ x,zs.getD j 0=x:=⟨_,rfl⟩
     rw [hx] at hcj
     have X:=qh hx
     have i3:IntKind.i64.wrap (((j+1:Nat):Int)-1)=(j:Int):=by rw [IntKind.wrap_i64]; omega
     have i4:(0:Int)<=(j:Int):=by omega
     have i5:(j:Int)<zs.length:=by omega
     have i6:((j:Int)).toNat=j:=by omega
     have i7:((j+1:Nat):Int)-1=(j:Int):=by omega
     have i8:decide ((0:Int)<((j+1:Nat):Int))=true:=decide_eq_true (by omega)
     clear hx hc
     by_cases hxy:y<=x
     ·go_wp2_with fail
      go_quiet (fail)
      go_wp2
      go_ret
      refine ⟨ret_bool ?_,drewN2 _ _ _⟩
      have h1:=ST.out
      rw [R.out,LD.out,X.out,Y.out,decide_eq_false (by omega),Bool.and_false] at h1
      exact (La.right_false_at zs _ h1).symm
     ·go_wp2_with fail
      go_quiet (fail)
      go_wp2
      go_roundw
      case rel =>
       refine ⟨j+1+1,_,by omega,by go_num,rfl,?_⟩
       rw [ST.out,R.out,LD.out,X.out,Y.out,decide_eq_true (by omega),Bool.and_self]
      case measure=>simp [intOf]; omega
  ·go_wp2
   go_ret
   have hkk:k=zs.length:=by omega
   refine ⟨ret_bool ?_,_,rfl⟩
   have h1:=R.out
   rw [hkk,List.take_length] at h1
   rw [La.right_all zs h1,Bool.eq_iff_iff]; simp; omega

theorem rcompare (A B:Option Addr) (c d:Nat) (a b:List Int) (w:World) (h:Sl w A a) (hb:Sl w B b) (hm:a.length<=maxLen) :
  Calls Tryz.prog 77 #[.slice A a.length c,.slice B b.length d] w fun e w'=>e=.returned (.int .i64 (La.cmp a b))∧∃ n,w'=w.drewN n:=by
 unfold maxLen at hm
 by_cases h1:a.length<b.length
 ·have e:La.cmp a b=-1:=by unfold La.cmp; rw [if_pos h1]
  rw [e]
  clear e
  go_enter Tryz.func77,Tryz.ntmps77
  go_wp2
  go_ret
  exact ⟨rfl,0,rfl⟩
 by_cases h2:b.length<a.length
 ·have e:La.cmp a b=1:=by unfold La.cmp; rw [if_neg h1,if_pos h2]
  rw [e]
  clear e
  go_enter Tryz.func77,Tryz.ntmps77
  go_wp2
  go_ret
  exact ⟨rfl,0,rfl⟩
 have e:La.cmp a b=La.lex a b:=by unfold La.cmp; rw [if_neg h1,if_neg h2]
 rw [e]
 clear e
 go_enter Tryz.func77,Tryz.ntmps77
 go_wp2
 go_loopw [5] (fun i wr=>∃ k n:Nat,k<=a.length∧i=.int .i64 k∧wr=w.drewN n∧Hid (La.lex a b=La.lex (a.drop k) (b.drop k))) (fun i _=>a.length-(intOf i).toNat)
 case atStart=>exact ⟨0,0,Nat.zero_le _,rfl,rfl,rfl⟩
 case round =>
  obtain ⟨k,n,hk,rfl,rfl,X⟩:=hrel
  by_cases hlt:k<a.length
  ·have hltb:k<b.length:=by omega
   obtain ⟨bb,o,rfl,hbb,hc⟩:=h.at_ hlt
   have hck:=hc k hlt
   obtain ⟨bc,p,rfl,hbc,hd⟩:=hb.at_ hltb
   have hdk:=hd k hltb
   have L1:=qh (La.lex_drop_lt a b k hlt hltb)
   have L2:=qh (La.lex_drop_gt a b k hlt hltb)
   have L3:=qh (La.lex_drop_eq a b k hlt hltb)
   obtain ⟨y,hy⟩:∃ y,a.getD k 0=y:=⟨_,rfl⟩
   obtain ⟨z,hz⟩:∃ z,b.getD k 0=z:=⟨_,rfl⟩
   rw [hy] at hck
   rw [hz] at hdk
   have Y:=qh hy
   have Z:=qh hz
   have i0:(0:Int)<=(k:Int):=by omega
   have i1:(k:Int)<a.length:=by omega
   have i2:((k:Int)).toNat=k:=by omega
   have i3:(k:Int)<b.length:=by omega
   clear hc hd hy hz hbb hbc
   by_cases c1:y<z
   ·go_wp2_with fail
    go_quiet (fail)
    go_wp2
    go_ret
    exact ⟨ret_int (by rw [X.out,L1.out (by rw [Y.out,Z.out]; exact c1)]),drewN2 _ _ _⟩
   ·by_cases c2:z<y
    ·go_wp2_with fail
     go_quiet (fail)
     go_wp2_with fail
     go_quiet (fail)
     go_wp2
     go_ret
     exact ⟨ret_int (by rw [X.out,L2.out (by rw [Y.out,Z.out]; exact c2)]),drewN3 _ _ _ _⟩
    ·go_wp2_with fail
     go_quiet (fail)
     go_wp2_with fail
     go_quiet (fail)
     go_wp2
     go_roundw
     case rel =>
      refine ⟨k+1,_,by omega,by go_num,rfl,?_⟩
      rw [X.out,L3.out (by rw [Y.out,Z.out]; omega)]; exact rfl
     case measure=>simp [intOf]; omega
  ·go_wp2
   go_ret
   refine ⟨ret_int ?_,_,rfl⟩
   rw [X.out,List.drop_eq_nil_of_le (by omega),List.drop_eq_nil_of_le (by omega)]; rfl

theorem rsame (A B:Option Addr) (c d:Nat) (a b:List Int) (w:World) (h:Sl w A a) (hb:Sl w B b) (hm:a.length<=maxLen) :
  Calls Tryz.prog 25 #[.slice A a.length c,.slice B b.length d] w fun e w'=>e=.returned (.bool (La.cmp a b == 0))∧∃ n,w'=w.drewN n:=by
 go_enter Tryz.func25,Tryz.ntmps25
 go_wp2_with fail
 refine (rcompare A B c d a b _ h hb hm).mono ?_
 rintro e w' ⟨rfl,n,rfl⟩
 go_wp2
 go_ret
 exact ⟨rfl,n,rfl⟩
end Go.Proofs.YtbfgpdgiaclphaaGreat
