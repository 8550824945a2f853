/- Proved parts: Vq. Conditions: each theorem's own. -/
import Derived.Test.YtoljhoabbaigdaaGreatM17
import Derived.Test.YtoljhoabbaigdaaGreatM6
import Derived.Test.YtoljhoabbaigdaaGreatM18
import Derived.Test.YtoljhoabbaigdaaGreatM2
import Derived.Lib.Bytealg
import Derived.Deep.RegionHeld3
import Derived.BigQuiet
import Derived.Test.YtoljhoabbaigdaaGreatQ2
set_option maxRecDepth 100000
set_option maxHeartbeats 8000000
namespace Go.Proofs.YtoljhoabbaigdaaGreat
open Go.RowKit

@[go_sem] theorem run_cmpstring (a b:ByteArray) (w:World):(callFunc 141 #[.string a,.string b]).run Tryz.prog w=.ok (.value (.int .i64 (Lib.compareBytes a.data.toList b.data.toList))) w:=by
 rw [run_callFunc_extern Tryz.func141 (by kernel_rfl) (by kernel_rfl) (by kernel_rfl) (e:=Extern.BytealgCompare.compare) (by kernel_rfl)]
 show Result.andThen _ _=_
 rw [Lib.run_compareString]
 rfl

theorem bitsOf_twice (b:Nat):Fl.bitsOf (Fl.bitsOf b)=Fl.bitsOf b:=by
 unfold Fl.bitsOf
 cases h:Fl.nanB b with
 | true=>rw [if_pos rfl]; split<;>rfl
 | false=>simp [h]
theorem vpRight (x:Val) (w:World) (hf:x.Fits):Calls Tryz.prog 68 #[x.v] w fun e w'=>e=.returned (.bool x.ok)∧Below w.heap.size w w':=by
 obtain ⟨n,t,b⟩:=x
 obtain ⟨hb,ht⟩:=hf
 change b<18446744073709551616 at hb
 change t.size<=maxLen at ht
 unfold maxLen at ht
 show Calls Tryz.prog 68 #[.agg #[.bool n,.string t,.int .u64 (b:Int)]] w _
 have B0:=qh ((Below.refl w.heap.size w).alloc (Nat.le_refl _) (.cells #[.bool n,.string t,.int .u64 (b:Int)] 59))
 cases n with
 | false =>
  have R:=qh (show Val.ok ⟨false,t,b⟩=(decide (b=0) && decide (t.size<=64)) from rfl)
  by_cases b0:b=0
  ·have T0:((b:Int) == 0)=true:=by rw [beq_iff_eq]; omega
   have D0:=qh b0
   clear b0 hb
   go_enter Tryz.func68,Tryz.ntmps68
   go_wp2_with fail
   go_ret
   refine ⟨ret_bool ?_,B0.out⟩
   rw [R.out,decide_eq_true D0.out,Bool.true_and,Bool.eq_iff_iff]
   simp only [decide_eq_true_eq]
   omega
  ·have T0:((b:Int) == 0)=false:=by rw [beq_eq_false_iff_ne]; omega
   have D0:=qh b0
   clear b0 hb
   go_enter Tryz.func68,Tryz.ntmps68
   go_wp2_with fail
   go_ret
   refine ⟨ret_bool ?_,B0.out⟩
   rw [R.out,decide_eq_false D0.out]; rfl
 | true =>
  have R:=qh (show Val.ok ⟨true,t,b⟩=(decide (t.size=0) && decide (Fl.bitsOf b=b)) from rfl)
  have bn:((b:Int)).toNat=b:=by omega
  have FR:=qh (show ∀ w,Calls Tryz.prog 98 #[.int .u64 (b:Int)] w fun e w'=>e=.returned (.float .f64 (Fl.bitsOf b))∧w=w' from fun w=>by have h:=nfrom (b:Int) w; rw [bn] at h; exact h)
  have FB:=qh (show ∀ w,Calls Tryz.prog 97 #[.float .f64 (Fl.bitsOf b)] w fun e w'=>e=.returned (.int .u64 (Fl.bitsOf b:Nat))∧w=w' from fun w=>by have h:=nbits (Fl.bitsOf b) w; rw [bitsOf_twice] at h; exact h)
  by_cases t0:t.size=0
  ·have T0:(t.toList == [])=true:=by rw [Val.nil_of t0,Val.toL]; rfl
   have D0:=qh t0
   clear t0 hb bn
   go_enter Tryz.func68,Tryz.ntmps68
   go_wp2_with fail
   go_quiet (first | (go_at_call 98; exact Calls.quiet_of_same ((FR.out _).mono fun _ _ hh=>⟨hh.1,hh.2.symm⟩)) | (go_at_call 97; exact Calls.quiet_of_same ((FB.out _).mono fun _ _ hh=>⟨hh.1,hh.2.symm⟩)))
   go_wp2_with fail
   go_ret
   refine ⟨ret_bool ?_,below_drewN B0.out _⟩
   rw [R.out,decide_eq_true D0.out,Bool.true_and,Bool.eq_iff_iff,beq_iff_eq,decide_eq_true_eq]
   omega
  ·have T0:(t.toList == [])=false:=by
    rw [beq_eq_false_iff_ne]; intro e; apply t0; rw [Val.toL] at e
    have:=congrArg List.length e; simpa using this
   have D0:=qh t0
   clear t0 hb bn
   go_enter Tryz.func68,Tryz.ntmps68
   go_wp2_with fail
   go_quiet (fail)
   go_wp2_with fail
   go_ret
   refine ⟨ret_bool ?_,below_drewN B0.out _⟩
   rw [R.out,decide_eq_false D0.out]; rfl


theorem vpPack (x:Val) (w:World) (hf:x.Fits) (hs:x.txt.size<=1000):Calls Tryz.prog 143 #[x.v] w fun e w'=>e=.returned (.tuple #[.string (if x.ok then x.pack else ⟨#[]⟩),.int .i64 (if x.ok then 0 else 1)])∧Below w.heap.size w w':=by
 have RI:=qh (vpRight x)
 have HF:=qh hf
 obtain ⟨o,ho⟩:=nmq (x.ok)
 have hq:x.num=true->o=true->Fl.bitsOf x.bits=x.bits:=fun hn h=>(Val.num_of (ho ▸ h) hn).2
 rw [<-ho] at RI ⊢
 clear ho
 obtain ⟨n,t,b⟩:=x
 have hb:b<18446744073709551616:=hf.1
 have FB:=qh (fits_small b hb)
 clear hf hb
 have bn:((b:Int)).toNat=b:=by omega
 change t.size<=1000 at hs
 change Hid (∀ w,_->Calls Tryz.prog 68 #[.agg #[.bool n,.string t,.int .u64 (b:Int)]] w _) at RI
 show Calls Tryz.prog 143 #[.agg #[.bool n,.string t,.int .u64 (b:Int)]] w fun e w'=>e=.returned (.tuple #[.string (if o then Val.pack ⟨n,t,b⟩ else ⟨#[]⟩),.int .i64 (if o then 0 else 1)])∧_
 have B0:=qh ((Below.refl w.heap.size w).alloc (Nat.le_refl _) (.cells #[.bool n,.string t,.int .u64 (b:Int)] 59))
 have X0:=qh (BoxV.new w n t b 59)
 cases o with
 | false =>
  clear hq bn
  simp only [Bool.false_eq_true,if_false]
  go_enter Tryz.func143,Tryz.ntmps143
  go_wp2_with fail
  refine (RI.out _ HF.out).mono ?_
  rintro e w1 ⟨rfl,hb1⟩
  have HB1:=qh (below_then B0.out hb1)
  clear hb1
  go_wp2_with fail
  go_ret2
  exact ⟨rfl,HB1.out⟩
 | true =>
  simp only [if_true]
  cases n with
  | false =>
   have P:=qh (show Val.pack ⟨false,t,b⟩=⟨#[0]⟩++t from rfl)
   rw [P.out]
   clear hq bn P
   have s1:(⟨#[0]⟩:ByteArray).size=1:=rfl
   go_enter Tryz.func143,Tryz.ntmps143
   go_wp2_with fail
   refine (RI.out _ HF.out).mono ?_
   rintro e w1 ⟨rfl,hb1⟩
   have X1:=X0.out.below hb1
   obtain ⟨a0,a1,a2⟩:=X1
   have HB1:=qh (below_then B0.out hb1)
   clear hb1
   go_wp2_with fail
   go_ret2
   exact ⟨rfl,HB1.out⟩
  | true =>
   have Q:=hq rfl rfl
   change Fl.bitsOf b=b at Q
   have FR:=qh (show ∀ w,Calls Tryz.prog 98 #[.int .u64 (b:Int)] w fun e w'=>e=.returned (.float .f64 b)∧w=w' from fun w=>by have h:=nfrom (b:Int) w; rw [bn,Q] at h; exact h)
   obtain ⟨K,hK⟩:=nmq (keyOf (Fl.place b))
   have P:=qh (show Val.pack ⟨true,t,b⟩=⟨#[1]⟩++K by rw [hK]; rfl)
   rw [P.out]
   have k8:K.size=8:=by rw [hK,keyOf_size]
   have KY:=qh (show ∀ w,Calls Tryz.prog 156 #[.float .f64 b] w fun e w'=>e=.returned (.string K)∧Below w.heap.size w w' by rw [hK]; exact nkeyB b FB.out)
   have s1:(⟨#[1]⟩:ByteArray).size=1:=rfl
   clear hq bn P Q hK
   go_enter Tryz.func143,Tryz.ntmps143
   go_wp2_with fail
   refine (RI.out _ HF.out).mono ?_
   rintro e w1 ⟨rfl,hb1⟩
   have X1:=X0.out.below hb1
   obtain ⟨a0,a1,a2⟩:=X1
   have HB1:=qh (below_then B0.out hb1)
   clear hb1
   go_wp2_with fail
   refine (FR.out _).mono ?_
   rintro e w2 ⟨rfl,rfl⟩
   go_wp2_with fail
   refine (KY.out _).mono ?_
   rintro e w2 ⟨rfl,hb2⟩
   have HB2:=qh (below_then HB1.out hb2)
   clear hb2
   go_wp2_with fail
   go_ret2
   exact ⟨rfl,HB2.out⟩

theorem vpWeight (x:Val) (w:World) (hf:x.Fits) (hs:x.txt.size<=1000):Calls Tryz.prog 128 #[x.v] w fun e w'=>e=.returned (.int .i64 (if x.ok then (x.pack.size:Int) else 0))∧Below w.heap.size w w':=by
 obtain ⟨k,hk,hk2⟩:∃ k:ByteArray,(if x.ok then x.pack else ⟨#[]⟩)=k∧k.size<=65:=by
  refine ⟨_,rfl,?_⟩
  cases h:x.ok with
  | true=>exact (Val.pack_size x h).1
  | false=>show (⟨#[]⟩:ByteArray).size<=65; decide
 obtain ⟨d,hd⟩:∃ d:Int,d=(if x.ok then 0 else 1):=⟨_,rfl⟩
 have P:=qh (show ∀ w,Calls Tryz.prog 143 #[x.v] w fun e w'=>e=.returned (.tuple #[.string k,.int .i64 d])∧Below w.heap.size w w' from fun w=>by have h:=vpPack x w hf hs; rw [hk,<-hd] at h; exact h)
 have hr:(if x.ok then (x.pack.size:Int) else 0)=k.size:=by
  rw [<-hk]; cases x.ok<;>rfl
 rw [hr]
 clear hr hd hf hs hk
 obtain ⟨n,t,b⟩:=x
 change Hid (∀ w,Calls Tryz.prog 143 #[.agg #[.bool n,.string t,.int .u64 (b:Int)]] w _) at P
 show Calls Tryz.prog 128 #[.agg #[.bool n,.string t,.int .u64 (b:Int)]] w _
 have B0:=qh ((Below.refl w.heap.size w).alloc (Nat.le_refl _) (.cells #[.bool n,.string t,.int .u64 (b:Int)] 59))
 go_enter Tryz.func128,Tryz.ntmps128
 go_wp2_with fail
 refine (P.out _).mono ?_
 rintro e w1 ⟨rfl,hb1⟩
 have HB1:=qh (below_then B0.out hb1)
 clear hb1
 go_wp2_with fail
 go_ret
 exact ⟨rfl,HB1.out⟩

end Go.Proofs.YtoljhoabbaigdaaGreat
