/- Proved parts: B5m B5a B5b B5c B5d B5e B5f B5h B5r B5o B5u B5v B5x B5nn. Conditions: each theorem's own. -/
import Derived.Test.YtoljhoabbaigdaaGreatM34
import Derived.Test.YtoljhoabbaigdaaGreatM37
import Derived.Test.YtoljhoabbaigdaaGreatM35
import Derived.Test.YtoljhoabbaigdaaGreatM41
import Derived.Test.YtoljhoabbaigdaaGreatM44
import Derived.Test.YtoljhoabbaigdaaGreatM19
import Derived.Test.YtoljhoabbaigdaaGreatM26
import Derived.Test.YtoljhoabbaigdaaGreatM12
import Derived.StillTailTactics
import Derived.Test.YtoljhoabbaigdaaGreatQ1
import Derived.Test.YtoljhoabbaigdaaGreatQ2
set_option maxRecDepth 100000
set_option maxHeartbeats 8000000
namespace Go.Proofs.YtoljhoabbaigdaaGreat
open Go.RowKit

theorem Rep.keep {w w':World} {T:Nat} {E:Nat->Prop} {l:KV} {b:Nat} (h:Rep w T E l b) (hk:∀ k,E k->w'.heap[k]?=w.heap[k]?) (hs:w.heap.size<=w'.heap.size):Rep w' T E l b:=by
 obtain ⟨s,h1,h2⟩:=h
 exact ⟨s,h1.keep hk hs,h2⟩
theorem Rep.lt {w:World} {T:Nat} {E:Nat->Prop} {l:KV} {b:Nat} (h:Rep w T E l b) {k:Nat} (e:E k):k<w.heap.size:=by
 obtain ⟨s,h1,_⟩:=h
 exact h1.lt k e
def oTree (T:Option Nat) (l:KV) (b:Nat):Ob where
 P:=fun w F=>(T=none∧l=[]∧∀ k,¬ F k)∨∃ t,T=some t∧Rep w t F l b
 keep:=fun h hk hs=>by
  rcases h with h | ⟨t,e,h⟩
  ·exact .inl h
  ·exact .inr ⟨t,e,h.keep hk hs⟩
 lt:=fun h e=>by
  rcases h with h | ⟨t,_,h⟩
  ·exact absurd e (h.2.2 _)
  ·exact h.lt e
structure DatP (vs:List Value) (cs:List (List Ver)) (w:World) (F:Nat->Prop):Prop where
 len:vs.length=cs.length
 at_:∀ i,i<cs.length->∃ A c,vs.getD i undef=.slice A (cs.getD i []).length c∧(cs.getD i []).length<=c∧SlVG w F A (cs.getD i [])
 lt:∀ k,F k->k<w.heap.size
def oDat (vs:List Value) (cs:List (List Ver)):Ob where
 P:=DatP vs cs
 keep:=fun h hk hs=>⟨h.len,fun i hi=>by
  obtain ⟨A,c,e,hc,hs'⟩:=h.at_ i hi
  exact ⟨A,c,e,hc,hs'.keep hk hs⟩,fun k e=>Nat.lt_of_lt_of_le (h.lt k e) hs⟩
 lt:=fun h e=>h.lt _ e
def oCh (A:Option Addr) (l:List Ver):Ob where
 P:=fun w F=>SlVG w F A l∧∀ k,F k->k<w.heap.size
 keep:=fun h hk hs=>⟨h.1.keep hk hs,fun k e=>Nat.lt_of_lt_of_le (h.2 k e) hs⟩
 lt:=fun h e=>h.2 _ e
def oRing (q:Nat) (r:Rg):Ob where
 P:=fun w F=>theR w q F r
 keep:=fun ⟨v,e,h,ok⟩ hk _=>⟨v,e,h.keep fun k q=>hk k (by rw [e]; exact q),ok⟩
 lt:=fun ⟨v,e,h,_⟩ q=>h.lt _ (by rw [e] at q; exact q)
def oLab (v:Value) (zs:List Int):Ob where
 P:=fun w F=>(∃ A c,v=.slice A zs.length c∧Sl w A zs∧(0<zs.length->∃ g o,A=some ⟨g,o,none⟩∧F g))∧∀ k,F k->k<w.heap.size
 keep:=fun h hk hs=>⟨by
  obtain ⟨A,c,e,sl,hf⟩:=h.1
  refine ⟨A,c,e,fun hp=>?_,hf⟩
  obtain ⟨g,o,e2,hg⟩:=hf hp
  obtain ⟨b,o',e3,hlt,hc⟩:=sl hp
  rw [e2] at e3
  injection e3 with e3
  injection e3 with e4 e5 _
  subst e4; subst e5
  exact ⟨g,o,e2,Nat.lt_of_lt_of_le hlt hs,fun j hj=>(World.cell?_of_block (hk g hg)).trans (hc j hj)⟩,fun k e=>Nat.lt_of_lt_of_le (h.2 k e) hs⟩
 lt:=fun h e=>h.2 _ e

section
variable {w0 w w':World} {N:Nat->Prop} {os:List Ob} {i:Nat}
end

section
variable {w w':World} {t:TypeId} {v:Value} {xs:List Value}
end


section
variable {w0 w w':World} {N:Nat->Prop} {os:List Ob} {i:Nat} {t:TypeId} {v:Value} {xs:List Value}
theorem DatP.put {vs:List Value} {cs:List (List Ver)} {F F':Nat->Prop} {A:Option Addr} {l:List Ver} {c p:Nat} (h:DatP vs cs w F) (hs:SlVG w F' A l∧∀ k,F' k->k<w.heap.size) (hc:l.length<=c) (hp:p<cs.length) :
  DatP (vs.set p (Value.slice A l.length c)) (cs.set p l) w fun k=>F k∨F' k:=by
 refine ⟨by rw [List.length_set,List.length_set]; exact h.len,fun i hi=>?_,fun k e=>by
  rcases e with e | e
  ·exact h.lt k e
  ·exact hs.2 k e⟩
 rw [List.length_set] at hi
 by_cases z:i=p
 ·subst z
  have e1:(vs.set i (Value.slice A l.length c)).getD i undef=.slice A l.length c:=by
   rw [List.getD_eq_getElem?_getD,List.getElem?_set_self (by rw [h.len]; exact hi)]; rfl
  rw [e1,Fine.getD_set_self hi]
  exact ⟨A,c,rfl,hc,hs.1.mono fun k e=>.inr e⟩
 ·have e1:(vs.set p (Value.slice A l.length c)).getD i undef=vs.getD i undef:=by
   rw [List.getD_eq_getElem?_getD,List.getElem?_set_ne (fun e=>z e.symm),List.getD_eq_getElem?_getD]
  rw [e1,Fine.getD_set_ne z]
  obtain ⟨A',c',h1,h2,h3⟩:=h.at_ i hi
  exact ⟨A',c',h1,h2,h3.mono fun k e=>.inl e⟩
theorem DatP.push {vs:List Value} {cs:List (List Ver)} {F F':Nat->Prop} {A:Option Addr} {l:List Ver} {c:Nat} (h:DatP vs cs w F) (hs:SlVG w F' A l∧∀ k,F' k->k<w.heap.size) (hc:l.length<=c) :
  DatP (vs++[Value.slice A l.length c]) (cs++[l]) w fun k=>F k∨F' k:=by
 refine ⟨by rw [List.length_append,List.length_append,h.len]; rfl,fun i hi=>?_,fun k e=>by
  rcases e with e | e
  ·exact h.lt k e
  ·exact hs.2 k e⟩
 rw [List.length_append,List.length_singleton] at hi
 by_cases z:i=cs.length
 ·subst z
  have e1:(vs++[Value.slice A l.length c]).getD cs.length undef=.slice A l.length c:=by
   rw [List.getD_eq_getElem?_getD,<-h.len,List.getElem?_append_right (Nat.le_refl _),Nat.sub_self]; rfl
  have e2:(cs++[l]).getD cs.length []=l:=by
   rw [List.getD_eq_getElem?_getD,List.getElem?_append_right (Nat.le_refl _),Nat.sub_self]; rfl
  rw [e1,e2]
  exact ⟨A,c,rfl,hc,hs.1.mono fun k e=>.inr e⟩
 ·have hi:i<cs.length:=by omega
  have e1:(vs++[Value.slice A l.length c]).getD i undef=vs.getD i undef:=by
   rw [List.getD_eq_getElem?_getD,List.getElem?_append_left (by rw [h.len]; exact hi),List.getD_eq_getElem?_getD]
  have e2:(cs++[l]).getD i []=cs.getD i []:=by
   rw [List.getD_eq_getElem?_getD,List.getElem?_append_left hi,List.getD_eq_getElem?_getD]
  rw [e1,e2]
  obtain ⟨A',c',h1,h2,h3⟩:=h.at_ i hi
  exact ⟨A',c',h1,h2,h3.mono fun k e=>.inl e⟩
end

structure Sh where
 lb:Value
 g1:Int
 g2:Int
 g3:Int
 q:Nat
 tv:Value
 cv:Value
 fv:Value
 x1:Int
 x2:Int
 x3:Int
 T:Option Nat
 l:KV
 bd:Nat
 vs:List Value
 cs:List (List Ver)
 fr:List Nat
 r:Rg
 zs:List Int
namespace Sh
def row (s:Sh):List Value:=[s.lb,.int .i64 s.g1,.int .i64 s.g2,.int .i64 s.g3,.pointer (some ⟨s.q,0,none⟩),s.tv,s.cv,s.fv,.int .i64 s.x1,.int .i64 s.x2,.int .i64 s.x3]
def ptrs (T:Option Nat):List Value:=T.toList.map Ptr
def frs (fr:List Nat):List Value:=fr.map fun p:Nat=>Value.int .i64 (p:Int)
def os (b:Nat) (s:Sh):List Ob:=[Ob.row b s.row 124,oTree s.T s.l s.bd,oVec 196 s.tv (ptrs s.T),oVec 145 s.cv s.vs,oVec 3 s.fv (frs s.fr),oDat s.vs s.cs,oRing s.q s.r,oLab s.lb s.zs]
structure AtF (s:Sh) (L:Ch) (P:Nat):Prop where
 fine:Fine s.l s.cs s.fr L
 t0:s.T=none->s.tv=.slice none 0 0∧s.l=[]
 n1:L.length<=P
 n2:s.bd<=29 * (2 * P-L.length)
 n3:s.cs.length<=P
 n4:P<=13200
 good:GoodC L
 right:∀ x,x ∈ L->rightL x.2=true
 n5:L.length<=3950
structure At (s:Sh) (L:Ch) (P:Nat):Prop where
 f:s.AtF L P
 x1:s.x1=(L.live:Nat)
 x2:s.x2=(L.alive:Nat)
 x3:s.x3=(L.vers:Nat)
def Hd (s s':Sh):Prop:=s'.lb=s.lb∧s'.g1=s.g1∧s'.g2=s.g2∧s'.g3=s.g3∧s'.q=s.q∧s'.r=s.r∧s'.zs=s.zs
end Sh
abbrev PtrS (b:Nat):Value:=.pointer (some ⟨b,5,none⟩)

end Go.Proofs.YtoljhoabbaigdaaGreat

namespace Go.Proofs.YtoljhoabbaigdaaGreat
open Go.RowKit

theorem xWeightR (k:ByteArray) (x:Val) (w:World) (hf:x.Fits) (hs:x.txt.size<=1000) (hk:k.size<=1000000) (ho:x.ok=true) :
  Calls Tryz.prog 101 #[.string k,x.v] w fun e w'=>e=.returned (.int .i64 ((k.size+x.pack.size:Nat):Int))∧Below w.heap.size w w':=by
 have pl:=(Val.pack_size x ho).1
 have P:=qh (fun w=>by have:=vpWeight x w hf hs; rw [ho,if_pos rfl] at this; exact this)
 obtain ⟨z,hz⟩:=nmq (x.pack.size)
 obtain ⟨n,hn⟩:=nmq (k.size+z)
 obtain ⟨m,hm⟩:=nmq (k.size)
 simp only [<-hz] at P pl ⊢
 rw [<-hn]
 have HN:=qh (show n=m+z by rw [hn,hm])
 rw [<-hm] at hk hn
 clear hz ho hf hs
 obtain ⟨nm,t,b⟩:=x
 change Hid (∀ w,Calls Tryz.prog 128 #[.agg #[.bool nm,.string t,.int .u64 (b:Int)]] w _) at P
 show Calls Tryz.prog 101 #[.string k,.agg #[.bool nm,.string t,.int .u64 (b:Int)]] w _
 have B0:=qh ((Below.refl w.heap.size w).alloc (Nat.le_refl _) (.cells #[.bool nm,.string t,.int .u64 (b:Int)] 59))
 have WR:=qh (show wrap64 ((k.size:Int)+(z:Int))=(n:Int) by rw [HN.out,hm]; unfold wrap64; omega)
 clear hn hm
 go_enter Tryz.func101,Tryz.ntmps101
 go_wp2_with fail
 refine (P.out _).mono ?_
 rintro e w1 ⟨rfl,hb1⟩
 have HB1:=qh (below_then B0.out hb1)
 clear hb1
 go_wp2_with fail
 go_ret
 exact ⟨by rw [<-WR.out]; rfl,HB1.out⟩

theorem xPlusR (a b c d e f x y z:Int) (w:World) (h1:wrap64 (a+d)=x) (h2:wrap64 (b+e)=y) (h3:wrap64 (c+f)=z) :
  Calls Tryz.prog 109 #[.agg #[.int .i64 a,.int .i64 b,.int .i64 c],.agg #[.int .i64 d,.int .i64 e,.int .i64 f]] w fun r w'=>r=.returned (.agg #[.int .i64 x,.int .i64 y,.int .i64 z])∧Below w.heap.size w w':=by
 have R0:=qh (RowAt.new ((w.alloc (.cells #[.int .i64 a,.int .i64 b,.int .i64 c] 120)).alloc (.cells #[.int .i64 d,.int .i64 e,.int .i64 f] 120)) [.int .i64 x,.int .i64 y,.int .i64 z] 120)
 have B0:=qh (((((Below.refl _ w).alloc (Nat.le_refl _) (.cells #[.int .i64 a,.int .i64 b,.int .i64 c] 120)).alloc (by simp) (.cells #[.int .i64 d,.int .i64 e,.int .i64 f] 120)).alloc (by simp; omega) (.cells #[.int .i64 x,.int .i64 y,.int .i64 z] 120)))
 go_enter Tryz.func109,Tryz.ntmps109
 go_wp2_with fail
 rw [h1,h2,h3]
 refine bodyPost_ret (results_cell_one rfl _ _ (w.heap.size+1+1) _ [.int .i64 x,.int .i64 y,.int .i64 z] _ rfl (by have:=R0.out; rw [show ((w.alloc (.cells #[.int .i64 a,.int .i64 b,.int .i64 c] 120)).alloc (.cells #[.int .i64 d,.int .i64 e,.int .i64 f] 120)).heap.size=w.heap.size+1+1 by simp] at this; exact this) Tryz.underlying120 rfl (by kernel_rfl)) rfl ?_
 exact ⟨rfl,B0.out⟩
theorem xLessR (a b c d e f x y z:Int) (w:World) (h1:wrap64 (a-d)=x) (h2:wrap64 (b-e)=y) (h3:wrap64 (c-f)=z) :
  Calls Tryz.prog 108 #[.agg #[.int .i64 a,.int .i64 b,.int .i64 c],.agg #[.int .i64 d,.int .i64 e,.int .i64 f]] w fun r w'=>r=.returned (.agg #[.int .i64 x,.int .i64 y,.int .i64 z])∧Below w.heap.size w w':=by
 have R0:=qh (RowAt.new ((w.alloc (.cells #[.int .i64 a,.int .i64 b,.int .i64 c] 120)).alloc (.cells #[.int .i64 d,.int .i64 e,.int .i64 f] 120)) [.int .i64 x,.int .i64 y,.int .i64 z] 120)
 have B0:=qh (((((Below.refl _ w).alloc (Nat.le_refl _) (.cells #[.int .i64 a,.int .i64 b,.int .i64 c] 120)).alloc (by simp) (.cells #[.int .i64 d,.int .i64 e,.int .i64 f] 120)).alloc (by simp; omega) (.cells #[.int .i64 x,.int .i64 y,.int .i64 z] 120)))
 go_enter Tryz.func108,Tryz.ntmps108
 go_wp2_with fail
 rw [h1,h2,h3]
 refine bodyPost_ret (results_cell_one rfl _ _ (w.heap.size+1+1) _ [.int .i64 x,.int .i64 y,.int .i64 z] _ rfl (by have:=R0.out; rw [show ((w.alloc (.cells #[.int .i64 a,.int .i64 b,.int .i64 c] 120)).alloc (.cells #[.int .i64 d,.int .i64 e,.int .i64 f] 120)).heap.size=w.heap.size+1+1 by simp] at this; exact this) Tryz.underlying120 rfl (by kernel_rfl)) rfl ?_
 exact ⟨rfl,B0.out⟩

theorem last_right {l:List Ver} (h:rightL l=true) (hg:GoodL l) (hp:0<l.length):(lastL l).val.Fits∧(lastL l).val.txt.size<=1000∧(lastL l).val.ok=true:=by
 have hi:l.length-1<l.length:=by omega
 have:=(rightL_iff l).1 h _ hi
 obtain ⟨x1,x2⟩:=hg.get hi
 unfold mayV at this
 simp only [Bool.and_eq_true] at this
 exact ⟨x1,x2,this.2.2.1⟩
theorem wgt_last {l:List Ver} {k:ByteArray} (h:rightL l=true) (hg:GoodL l):Ch.wgt (k,l)=if l.length=0∨(lastL l).gone=true then 0 else k.size+(lastL l).val.pack.size:=by
 show (if weightL l=0 then 0 else weightL l+k.size)=_
 unfold weightL
 by_cases z:l.length=0∨(lastL l).gone=true
 ·rw [if_pos z,if_pos z,if_pos rfl]
 ·rw [if_neg z,if_neg z]
  have hp:0<l.length:=by
   have:¬ l.length=0:=fun e=>z (.inl e)
   omega
  have:=(Val.pack_size _ (last_right h hg hp).2.2).2
  rw [if_neg (by omega)]
  show _+k.size=_
  omega
theorem xSumsR (k:ByteArray) (l:List Ver) (A:Option Addr) (c:Nat) (w:World) (h:SlV w A l) (hg:GoodL l) (hr:rightL l=true) (hk:k.size<=1000000) :
  Calls Tryz.prog 100 #[.string k,.slice A l.length c] w fun e w'=>e=.returned (.agg #[.int .i64 (Ch.wgt (k,l):Nat),.int .i64 (Ch.aliv (k,l):Nat),.int .i64 (l.length:Nat)])∧Below w.heap.size w w':=by
 have CL:=fun W (hs:SlV W A l)=>xLast9 l A c W hs hg
 have e1:=wgt_last (k:=k) hr hg
 have e2:Ch.aliv (k,l)=if l.length=0∨(lastL l).gone=true then 0 else 1:=rfl
 obtain ⟨a,ha⟩:=nmq (Ch.wgt (k,l))
 obtain ⟨b,hb⟩:=nmq (Ch.aliv (k,l))
 obtain ⟨y,hy⟩:=nmq ((if (rightL l && decide (0<l.length))=true then lastL l else Ver.Z))
 obtain ⟨D,hD⟩:=nmq (decide (0<l.length))
 rw [hr,Bool.true_and,<-hD] at hy
 simp only [hr,Bool.true_and,<-hD,<-hy] at CL
 have LR:=qh (fun (hd:D=true)=>show y.val.Fits∧y.val.txt.size<=1000∧y.val.ok=true from by
  rw [hy,if_pos hd]
  exact last_right hr hg (by rw [hD] at hd; exact of_decide_eq_true hd))
 have EA:=qh (show a=if D=false∨y.gone=true then 0 else k.size+y.val.pack.size from by
  rw [ha,e1,hy]
  by_cases z:l.length=0
  ·have:D=false:=by rw [hD]; exact decide_eq_false (by omega)
   rw [if_pos (.inl z),this]; rfl
  ·have:D=true:=by rw [hD]; exact decide_eq_true (by omega)
   rw [this]
   simp [z])
 have EB:=qh (show b=if D=false∨y.gone=true then 0 else 1 from by
  rw [hb,e2,hy]
  by_cases z:l.length=0
  ·have:D=false:=by rw [hD]; exact decide_eq_false (by omega)
   rw [if_pos (.inl z),this]; rfl
  ·have:D=true:=by rw [hD]; exact decide_eq_true (by omega)
   rw [this]
   simp [z])
 obtain ⟨n,hn⟩:=nmq (l.length)
 rw [<-ha,<-hb,<-hn]
 simp only [<-hn] at CL
 have CL:∀ W,SlV W A l->Calls Tryz.prog 127 #[.slice A n c] W fun e w'=>e=.returned (.tuple #[.agg #[.int .i64 y.seq,.bool y.gone,.bool y.val.num,.string y.val.txt,.int .u64 (y.val.bits:Int)],.bool D])∧Below W.heap.size W w':=CL
 have CL:=qh CL
 have CW:=qh (fun (hd:D=true) w=>xWeightR k y.val w (LR.out hd).1 (LR.out hd).2.1 hk (LR.out hd).2.2)
 have g0:=RowAt.new w [.int .i64 0,.int .i64 0,.int .i64 0] 120
 obtain ⟨B,hB⟩:=nmq (w.heap.size)
 have b0:Below w.heap.size w (w.alloc (.cells #[.int .i64 0,.int .i64 0,.int .i64 0] 120)):=(Below.refl _ _).alloc (Nat.le_refl _) _
 have S0:=qh (h.below b0)
 rw [<-hB] at g0 b0 ⊢
 have G0:=qh g0
 have B0:=qh b0
 have HB:=qh hB
 obtain ⟨sq,gn,v⟩:=y
 obtain ⟨m,t,u⟩:=v
 clear h hg hr hk e1 e2 ha hb hy hD hn LR g0 b0 hB
 go_enter Tryz.func100,Tryz.ntmps100
 go_wp2_with fail
 rw [<-HB.out]
 refine (CL.out _ S0.out).mono ?_
 rintro e w1 ⟨rfl,hb1⟩
 have G1:=qh (G0.out.below hb1)
 have B1:=qh (B0.out.trans (hb1.mono (by rw [HB.out]; simp)))
 clear hb1
 have END:=qh (fun (W:World) (x1 x2 x3:Int) (r:RowAt W B [.int .i64 x1,.int .i64 x2,.int .i64 x3] 120) (tm:Array Value) (hp:tm.getD 4 undef=.pointer (some ⟨B,0,none⟩))=>results_cell_one (fn:=Tryz.f100) rfl tm W B _ [.int .i64 x1,.int .i64 x2,.int .i64 x3] _ hp r Tryz.underlying120 rfl (by kernel_rfl))
 have LT:=qh (show B<w1.heap.size from G1.out.lt)
 have AL:=qh (G1.out.alloc (.cells #[.int .i64 sq,.bool gn,.bool m,.string t,.int .u64 (u:Int)] 129))
 have AB:=qh (B1.out.alloc (Nat.le_of_lt LT.out) (.cells #[.int .i64 sq,.bool gn,.bool m,.string t,.int .u64 (u:Int)] 129))
 have f0:=AL.out.frozen 0
 have f1:=AL.out.frozen 1
 have f2:=AL.out.frozen 2
 have d0:=AL.out.cell 0
 have d1:=AL.out.cell 1
 have d2:=AL.out.cell 2
 simp only [geS] at d0 d1 d2
 by_cases q:D=true∧gn=false
 ·obtain ⟨rfl,rfl⟩:=q
  have ea:a=k.size+(Val.pack ⟨m,t,u⟩).size:=EA.out
  have eb:b=1:=EB.out
  have CX:=qh (fun w=>CW.out rfl w)
  obtain ⟨z,hz⟩:=nmq (k.size+(Val.pack ⟨m,t,u⟩).size)
  simp only [<-hz] at CX ea
  have CX:Hid (∀ w,Calls Tryz.prog 101 #[.string k,.agg #[.bool m,.string t,.int .u64 (u:Int)]] w fun e w'=>e=.returned (.int .i64 (z:Nat))∧Below w.heap.size w w'):=CX
  subst ea; subst eb
  clear CW EA EB CL hz
  go_wp2_with fail
  refine (CX.out _).mono ?_
  rintro e w2 ⟨rfl,hb2⟩
  have G2:=qh (AL.out.below hb2)
  have B2:=qh (AB.out.trans (hb2.mono (by simp; have:=LT.out; omega)))
  clear f0 f1 f2 d0 d1 d2
  have f0:=G2.out.frozen 0
  have f1:=G2.out.frozen 1
  have f2:=G2.out.frozen 2
  have d0:=G2.out.cell 0
  have d1:=G2.out.cell 1
  have d2:=G2.out.cell 2
  simp only [geS] at d0 d1 d2
  clear hb2
  go_wp2_with fail
  refine bodyPost_ret (END.out _ _ _ _ (((G2.out.set 0 _).set 1 _).set 2 _) _ rfl) rfl ⟨rfl,((B2.out.setCell (p:=⟨B,0,none⟩) (Nat.le_refl _) _).setCell (p:=⟨B,1,none⟩) (Nat.le_refl _) _).setCell (p:=⟨B,2,none⟩) (Nat.le_refl _) _⟩
 ·have q2:D=false∨gn=true:=by
   cases D
   ·exact .inl rfl
   ·cases gn
    ·exact absurd ⟨rfl,rfl⟩ q
    ·exact .inr rfl
  have ea:a=0:=by rw [EA.out,if_pos q2]
  have eb:b=0:=by rw [EB.out,if_pos q2]
  subst ea; subst eb
  clear CW EA EB CL q
  cases D with
  | false =>
   clear q2
   go_wp2_with fail
   refine bodyPost_ret (END.out _ _ _ _ (((AL.out.set 0 _).set 1 _).set 2 _) _ rfl) rfl ⟨rfl,((AB.out.setCell (p:=⟨B,0,none⟩) (Nat.le_refl _) _).setCell (p:=⟨B,1,none⟩) (Nat.le_refl _) _).setCell (p:=⟨B,2,none⟩) (Nat.le_refl _) _⟩
  | true =>
   have e:gn=true:=by rcases q2 with q2 | q2; cases q2; exact q2
   subst e
   clear q2
   go_wp2_with fail
   refine bodyPost_ret (END.out _ _ _ _ (((AL.out.set 0 _).set 1 _).set 2 _) _ rfl) rfl ⟨rfl,((AB.out.setCell (p:=⟨B,0,none⟩) (Nat.le_refl _) _).setCell (p:=⟨B,1,none⟩) (Nat.le_refl _) _).setCell (p:=⟨B,2,none⟩) (Nat.le_refl _) _⟩

end Go.Proofs.YtoljhoabbaigdaaGreat

namespace Go.Proofs.YtoljhoabbaigdaaGreat
open Go.RowKit

section
variable {w0 w:World} {N:Nat->Prop} {b:Nat} {s:Sh} {L:Ch} {P:Nat} {os2:List Ob}
theorem Sh.rowAt (h:Side w0 N w (s.os b++os2)):RowAt w b s.row 124:=h.rowAt (i:=0) rfl
theorem Sh.fits (a:s.AtF L P):s.l.length<=4000∧∀ x,x ∈ s.l->x.1.size<=1000000 :=
 ⟨by rw [a.fine.llen]; have:=a.n5; omega,fun x hx=>by have:=a.fine.kmem (k:=x.1) (p:=x.2) hx; omega⟩
theorem Sh.tview (h:Side w0 N w (s.os b++os2)) (a:s.AtF L P):(s.T=none∧s.l=[]∧s.tv=.slice none 0 0) ∨
  ∃ t g c E,s.T=some t∧s.tv=.slice (some ⟨g,0,none⟩) 1 c∧w.cell? ⟨g,0,none⟩=some (Ptr t)∧Rep w t E s.l s.bd:=by
 obtain ⟨F,hP⟩:=h.get (i:=1) rfl
 have hv:=h.vecAt (i:=2) (t:=196) (v:=s.tv) (xs:=Sh.ptrs s.T) rfl
 rcases hP with ⟨e,e2,_⟩ | ⟨t,e,hr⟩
 ·exact .inl ⟨e,e2,(a.t0 e).1⟩
 ·refine .inr ?_
  rw [e] at hv
  rcases vec_form hv with ⟨_,e3⟩ | ⟨g,c,e3,hc,hg,hcell,_⟩
  ·cases e3
  ·exact ⟨t,g,c,F,e,e3,hcell 0 (by show 0<1; decide),hr⟩
theorem xFindR (h:Side w0 N w (s.os b++os2)) (a:s.AtF L P) (k:ByteArray) :
  Calls Tryz.prog 107 #[PtrS b,.string k] w fun e w'=>∃ tp p,e=.returned (.tuple #[tp,.int .i64 p])∧Below w.heap.size w w'∧(L.has k=false->tp=.pointer none∧p=0)∧(L.has k=true->∃ t,s.T=some t∧tp=Ptr t∧p=s.l.num (s.l.pos k)):=by
 have c5:=(Sh.rowAt h).cell 5
 simp only [Sh.row,List.getElem?_cons_succ,List.getElem?_cons_zero] at c5
 have hh:=a.fine.has k
 rcases Sh.tview h a with ⟨e1,e2,e3⟩ | ⟨t,g,c,E,e1,e2,c0,hr⟩
 ·have hn:L.has k=false:=by rw [<-hh,e2]; rfl
  have HN:=qh hn
  rw [e3] at c5
  clear h a e1 e2 e3 hh hn
  go_enter Tryz.func107,Tryz.ntmps107
  go_wp2_with fail
  refine wp_loop_rounds 1 ?_
  rw [rounds_succ]
  go_wp2_with fail
  go_ret2
  exact ⟨_,_,rfl,Below.refl _ _,fun _=>⟨rfl,rfl⟩,fun z=>by rw [HN.out] at z; cases z⟩
 ·obtain ⟨f1,f2⟩:=Sh.fits a
  have GC:=qh (xGet w t E s.l s.bd k hr f1)
  rw [e2] at c5
  have HT:=qh e1
  cases hk:s.l.has k with
  | false =>
   rw [hk] at GC
   simp only [Bool.false_eq_true,if_false] at GC
   have HL:=qh (show L.has k=false by rw [<-hh,hk])
   clear h a e1 e2 hh hr f1 f2 hk
   go_enter Tryz.func107,Tryz.ntmps107
   go_wp2_with fail
   refine wp_loop_rounds 2 ?_
   rw [rounds_succ]
   go_wp2_with fail
   refine GC.out.mono ?_
   rintro e w1 ⟨rfl,hb⟩
   have HB:=qh hb
   clear hb
   go_wp2_with fail
   rw [rounds_succ]
   go_wp2_with fail
   go_ret2
   exact ⟨_,_,rfl,HB.out,fun _=>⟨rfl,rfl⟩,fun z=>by rw [HL.out] at z; cases z⟩
  | true =>
   rw [hk,if_pos rfl] at GC
   have HL:=qh (show L.has k=true by rw [<-hh,hk])
   obtain ⟨p,hp⟩:=nmq (s.l.num (s.l.pos k))
   rw [<-hp] at GC ⊢
   clear h a e1 e2 hh hr f1 f2 hk hp
   go_enter Tryz.func107,Tryz.ntmps107
   go_wp2_with fail
   refine wp_loop_rounds 2 ?_
   rw [rounds_succ]
   go_wp2_with fail
   refine GC.out.mono ?_
   rintro e w1 ⟨rfl,hb⟩
   have HB:=qh hb
   clear hb
   go_wp2_with fail
   go_ret2
   exact ⟨_,_,rfl,HB.out,fun z=>(by rw [HL.out] at z; cases z),fun _=>⟨t,HT.out,rfl,rfl⟩⟩
theorem Sh.cview (h:Side w0 N w (s.os b++os2)) {n:Nat} (hn:n<s.cs.length):∃ g c A c2,s.cv=.slice (some ⟨g,0,none⟩) s.cs.length c∧w.cell? ⟨g,n,none⟩=some (.slice A (s.cs.getD n []).length c2)∧w.frozen? ⟨g,n,none⟩=false∧(s.cs.getD n []).length<=c2∧SlV w A (s.cs.getD n []):=by
 have hv:=h.vecAt (i:=3) (t:=145) (v:=s.cv) (xs:=s.vs) rfl
 obtain ⟨F,hP⟩:=h.get (i:=5) (o:=oDat s.vs s.cs) rfl
 have hl:s.vs.length=s.cs.length:=hP.len
 obtain ⟨A,c2,e,hc,hs⟩:=hP.at_ n hn
 rcases vec_form hv with ⟨_,e3⟩ | ⟨g,c,e3,_,hg,hcell,hf⟩
 ·rw [e3] at hl; simp at hl; omega
 ·rw [hl] at e3
  refine ⟨g,c,A,c2,e3,?_,hf n,hc,hs.1⟩
  rw [hcell n (by omega),<-e,List.getD_eq_getElem?_getD,List.getElem?_eq_getElem (by omega)]; rfl
theorem xChainR (h:Side w0 N w (s.os b++os2)) (a:s.AtF L P) (k:ByteArray) :
  Calls Tryz.prog 73 #[PtrS b,.string k] w fun e w'=>∃ A c,e=.returned (.slice A (L.of k).length c)∧(L.of k).length<=c∧SlV w' A (L.of k)∧Below w.heap.size w w':=by
 have FC:=qh (xFindR h a k)
 cases hk:L.has k with
 | false =>
  have eo:=qh (Ch.of_no hk)
  have FC:=qh (FC.out.mono (R':=fun e w'=>e=.returned (.tuple #[.pointer none,.int .i64 0])∧Below w.heap.size w w') fun e w' ⟨tp,p,h1,h2,h3,_⟩=>by obtain ⟨rfl,rfl⟩:=h3 hk; exact ⟨h1,h2⟩)
  rw [eo.out]
  clear h a hk
  go_enter Tryz.func73,Tryz.ntmps73
  go_wp2_with fail
  refine FC.out.mono ?_
  rintro e w1 ⟨rfl,hb⟩
  have HB:=qh hb
  clear hb
  go_wp2_with fail
  go_ret
  exact ⟨none,0,rfl,Nat.le_refl _,SlV.nil _ _,HB.out⟩
 | true =>
  obtain ⟨n,n1,n2,n3,_,_⟩:=a.fine.place hk
  obtain ⟨t,ht⟩:∃ t,s.T=some t:=by
   rcases Sh.tview h a with ⟨_,e2,_⟩ | ⟨t,_,_,_,e1,_⟩
   ·have:=a.fine.has k; rw [e2,hk] at this; cases this
   ·exact ⟨t,e1⟩
  have FC:=qh (FC.out.mono (R':=fun e w'=>e=.returned (.tuple #[Ptr t,.int .i64 (n:Int)])∧Below w.heap.size w w') fun e w' ⟨tp,p,h1,h2,_,h4⟩=>by
   obtain ⟨t',e1,rfl,rfl⟩:=h4 hk
   rw [ht] at e1
   injection e1 with e1
   subst e1
   rw [n1] at h1
   exact ⟨h1,h2⟩)
  have CV:=qh (fun W (hb:Below w.heap.size w W)=>show ∃ g c A c2,W.cell? ⟨b,6,none⟩=some (.slice (some ⟨g,0,none⟩) s.cs.length c)∧W.cell? ⟨g,n,none⟩=some (.slice A (L.of k).length c2)∧(L.of k).length<=c2∧SlV W A (L.of k) from by
   obtain ⟨g,c,A,c2,e1,e2,_,e4,e5⟩:=Sh.cview (h.below hb) n2
   have c6:=(Sh.rowAt (h.below hb)).cell 6
   simp only [Sh.row,List.getElem?_cons_succ,List.getElem?_cons_zero] at c6
   rw [n3] at e2 e4 e5
   rw [e1] at c6
   exact ⟨g,c,A,c2,c6,e2,e4,e5⟩)
  have bn:=a.n3
  have b4:=a.n4
  obtain ⟨M,hM⟩:=nmq (s.cs.length)
  obtain ⟨l,hl⟩:=nmq (L.of k)
  obtain ⟨m,hm⟩:=nmq (l.length)
  rw [<-hl] at CV ⊢
  rw [<-hm] at CV ⊢
  rw [<-hM] at n2 bn
  simp only [<-hM] at CV
  clear h a hk ht n1 n3 hM hl hm
  go_enter Tryz.func73,Tryz.ntmps73
  go_wp2_with fail
  refine FC.out.mono ?_
  rintro e w1 ⟨rfl,hb⟩
  obtain ⟨g,c,A,c2,q1,q2,q3,q4⟩:=CV.out w1 hb
  have HB:=qh hb
  have Q3:=qh q3
  have Q4:=qh q4
  clear hb q3 q4 CV
  have i0:(0:Int)<=(n:Int):=by omega
  have i1:(n:Int)<(M:Int):=by omega
  go_wp2_with fail
  go_ret
  exact ⟨A,c2,rfl,Q3.out,Q4.out,HB.out⟩
end

end Go.Proofs.YtoljhoabbaigdaaGreat

namespace Go.Proofs.YtoljhoabbaigdaaGreat
open Go.RowKit

theorem infoT:(Tryz.prog.info? 196).map (fun i=>(i.zero,i.size,i.bytes))=some (some (.pointer none),1,8):=by kernel_rfl
theorem infoC:(Tryz.prog.info? 145).map (fun i=>(i.zero,i.size,i.bytes))=some (some (.slice none 0 0),1,24):=by kernel_rfl
section
variable {w0 w:World} {N:Nat->Prop} {b:Nat} {s:Sh} {L:Ch} {P:Nat} {os os2:List Ob} {i:Nat}
theorem Sh.vlen (h:Side w0 N w (s.os b++os2)):s.vs.length=s.cs.length:=by
 obtain ⟨F,hP⟩:=h.get (i:=5) (o:=oDat s.vs s.cs) rfl
 exact hP.len
theorem Sh.cform (h:Side w0 N w (s.os b++os2)):∃ A c,s.cv=.slice A s.cs.length c:=by
 have hv:=h.vecAt (i:=3) (t:=145) (v:=s.cv) (xs:=s.vs) rfl
 have hl:=Sh.vlen h
 rcases vec_form hv with ⟨e,e2⟩ | ⟨g,c,e,_⟩
 ·rw [e2] at hl
  exact ⟨none,0,by rw [e,<-hl]; rfl⟩
 ·exact ⟨_,c,by rw [e,hl]⟩
theorem Sh.fform (h:Side w0 N w (s.os b++os2)):∃ A c,s.fv=.slice A s.fr.length c∧s.fr.length<=c∧(0<s.fr.length->∃ g,A=some ⟨g,0,none⟩∧∀ j,j<s.fr.length->w.cell? ⟨g,j,none⟩=some (.int .i64 (s.fr.getD j 0:Nat))):=by
 have hv:=h.vecAt (i:=4) (t:=3) (v:=s.fv) (xs:=Sh.frs s.fr) rfl
 have hl:(Sh.frs s.fr).length=s.fr.length:=by unfold Sh.frs; simp
 rcases vec_form hv with ⟨e,e2⟩ | ⟨g,c,e,hc,_,hcell,_⟩
 ·rw [e2] at hl
  exact ⟨none,0,by rw [e,<-hl]; rfl,by rw [<-hl]; exact Nat.le_refl _,fun hp=>by rw [<-hl] at hp; exact absurd hp (by simp)⟩
 ·rw [hl] at e hc hcell
  refine ⟨_,c,e,hc,fun _=>⟨g,rfl,fun j hj=>?_⟩⟩
  rw [hcell j hj]
  unfold Sh.frs
  rw [List.getElem?_map,List.getElem?_eq_getElem hj,List.getD_eq_getElem?_getD,List.getElem?_eq_getElem hj]; rfl
theorem Sh.rowSet (h:Side w0 N w os) (hi:os[i]?=some (Ob.row b s.row 124)) (j:Nat) (v:Value):Side w0 N (w.setCell ⟨b,j,none⟩ v) (os.set i (Ob.row b (s.row.set j v) 124)) :=
 h.rowSet hi ((Chg.refl (fun k=>k=b) w).setCell (.inl rfl) v) ((h.rowAt hi).set j v)

def Sh.rows (s:Sh) (cv fv:Value) (vs:List Value) (cs:List (List Ver)) (fr:List Nat):Sh:={ s with cv:=cv,fv:=fv,vs:=vs,cs:=cs,fr:=fr }
theorem xTake1R {A:Option Addr} {c:List Ver} {n cap:Nat} (hn:n=c.length) (h:Side w0 N w (s.os b++[oCh A c])) (hcap:n<=cap) (hf:s.fr=[]) (hl:s.cs.length<=100000) :
  Calls Tryz.prog 111 #[PtrS b,.slice A n cap] w fun e w'=>∃ cv,e=.returned (.int .i64 (s.cs.length:Nat))∧Side w0 N w' ((s.rows cv s.fv (s.vs++[.slice A n cap]) (s.cs++[c]) s.fr).os b):=by
 have c7:=(Sh.rowAt h).cell 7
 have d6:=(Sh.rowAt h).cell 6
 simp only [Sh.row,List.getElem?_cons_succ,List.getElem?_cons_zero] at d6 c7
 obtain ⟨A3,c3,e3,_,_⟩:=Sh.fform h
 rw [e3,hf] at c7
 simp only [List.length_nil] at c7
 obtain ⟨A4,c4,e4⟩:=Sh.cform h
 have hv:=Sh.vlen h
 obtain ⟨M,hM⟩:=nmq (s.cs.length)
 rw [<-hM] at hl e4 hv ⊢
 have HV:=qh hv
 have HM:=qh hM
 have HF:=qh hf
 have HN:=qh hn
 have E4:=qh e4
 have HS:=qh h
 have h1:=h.below (w':=w.alloc (.cells #[.slice A n cap] 145)) ((Below.refl _ _).alloc (Nat.le_refl _) _)
 have H1:=qh h1
 have X1:=qh (cell_new1 w (.slice A n cap) 145)
 clear h hM hf hn e3 e4 hv h1
 go_enter Tryz.func111,Tryz.ntmps111
 go_wp2_with (at_builtin; refine wp_sideV rfl (.tmp 19) (.tmp 21) 118 145 rfl Tryz.underlying118 infoC rfl (by decide) s.cv s.vs rfl H1.out (i:=3) rfl w.heap.size (.slice A n cap) rfl X1.out rfl (by rw [HV.out]; omega) ?_; intro g' c' m w2 hm h2; rw [HV.out] at hm; have HMM:=qh hm; have H2:=qh h2; have q6:=(H2.out.rowAt (i:=0) rfl).cell 6; have f6:=(H2.out.rowAt (i:=0) rfl).frozen 6; simp only [Sh.row,List.getElem?_cons_succ,List.getElem?_cons_zero] at q6; clear hm h2)
 go_ret
 have h3:=H2.out.rowSet (i:=0) (g:=b) (cs':=(s.rows (.slice (some ⟨g',0,none⟩) m c') s.fv s.vs s.cs s.fr).row) rfl ((Chg.refl (fun k=>k=b) w2).setCell (p:=⟨b,6,none⟩) (.inl rfl) (.slice (some ⟨g',0,none⟩) m c')) ((H2.out.rowAt (i:=0) rfl).set 6 _)
 have h4:Side w0 N (w2.setCell ⟨b,6,none⟩ (.slice (some ⟨g',0,none⟩) m c')) ((((s.rows (.slice (some ⟨g',0,none⟩) m c') s.fv (s.vs++[.slice A n cap]) (s.cs++[c]) s.fr).os b).set 5 (oDat s.vs s.cs))++[oCh A c]):=h3
 refine ⟨.slice (some ⟨g',0,none⟩) m c',?_,?_⟩
 ·rw [HMM.out]
  show Ending.returned (.int .i64 (wrap64 (((M+1:Nat):Int)-1)))=_
  rw [show wrap64 (((M+1:Nat):Int)-1)=(M:Int) by unfold wrap64; omega]
 ·have h5:=h4.merge (i:=5) (oi:=oDat s.vs s.cs) (o':=oDat (s.vs++[.slice A n cap]) (s.cs++[c])) rfl (fun F F' p q=>by rw [HN.out]; exact DatP.push p q (by rw [<-HN.out]; exact hcap))
  exact h5
theorem xTake2R {A:Option Addr} {c:List Ver} {n cap p:Nat} {fr:List Nat} (hn:n=c.length) (h:Side w0 N w (s.os b++[oCh A c])) (hcap:n<=cap) (hf:s.fr=fr++[p]) (hp:p<s.cs.length) (hl2:fr.length<=100000) :
  Calls Tryz.prog 111 #[PtrS b,.slice A n cap] w fun e w'=>∃ fv,e=.returned (.int .i64 (p:Nat))∧Side w0 N w' ((s.rows s.cv fv (s.vs.set p (.slice A n cap)) (s.cs.set p c) fr).os b):=by
 have c7:=(Sh.rowAt h).cell 7
 have c6:=(Sh.rowAt h).cell 6
 have f7:=(Sh.rowAt h).frozen 7
 simp only [Sh.row,List.getElem?_cons_succ,List.getElem?_cons_zero] at c6 c7
 obtain ⟨A3,c3,e3,k3,hc3⟩:=Sh.fform h
 have fl:s.fr.length=fr.length+1:=by rw [hf]; simp
 obtain ⟨g7,rfl,hc7⟩:=hc3 (by omega)
 have l7:=hc7 fr.length (by omega)
 rw [show s.fr.getD fr.length 0=p by rw [hf,List.getD_eq_getElem?_getD,List.getElem?_append_right (Nat.le_refl _),Nat.sub_self]; rfl] at l7
 obtain ⟨g6,c4,A5,c5,e4,q4,fz,_,_⟩:=Sh.cview h hp
 have n6:g6≠b:=h.vecNe (i:=0) (j:=3) (t2:=145) (n:=s.cs.length) (c:=c4) (xs:=s.vs) rfl (by rw [<-e4]; rfl) (by decide)
 obtain ⟨F,hF⟩:=nmq (fr.length)
 obtain ⟨m,hm⟩:=nmq (s.fr.length)
 obtain ⟨M,hM⟩:=nmq (s.cs.length)
 obtain ⟨z,hz⟩:=nmq ((s.cs.getD p []).length)
 rw [<-hz] at q4
 rw [e3,<-hm] at c7
 rw [e4,<-hM] at c6
 rw [<-hF] at l7 fl hl2
 rw [<-hm] at fl k3
 rw [<-hM] at hp
 have i1:wrap64 ((m:Int)-1)=(F:Int):=by rw [fl]; unfold wrap64; omega
 have i2:(0:Int)<=(F:Int):=by omega
 have i3:(F:Int)<(m:Int):=by omega
 have i4:(F:Int)<=(c3:Int):=by omega
 have i5:(0:Int)<=(p:Int):=by omega
 have i6:(p:Int)<(M:Int):=by omega
 have HN:=qh hn
 have HS:=qh h
 have E3:=qh e3
 have E4:=qh e4
 have HF:=qh hf
 have FL:=qh hF
 have HM:=qh hM
 have HM2:=qh hm
 have I6:=qh hp
 clear h hn e3 e4 hf hF hM hm hc7 hc3 hz fl k3 hp
 go_enter Tryz.func111,Tryz.ntmps111
 go_wp2_with fail
 go_ret
 refine ⟨.slice (some ⟨g7,0,none⟩) F c3,rfl,?_⟩
 have h1:=HS.out.rowSet (i:=0) (g:=b) (cs':=(s.rows s.cv (.slice (some ⟨g7,0,none⟩) F c3) s.vs s.cs s.fr).row) rfl ((Chg.refl (fun k=>k=b) w).setCell (p:=⟨b,7,none⟩) (.inl rfl) (.slice (some ⟨g7,0,none⟩) F c3)) ((HS.out.rowAt (i:=0) rfl).set 7 _)
 have h2:=h1.vecPopV (i:=4) (t:=3) (v:=s.fv) (ys:=Sh.frs s.fr) (xs:=Sh.frs fr) (u:=.int .i64 (p:Int)) (n':=F) rfl E3.out (by rw [HF.out]; unfold Sh.frs; rw [List.map_append]; rfl) (by rw [FL.out]; unfold Sh.frs; rw [List.length_map])
 have h3:=h2.vecSetV (i:=3) (t:=145) (v:=s.cv) (xs:=s.vs) (p:=p) (u:=.slice A n cap) rfl E4.out
 have h4:Side w0 N ((w.setCell ⟨b,7,none⟩ (.slice (some ⟨g7,0,none⟩) F c3)).setCell ⟨g6,p,none⟩ (.slice A n cap)) ((((s.rows s.cv (.slice (some ⟨g7,0,none⟩) F c3) (s.vs.set p (.slice A n cap)) (s.cs.set p c) fr).os b).set 5 (oDat s.vs s.cs))++[oCh A c]):=h3
 have h5:=h4.merge (i:=5) (oi:=oDat s.vs s.cs) (o':=oDat (s.vs.set p (.slice A n cap)) (s.cs.set p c)) rfl (fun F F' q1 q2=>by have q:=DatP.put (c:=cap) q1 q2 (by rw [<-HN.out]; exact hcap) (p:=p) (by rw [<-HM.out]; exact I6.out); rw [<-HN.out] at q; exact q)
 exact h5
end

end Go.Proofs.YtoljhoabbaigdaaGreat

namespace Go.Proofs.YtoljhoabbaigdaaGreat
open Go.RowKit

section
variable {w0 w:World} {N:Nat->Prop} {b:Nat} {s:Sh} {os:List Ob} {i:Nat}
theorem sPut {t:Nat} {l:KV} {bd:Nat} (h:Side w0 N w os) (hi:os[i]?=some (oTree (some t) l bd)) (k:ByteArray) (n:Int) (hl:l.length<=4000) (hb:bd<=800000) (hk:k.size<=1000000) :
  Calls Tryz.prog 130 #[Ptr t,.string k,.int .i64 n] w fun x w'=>x=.returned (.tuple #[.int .i64 (if l.has k then l.num (l.pos k) else 0),.bool (l.has k),.int .i64 0])∧Side w0 N w' (os.set i (oTree (some t) (l.put k n) (bd+29))) :=
 h.call hi fun F hP _=>by
  rcases hP with ⟨e,_⟩ | ⟨t',e,hr⟩
  ·cases e
  ·injection e with e
   subst e
   exact (xPut w t F l bd k n hr hl hb hk).mono fun x w' ⟨h1,E',h2,h3,h4⟩=>⟨h1,h4,E',.inr ⟨t,rfl,h2⟩,h3⟩
theorem sNew (h:Side w0 N w os):Calls Tryz.prog 131 #[] w fun x w'=>x=.returned (Ptr w.heap.size)∧Side w0 N w' (os++[oTree (some w.heap.size) [] 0]) :=
 (xNew w).mono fun x w' ⟨h1,h2,h3⟩=>⟨h1,h.more h3 (F':=fun k=>k=w.heap.size) (.inr ⟨_,rfl,Tab.bare,h2,.inl ⟨rfl,rfl⟩,Nat.le_refl _⟩) fun k e=>by omega⟩
theorem xLay1R {t:Nat} (h:Side w0 N w (s.os b)) (ht:s.T=some t) (k:ByteArray) (n:Nat) (hl:s.l.length<=4000) (hb:s.bd<=800000) (hk:k.size<=1000000) :
  Calls Tryz.prog 110 #[PtrS b,.string k,.int .i64 (n:Int)] w fun e w'=>e=.returned (.tuple #[])∧Side w0 N w' (({ s with l:=s.l.put k n,bd:=s.bd+29 }:Sh).os b):=by
 have h0:Side w0 N w (s.os b++[]):=by rw [List.append_nil]; exact h
 have c5:=(Sh.rowAt h0).cell 5
 simp only [Sh.row,List.getElem?_cons_succ,List.getElem?_cons_zero] at c5
 have hv:=h.vecAt (i:=2) (t:=196) (v:=s.tv) (xs:=Sh.ptrs s.T) rfl
 rw [ht] at hv
 rcases vec_form hv with ⟨_,e3⟩ | ⟨g,c,e3,hc,hg,hcell,_⟩
 ·cases e3
 have c0:w.cell? ⟨g,0,none⟩=some (Ptr t):=hcell 0 (by show 0<1; decide)
 have e3:s.tv=.slice (some ⟨g,0,none⟩) 1 c:=e3
 rw [e3] at c5
 have PC:=qh (sPut h (i:=1) (t:=t) (l:=s.l) (bd:=s.bd) (by rw [<-ht]; rfl) k n hl hb hk)
 have PC:=qh (PC.out.mono (R':=fun x w'=>(∃ n2 b2,x=.returned (.tuple #[.int .i64 n2,.bool b2,.int .i64 0]))∧Side w0 N w' (({ s with l:=s.l.put k n,bd:=s.bd+29 }:Sh).os b)) fun x w' ⟨h1,h2⟩=>⟨⟨_,_,h1⟩,by rw [<-ht] at h2; exact h2⟩)
 clear h h0 hv hc hg hcell ht hl hb hk e3
 go_enter Tryz.func110,Tryz.ntmps110
 go_wp2_with fail
 refine wp_loop_rounds 2 ?_
 rw [rounds_succ]
 go_wp2_with fail
 refine PC.out.mono ?_
 rintro e w1 ⟨⟨n2,b2,rfl⟩,hS⟩
 have HS:=qh hS
 clear hS
 go_wp2_with fail
 exact bodyPost_ret (results_none rfl _ _ _) rfl ⟨rfl,HS.out⟩
theorem xLay0R (h:Side w0 N w (s.os b)) (ht:s.T=none) (h0:s.tv=.slice none 0 0) (hl:s.l=[]) (k:ByteArray) (n:Nat) (hk:k.size<=1000000) :
  Calls Tryz.prog 110 #[PtrS b,.string k,.int .i64 (n:Int)] w fun e w'=>e=.returned (.tuple #[])∧∃ t tv,Side w0 N w' (({ s with T:=some t,tv:=tv,l:=s.l.put k n,bd:=29 }:Sh).os b):=by
 have h1:Side w0 N w (s.os b++[]):=by rw [List.append_nil]; exact h
 have c5:=(Sh.rowAt h1).cell 5
 simp only [Sh.row,List.getElem?_cons_succ,List.getElem?_cons_zero] at c5
 rw [h0] at c5
 have NC:=qh (sNew h)
 obtain ⟨t,hti⟩:=nmq (w.heap.size)
 rw [<-hti] at NC
 have PC:=qh (fun W (hS:Side w0 N W (s.os b++[oTree (some t) [] 0]))=>(sPut hS (i:=8) (t:=t) (l:=[]) (bd:=0) rfl k n (by decide) (by decide) hk).mono (R':=fun x w'=>(∃ n2 b2,x=.returned (.tuple #[.int .i64 n2,.bool b2,.int .i64 0]))∧Side w0 N w' (s.os b++[oTree (some t) (KV.put [] k n) 29])) fun x w' ⟨h1,h2⟩=>⟨⟨_,_,h1⟩,h2⟩)
 have HT:=qh ht
 have H0:=qh h0
 have HL:=qh hl
 clear h h1 h0 ht hl hti hk
 go_enter Tryz.func110,Tryz.ntmps110
 go_wp2_with fail
 refine wp_loop_rounds 1 ?_
 rw [rounds_succ]
 go_wp2_with fail
 refine NC.out.mono ?_
 rintro e w1 ⟨rfl,hS1⟩
 have S1:=qh hS1
 clear hS1 NC c5
 go_wp2_with fail
 refine (PC.out _ S1.out).mono ?_
 rintro e w2 ⟨⟨n2,b2,rfl⟩,hS2⟩
 have S2:=qh (hS2.below (w':=w2.alloc (.cells #[Ptr t] 196)) ((Below.refl _ _).alloc (Nat.le_refl _) _))
 have c5:=(hS2.rowAt (i:=0) rfl).cell 5
 simp only [Sh.row,List.getElem?_cons_succ,List.getElem?_cons_zero] at c5
 have X2:=qh (cell_new1 w2 (Ptr t) 196)
 clear hS2 PC
 go_wp2_with (at_builtin; refine wp_sideV rfl (.tmp 41) (.tmp 43) 117 196 rfl Tryz.underlying117 infoT rfl (by decide) s.tv [] rfl S2.out (i:=2) (by rw [show ([]:List Value)=Sh.ptrs s.T by rw [HT.out]; rfl]; rfl) w2.heap.size (Ptr t) rfl X2.out rfl (by decide) ?_; intro g' c' m w3 hm h3; have H3:=qh h3; have q5:=(H3.out.rowAt (i:=0) rfl).cell 5; have f5:=(H3.out.rowAt (i:=0) rfl).frozen 5; simp only [Sh.row,List.getElem?_cons_succ,List.getElem?_cons_zero] at q5; clear hm h3)
 refine bodyPost_end (results_none rfl _ _ _) rfl ⟨rfl,t,.slice (some ⟨g',0,none⟩) m c',?_⟩
 rw [HL.out]
 have h4:=H3.out.rowSet (i:=0) (g:=b) (cs':=({ s with tv:=.slice (some ⟨g',0,none⟩) m c' }:Sh).row) rfl ((Chg.refl (fun k=>k=b) w3).setCell (p:=⟨b,5,none⟩) (.inl rfl) (.slice (some ⟨g',0,none⟩) m c')) ((H3.out.rowAt (i:=0) rfl).set 5 _)
 have h5:Side w0 N (w3.setCell ⟨b,5,none⟩ (.slice (some ⟨g',0,none⟩) m c')) (((({ s with T:=some t,tv:=.slice (some ⟨g',0,none⟩) m c',l:=KV.put [] k n,bd:=29 }:Sh).os b).set 1 (oTree s.T s.l s.bd))++[oTree (some t) (KV.put [] k n) 29]):=h4
 have h6:=h5.merge (i:=1) (oi:=oTree s.T s.l s.bd) (o':=oTree (some t) (KV.put [] k n) 29) rfl (fun F F' p q=>by
  rcases p with ⟨_,_,p⟩ | ⟨t',e,_⟩
  ·rw [show (fun k=>F k∨F' k)=F' from by funext k; simp [p k]]
   exact q
  ·rw [HT.out] at e; cases e)
 exact h6
end

end Go.Proofs.YtoljhoabbaigdaaGreat

namespace Go.Proofs.YtoljhoabbaigdaaGreat
open Go.RowKit

section
variable {w0 w:World} {N:Nat->Prop} {b:Nat} {s:Sh} {L:Ch} {P:Nat} {os:List Ob} {i:Nat}
theorem good_of {L:Ch} (h:GoodC L) (hR:∀ x,x ∈ L->rightL x.2=true) (k:ByteArray):GoodL (L.of k)∧rightL (L.of k)=true∧(L.of k).length<=1000:=by
 cases q:L.has k with
 | false=>rw [Ch.of_no q]; exact ⟨GoodL.nil,rfl,by decide⟩
 | true =>
  obtain ⟨j,hj,e1,e2⟩:=Ch.mem_at.1 (Ch.mem_has q)
  have g:=h.get hj
  rw [e2] at g
  exact ⟨⟨g.1,g.2.1,g.2.2.1⟩,hR _ (Ch.mem_has q),g.2.2.1⟩
theorem wgt_small {k:ByteArray} {l:List Ver} (hg:GoodL l) (hr:rightL l=true) (hk:k.size<=1000):Ch.wgt (k,l)<=2000:=by
 rw [wgt_last hr hg]
 split
 ·omega
 ·rename_i z
  have hp:0<l.length:=by
   have:¬ l.length=0:=fun e=>z (.inl e)
   omega
  have:=(Val.pack_size _ (last_right hr hg hp).2.2).1
  omega
theorem aliv_le (x:ByteArray × List Ver):Ch.aliv x<=1:=by unfold Ch.aliv; split<;>omega
theorem sum_le {f:ByteArray × List Ver->Nat} {B:Nat}:∀ {L:Ch},(∀ x,x ∈ L->f x<=B)->(L.map f).sum<=L.length * B
 | [],_=>by simp
 | x :: L,h=>by
  have:=sum_le (L:=L) fun y hy=>h y (List.mem_cons_of_mem _ hy)
  have:=h x (by simp)
  rw [List.map_cons,List.sum_cons,List.length_cons,Nat.add_mul]
  omega
theorem sums_small {L:Ch} (h:GoodC L) (hl:L.length<=3950):L.live<=11850000∧L.alive<=3950∧L.vers<=3950000:=by
 have a:=sum_le (f:=Ch.wgt) (B:=3000) (wgt_le h)
 have b:=sum_le (L:=L) (f:=Ch.aliv) (B:=1) fun x _=>aliv_le x
 have c:=sum_le (f:=fun x=>x.2.length) (B:=1000) h.lens
 refine ⟨?_,?_,?_⟩
 ·unfold Ch.live; omega
 ·unfold Ch.alive; omega
 ·unfold Ch.vers; omega
def Sh.sum (s:Sh) (y1 y2 y3:Int):Sh:={ s with x1:=y1,x2:=y2,x3:=y3 }
theorem Sh.sumSet {y1 y2 y3:Int} {os2:List Ob} {W:World} (h:Side w0 N W (s.os b++os2)):Side w0 N (((W.setCell ⟨b,8,none⟩ (.int .i64 y1)).setCell ⟨b,9,none⟩ (.int .i64 y2)).setCell ⟨b,10,none⟩ (.int .i64 y3)) ((s.sum y1 y2 y3).os b++os2):=by
 have r:=Sh.rowAt h
 have c:Chg (fun k=>k=b) W (((W.setCell ⟨b,8,none⟩ (.int .i64 y1)).setCell ⟨b,9,none⟩ (.int .i64 y2)).setCell ⟨b,10,none⟩ (.int .i64 y3)) :=
  (((Chg.refl (fun k=>k=b) W).setCell (p:=⟨b,8,none⟩) (.inl rfl) _).setCell (p:=⟨b,9,none⟩) (.inl rfl) _).setCell (p:=⟨b,10,none⟩) (.inl rfl) _
 exact h.rowSet (i:=0) (g:=b) (cs':=(s.sum y1 y2 y3).row) rfl c (((r.set 8 _).set 9 _).set 10 _)
theorem Sh.AtF.sums {y1 y2 y3:Int} (a:s.AtF L P):(s.sum y1 y2 y3).AtF L P:=⟨a.fine,a.t0,a.n1,a.n2,a.n3,a.n4,a.good,a.right,a.n5⟩
theorem sums_give (L:Ch) (k:ByteArray) (c:List Ver):(L.give k c).live+Ch.wgt (k,L.of k)=L.live+Ch.wgt (k,c)∧(L.give k c).alive+Ch.aliv (k,L.of k)=L.alive+Ch.aliv (k,c)∧(L.give k c).vers+(L.of k).length=L.vers+c.length :=
 ⟨Ch.sum_give Ch.wgt rfl c,Ch.sum_give Ch.aliv rfl c,Ch.sum_give (fun x=>x.2.length) rfl c⟩
theorem good_give {L:Ch} {k:ByteArray} {c:List Ver} (h:GoodC L) (hg:GoodL c) (hr:rightL c=true) (hk:k.size<=1000) (hl:(L.give k c).length<=100000):GoodC (L.give k c):=by
 refine ⟨hl,fun x hx=>?_,fun x hx=>?_,fun x hx=>?_,fun x hx=>?_,Ch.rise_give h.rise,fun x hx=>?_⟩
 all_goals rcases (Ch.mem_give h.rise).1 hx with rfl | ⟨e,_⟩
 ·exact hg.fits
 ·exact h.fits x e
 ·exact hg.texts
 ·exact h.texts x e
 ·exact hg.len
 ·exact h.lens x e
 ·exact hk
 ·exact h.keys x e
 ·exact rise_of_right hr
 ·exact h.rises x e
theorem right_give {L:Ch} {k:ByteArray} {c:List Ver} (h:GoodC L) (hR:∀ x,x ∈ L->rightL x.2=true) (hr:rightL c=true):∀ x,x ∈ L.give k c->rightL x.2=true:=fun x hx=>by
 rcases (Ch.mem_give h.rise).1 hx with rfl | ⟨e,_⟩
 ·exact hr
 ·exact hR x e
theorem Sh.hasT {os2:List Ob} {k:ByteArray} (h:Side w0 N w (s.os b++os2)) (a:s.AtF L P) (hk:L.has k=true):∃ t,s.T=some t:=by
 rcases Sh.tview h a with ⟨_,e2,_⟩ | ⟨t,_,_,_,e1,_⟩
 ·have:=a.fine.has k; rw [e2,hk] at this; cases this
 ·exact ⟨t,e1⟩
theorem xSetOldR {A:Option Addr} {c:List Ver} {n cap:Nat} {k:ByteArray} (h:Side w0 N w (s.os b++[oCh A c])) (a:s.At L P) (hn:n=c.length) (hcap:n<=cap) (h0:0<n) (hg:GoodL c) (hr:rightL c=true) (hk:k.size<=1000) (hh:L.has k=true) :
  Calls Tryz.prog 74 #[PtrS b,.string k,.slice A n cap] w fun e w'=>e=.returned (.tuple #[])∧∃ s',Side w0 N w' (s'.os b)∧Sh.Hd s s'∧s'.At (L.give k c) P:=by
 have fk:=good_of a.f.good a.f.right k
 have hx1:=a.x1
 have hx2:=a.x2
 have hx3:=a.x3
 obtain ⟨b1,b2,b3⟩:=sums_small a.f.good a.f.n5
 have wu:=wgt_small fk.1 fk.2.1 hk
 have wv:=wgt_small hg hr hk
 have au:=aliv_le (k,L.of k)
 have av:=aliv_le (k,c)
 have ln:=hg.len
 obtain ⟨m,hm⟩:=nmq ((L.of k).length)
 obtain ⟨u1,hu1⟩:=nmq (Ch.wgt (k,L.of k))
 obtain ⟨u2,hu2⟩:=nmq (Ch.aliv (k,L.of k))
 obtain ⟨v1,hv1⟩:=nmq (Ch.wgt (k,c))
 obtain ⟨v2,hv2⟩:=nmq (Ch.aliv (k,c))
 obtain ⟨d1,hd1⟩:=nmq (s.x1-(u1:Int))
 obtain ⟨d2,hd2⟩:=nmq (s.x2-(u2:Int))
 obtain ⟨d3,hd3⟩:=nmq (s.x3-(m:Int))
 obtain ⟨y1,hy1⟩:=nmq (d1+(v1:Int))
 obtain ⟨y2,hy2⟩:=nmq (d2+(v2:Int))
 obtain ⟨y3,hy3⟩:=nmq (d3+(n:Int))
 have SUM:=qh (show y1=(L.live:Int)-(u1:Int)+(v1:Int)∧y2=(L.alive:Int)-(u2:Int)+(v2:Int)∧y3=(L.vers:Int)-(m:Int)+(n:Int) from ⟨by omega,by omega,by omega⟩)
 have HU:=qh (show u1=Ch.wgt (k,L.of k)∧u2=Ch.aliv (k,L.of k)∧m=(L.of k).length∧v1=Ch.wgt (k,c)∧v2=Ch.aliv (k,c)∧n=c.length from ⟨hu1,hu2,hm,hv1,hv2,hn⟩)
 have KC:=qh (fun W (hb:Below w.heap.size w W)=>show Calls Tryz.prog 73 #[PtrS b,.string k] W fun e w'=>∃ A c,e=.returned (.slice A m c)∧SlV w' A (L.of k)∧Below W.heap.size W w' from (xChainR (h.below hb) a.f k).mono fun e w' ⟨A',c',h1,_,h3,h4⟩=>⟨A',c',by rw [hm]; exact h1,h3,h4⟩)
 have KS:=qh (fun W A' c' (hs:SlV W A' (L.of k))=>show Calls Tryz.prog 100 #[.string k,.slice A' m c'] W fun e w'=>e=.returned (.agg #[.int .i64 (u1:Int),.int .i64 (u2:Int),.int .i64 (m:Int)])∧Below W.heap.size W w' from by
  rw [hm,hu1,hu2]
  exact xSumsR k (L.of k) A' c' W hs fk.1 fk.2.1 (by omega))
 have KT:=qh (fun W (hb:Below w.heap.size w W)=>show Calls Tryz.prog 100 #[.string k,.slice A n cap] W fun e w'=>e=.returned (.agg #[.int .i64 (v1:Int),.int .i64 (v2:Int),.int .i64 (n:Int)])∧Below W.heap.size W w' from by
  rw [hn,hv1,hv2]
  obtain ⟨F,hP⟩:=(h.below hb).get (i:=8) (o:=oCh A c) rfl
  exact xSumsR k c A cap W hP.1.1 hg hr (by omega))
 have KL:=qh (fun W=>xLessR s.x1 s.x2 s.x3 u1 u2 m d1 d2 d3 W (by rw [hd1,hx1]; unfold wrap64; omega) (by rw [hd2,hx2]; unfold wrap64; omega) (by rw [hd3,hx3]; unfold wrap64; omega))
 have KP:=qh (fun W=>xPlusR d1 d2 d3 v1 v2 n y1 y2 y3 W (by rw [hy1,hd1,hx1]; unfold wrap64; omega) (by rw [hy2,hd2,hx2]; unfold wrap64; omega) (by rw [hy3,hd3,hx3]; unfold wrap64; omega))
 have CX:=qh (fun W (hb:Below w.heap.size w W)=>show W.cell? ⟨b,8,none⟩=some (.int .i64 s.x1)∧W.cell? ⟨b,9,none⟩=some (.int .i64 s.x2)∧W.cell? ⟨b,10,none⟩=some (.int .i64 s.x3)∧(∀ j,W.frozen? ⟨b,j,none⟩=false) from by
  have r:=Sh.rowAt (h.below hb)
  exact ⟨r.cell 8,r.cell 9,r.cell 10,fun j=>r.frozen j⟩)
 have HS:=qh (fun W (hb:Below w.heap.size w W)=>Sh.sumSet (y1:=y1) (y2:=y2) (y3:=y3) (h.below hb))
 have B0:=qh (show Below w.heap.size w w.drew from (Below.refl _ _).drew)
 have HA:=qh a
 have HG:=qh (And.intro hg hr)
 have HN:=qh hn
 have HCAP:=qh hcap
 clear fk hx1 hx2 hx3 b1 b2 b3 wu wv au av ln hm hu1 hu2 hv1 hv2 hd1 hd2 hd3 hy1 hy2 hy3
 clear h a hn hg hr hcap
 go_enter Tryz.func74,Tryz.ntmps74
 go_wp2_with fail
 refine wp_region_held_drew (S:=(fun _=>True)) (by kernel_rfl) (trivial) (fun gH=>?_)
 refine rgT 0 (v:=?v1) ?y1 gH ?_
 case y1=>(intro v hSw; go_simp<;>rfl)
 refine rgT 1 (v:=?v2) ?y2 gH ?_
 case y2=>(intro v hSw; go_simp<;>rfl)
 refine rgT 2 (v:=?v3) ?y3 gH ?_
 case y3=>(intro v hSw; go_simp<;>rfl)
 try simp only [putS]
 refine rgT 3 (v:=?v4) ?y4 gH ?_
 case y4=>(intro v hSw; go_simp<;>rfl)
 refine rgT 5 (v:=?v5) ?y5 gH ?_
 case y5=>(intro v hSw; go_simp<;>rfl)
 refine rgT 6 (v:=?v6) ?y6 gH ?_
 case y6=>(intro v hSw; go_simp<;>rfl)
 try simp only [putS]
 refine rgT 7 (v:=?v7) ?y7 gH ?_
 case y7=>(intro v hSw; go_simp<;>rfl)
 refine rgT 11 (v:=?v8) ?y8 gH ?_
 case y8=>(intro v hSw; go_simp<;>rfl)
 refine rgT 12 (v:=?v9) ?y9 gH ?_
 case y9=>(intro v hSw; go_simp<;>rfl)
 try simp only [putS]
 have BX:=B0
 refine rgnTwo 4 8 rfl rfl (by kernel_rfl) (fun K hK=>?_) (fun K hK=>?_)
 ·obtain ⟨c8,c9,c10,-⟩:=CX.out _ BX.out
  go_simp
  refine hK.out _ _ trivial (fun gH=>?_)
  clear hK K c8 c9 c10
  try simp only [putS]
  refine rgO 8 fun K hK=>?_
  go_simp
  refine (KC.out _ BX.out).mono ?_
  rintro r W1 ⟨A1,c1,rfl,hs1,hb1⟩
  refine hK.out _ _ trivial (fun gH=>?_)
  clear hK K
  try simp only [putS]
  have S1:=qh hs1
  have B1:=qh (below_then BX.out hb1)
  clear hs1 hb1
  refine rgO 9 fun K hK=>?_
  go_simp
  refine (KS.out _ _ _ S1.out).mono ?_
  rintro r W2 ⟨rfl,hb2⟩
  refine hK.out _ _ trivial (fun gH=>?_)
  clear hK K
  try simp only [putS]
  have B2:=qh (below_then B1.out hb2)
  clear hb2
  refine rgO 10 fun K hK=>?_
  go_simp
  refine (KL.out _).mono ?_
  rintro r W3 ⟨rfl,hb3⟩
  refine hK.out _ _ trivial (fun gH=>?_)
  clear hK K
  try simp only [putS]
  have B3:=qh (below_then B2.out hb3)
  clear hb3
  refine rgO 13 fun K hK=>?_
  go_simp
  refine (KT.out _ B3.out).mono ?_
  rintro r W4 ⟨rfl,hb4⟩
  refine hK.out _ _ trivial (fun gH=>?_)
  clear hK K
  try simp only [putS]
  have B4:=qh (below_then B3.out hb4)
  clear hb4
  refine rgO 14 fun K hK=>?_
  go_simp
  refine (KP.out _).mono ?_
  rintro r W5 ⟨rfl,hb5⟩
  refine hK.out _ _ trivial (fun gH=>?_)
  clear hK K
  try simp only [putS]
  have B5:=qh (below_then B4.out hb5)
  obtain ⟨c8,c9,c10,cf⟩:=CX.out _ B5.out
  have f8:=cf 8
  have f9:=cf 9
  have f10:=cf 10
  have HS5:=qh (HS.out _ B5.out)
  clear hb5 cf
  refine rgT 15 (v:=?v10) ?y10 gH ?_
  case y10=>(intro v hSw; go_simp<;>rfl)
  refine rgT 16 (v:=?v11) ?y11 gH ?_
  case y11=>(intro v hSw; go_simp<;>rfl)
  try simp only [putS]
  refine rgO 17 fun K hK=>?_
  go_simp
  refine hK.out _ _ trivial (fun gH=>?_)
  clear hK K c8 c9 c10 f8 f9 f10
  try simp only [putS]
  obtain ⟨W6,hW6⟩:=nmq (((W5.setCell ⟨b,8,none⟩ (.int .i64 y1)).setCell ⟨b,9,none⟩ (.int .i64 y2)).setCell ⟨b,10,none⟩ (.int .i64 y3))
  rw [<-hW6] at HS5 ⊢
  clear hW6
  refine rgD ?_
  have af:(s.sum y1 y2 y3).AtF L P:=HA.out.f.sums
  obtain ⟨n0,p1,p2,p3,-,p5⟩:=af.fine.place hh
  obtain ⟨t,ht⟩:=Sh.hasT HS5.out af hh
  have FC:=qh ((xFindR HS5.out af k).mono (R':=fun e w'=>e=.returned (.tuple #[Ptr t,.int .i64 (n0:Int)])∧Side w0 N w' ((s.sum y1 y2 y3).os b++[oCh A c])) fun e w' ⟨tp,p,q1,q2,_,q4⟩=>by
   obtain ⟨t',e1,rfl,rfl⟩:=q4 hh
   rw [ht] at e1
   injection e1 with e1
   subst e1
   rw [p1] at q1
   exact ⟨q1,HS5.out.below q2⟩)
  have P2:=qh p2
  have P5:=qh p5
  have n3:=af.n3
  have n4:=af.n4
  clear af p1 p2 p3 p5 ht
  go_wp2_with fail
  refine FC.out.mono ?_
  rintro e W7 ⟨rfl,h7⟩
  have H7:=qh h7
  obtain ⟨g6,c4,A5,c5,e4,q4,fz,-,-⟩:=Sh.cview h7 P2.out
  have n6:g6≠b:=h7.vecNe (i:=0) (j:=3) (t2:=145) (n:=(s.sum y1 y2 y3).cs.length) (c:=c4) (xs:=(s.sum y1 y2 y3).vs) rfl (by rw [<-e4]; rfl) (by decide)
  have c6:=(Sh.rowAt h7).cell 6
  simp only [Sh.row,List.getElem?_cons_succ,List.getElem?_cons_zero] at c6
  obtain ⟨z,hz⟩:=nmq (((s.sum y1 y2 y3).cs.getD n0 []).length)
  obtain ⟨M,hM⟩:=nmq ((s.sum y1 y2 y3).cs.length)
  rw [<-hz] at q4
  rw [e4,<-hM] at c6
  have E4:=qh e4
  have HM:=qh hM
  have i5:(0:Int)<=(n0:Int):=by omega
  have i6:(n0:Int)<(M:Int):=by have:=P2.out; omega
  have n0':((n:Int) == 0)=false:=by simp; omega
  clear h7 e4 hM hz FC
  go_wp2_with fail
  refine bodyPost_end (results_none rfl _ _ _) rfl ⟨rfl,?_⟩
  have h8:=H7.out.vecSetV (i:=3) (t:=145) (v:=(s.sum y1 y2 y3).cv) (xs:=(s.sum y1 y2 y3).vs) (p:=n0) (u:=.slice A n cap) rfl E4.out
  have h9:Side w0 N (W7.setCell ⟨g6,n0,none⟩ (.slice A n cap)) (((((s.sum y1 y2 y3).rows s.cv s.fv (s.vs.set n0 (.slice A n cap)) (s.cs.set n0 c) s.fr).os b).set 5 (oDat s.vs s.cs))++[oCh A c]):=h8
  have h10:=h9.merge (i:=5) (oi:=oDat s.vs s.cs) (o':=oDat (s.vs.set n0 (.slice A n cap)) (s.cs.set n0 c)) rfl (fun F F' q1 q2=>by have q:=DatP.put (c:=cap) q1 q2 (by rw [<-HN.out]; exact HCAP.out) (p:=n0) P2.out; rw [<-HN.out] at q; exact q)
  refine ⟨(s.sum y1 y2 y3).rows s.cv s.fv (s.vs.set n0 (.slice A n cap)) (s.cs.set n0 c) s.fr,h10,⟨rfl,rfl,rfl,rfl,rfl,rfl,rfl⟩,?_⟩
  have af:=HA.out.f
  have gl:(L.give k c).length=L.length:=by rw [Ch.give_len,if_pos hh]
  obtain ⟨z1,z2,z3⟩:=sums_give L k c
  obtain ⟨w1,w2,w3⟩:=SUM.out
  obtain ⟨w4,w5,w6,w7,w8,w9⟩:=HU.out
  refine ⟨⟨af.fine.old P5.out hh,af.t0,by rw [gl]; exact af.n1,by rw [gl]; exact af.n2,by show (s.cs.set n0 c).length<=P; rw [List.length_set]; exact af.n3,af.n4,good_give af.good HG.out.1 HG.out.2 hk (by rw [gl]; exact af.good.len),right_give af.good af.right HG.out.2,by rw [gl]; exact af.n5⟩,?_,?_,?_⟩
  ·show y1=_; omega
  ·show y2=_; omega
  ·show y3=_; omega
 ·go_simp
  refine (KC.out _ BX.out).mono ?_
  rintro r W1 ⟨A1,c1,rfl,hs1,hb1⟩
  refine hK.out _ _ trivial (fun gH=>?_)
  clear hK K
  try simp only [putS]
  have S1:=qh hs1
  have B1:=qh (below_then BX.out hb1)
  clear hs1 hb1
  refine rgnTwo 4 9 rfl rfl (by kernel_rfl) (fun K hK=>?_) (fun K hK=>?_)
  ·obtain ⟨c8,c9,c10,-⟩:=CX.out _ B1.out
   go_simp
   refine hK.out _ _ trivial (fun gH=>?_)
   clear hK K c8 c9 c10
   try simp only [putS]
   refine rgO 9 fun K hK=>?_
   go_simp
   refine (KS.out _ _ _ S1.out).mono ?_
   rintro r W2 ⟨rfl,hb2⟩
   refine hK.out _ _ trivial (fun gH=>?_)
   clear hK K
   try simp only [putS]
   have B2:=qh (below_then B1.out hb2)
   clear hb2
   refine rgO 10 fun K hK=>?_
   go_simp
   refine (KL.out _).mono ?_
   rintro r W3 ⟨rfl,hb3⟩
   refine hK.out _ _ trivial (fun gH=>?_)
   clear hK K
   try simp only [putS]
   have B3:=qh (below_then B2.out hb3)
   clear hb3
   refine rgO 13 fun K hK=>?_
   go_simp
   refine (KT.out _ B3.out).mono ?_
   rintro r W4 ⟨rfl,hb4⟩
   refine hK.out _ _ trivial (fun gH=>?_)
   clear hK K
   try simp only [putS]
   have B4:=qh (below_then B3.out hb4)
   clear hb4
   refine rgO 14 fun K hK=>?_
   go_simp
   refine (KP.out _).mono ?_
   rintro r W5 ⟨rfl,hb5⟩
   refine hK.out _ _ trivial (fun gH=>?_)
   clear hK K
   try simp only [putS]
   have B5:=qh (below_then B4.out hb5)
   obtain ⟨c8,c9,c10,cf⟩:=CX.out _ B5.out
   have f8:=cf 8
   have f9:=cf 9
   have f10:=cf 10
   have HS5:=qh (HS.out _ B5.out)
   clear hb5 cf
   refine rgT 15 (v:=?v12) ?y12 gH ?_
   case y12=>(intro v hSw; go_simp<;>rfl)
   refine rgT 16 (v:=?v13) ?y13 gH ?_
   case y13=>(intro v hSw; go_simp<;>rfl)
   try simp only [putS]
   refine rgO 17 fun K hK=>?_
   go_simp
   refine hK.out _ _ trivial (fun gH=>?_)
   clear hK K c8 c9 c10 f8 f9 f10
   try simp only [putS]
   obtain ⟨W6,hW6⟩:=nmq (((W5.setCell ⟨b,8,none⟩ (.int .i64 y1)).setCell ⟨b,9,none⟩ (.int .i64 y2)).setCell ⟨b,10,none⟩ (.int .i64 y3))
   rw [<-hW6] at HS5 ⊢
   clear hW6
   refine rgD ?_
   have af:(s.sum y1 y2 y3).AtF L P:=HA.out.f.sums
   obtain ⟨n0,p1,p2,p3,-,p5⟩:=af.fine.place hh
   obtain ⟨t,ht⟩:=Sh.hasT HS5.out af hh
   have FC:=qh ((xFindR HS5.out af k).mono (R':=fun e w'=>e=.returned (.tuple #[Ptr t,.int .i64 (n0:Int)])∧Side w0 N w' ((s.sum y1 y2 y3).os b++[oCh A c])) fun e w' ⟨tp,p,q1,q2,_,q4⟩=>by
    obtain ⟨t',e1,rfl,rfl⟩:=q4 hh
    rw [ht] at e1
    injection e1 with e1
    subst e1
    rw [p1] at q1
    exact ⟨q1,HS5.out.below q2⟩)
   have P2:=qh p2
   have P5:=qh p5
   have n3:=af.n3
   have n4:=af.n4
   clear af p1 p2 p3 p5 ht
   go_wp2_with fail
   refine FC.out.mono ?_
   rintro e W7 ⟨rfl,h7⟩
   have H7:=qh h7
   obtain ⟨g6,c4,A5,c5,e4,q4,fz,-,-⟩:=Sh.cview h7 P2.out
   have n6:g6≠b:=h7.vecNe (i:=0) (j:=3) (t2:=145) (n:=(s.sum y1 y2 y3).cs.length) (c:=c4) (xs:=(s.sum y1 y2 y3).vs) rfl (by rw [<-e4]; rfl) (by decide)
   have c6:=(Sh.rowAt h7).cell 6
   simp only [Sh.row,List.getElem?_cons_succ,List.getElem?_cons_zero] at c6
   obtain ⟨z,hz⟩:=nmq (((s.sum y1 y2 y3).cs.getD n0 []).length)
   obtain ⟨M,hM⟩:=nmq ((s.sum y1 y2 y3).cs.length)
   rw [<-hz] at q4
   rw [e4,<-hM] at c6
   have E4:=qh e4
   have HM:=qh hM
   have i5:(0:Int)<=(n0:Int):=by omega
   have i6:(n0:Int)<(M:Int):=by have:=P2.out; omega
   have n0':((n:Int) == 0)=false:=by simp; omega
   clear h7 e4 hM hz FC
   go_wp2_with fail
   refine bodyPost_end (results_none rfl _ _ _) rfl ⟨rfl,?_⟩
   have h8:=H7.out.vecSetV (i:=3) (t:=145) (v:=(s.sum y1 y2 y3).cv) (xs:=(s.sum y1 y2 y3).vs) (p:=n0) (u:=.slice A n cap) rfl E4.out
   have h9:Side w0 N (W7.setCell ⟨g6,n0,none⟩ (.slice A n cap)) (((((s.sum y1 y2 y3).rows s.cv s.fv (s.vs.set n0 (.slice A n cap)) (s.cs.set n0 c) s.fr).os b).set 5 (oDat s.vs s.cs))++[oCh A c]):=h8
   have h10:=h9.merge (i:=5) (oi:=oDat s.vs s.cs) (o':=oDat (s.vs.set n0 (.slice A n cap)) (s.cs.set n0 c)) rfl (fun F F' q1 q2=>by have q:=DatP.put (c:=cap) q1 q2 (by rw [<-HN.out]; exact HCAP.out) (p:=n0) P2.out; rw [<-HN.out] at q; exact q)
   refine ⟨(s.sum y1 y2 y3).rows s.cv s.fv (s.vs.set n0 (.slice A n cap)) (s.cs.set n0 c) s.fr,h10,⟨rfl,rfl,rfl,rfl,rfl,rfl,rfl⟩,?_⟩
   have af:=HA.out.f
   have gl:(L.give k c).length=L.length:=by rw [Ch.give_len,if_pos hh]
   obtain ⟨z1,z2,z3⟩:=sums_give L k c
   obtain ⟨w1,w2,w3⟩:=SUM.out
   obtain ⟨w4,w5,w6,w7,w8,w9⟩:=HU.out
   refine ⟨⟨af.fine.old P5.out hh,af.t0,by rw [gl]; exact af.n1,by rw [gl]; exact af.n2,by show (s.cs.set n0 c).length<=P; rw [List.length_set]; exact af.n3,af.n4,good_give af.good HG.out.1 HG.out.2 hk (by rw [gl]; exact af.good.len),right_give af.good af.right HG.out.2,by rw [gl]; exact af.n5⟩,?_,?_,?_⟩
   ·show y1=_; omega
   ·show y2=_; omega
   ·show y3=_; omega
  ·go_simp
   refine (KS.out _ _ _ S1.out).mono ?_
   rintro r W2 ⟨rfl,hb2⟩
   refine hK.out _ _ trivial (fun gH=>?_)
   clear hK K
   try simp only [putS]
   have B2:=qh (below_then B1.out hb2)
   clear hb2
   obtain ⟨c8,c9,c10,-⟩:=CX.out _ B2.out
   refine rgO 4 fun K hK=>?_
   go_simp
   refine hK.out _ _ trivial (fun gH=>?_)
   clear hK K c8 c9 c10
   try simp only [putS]
   refine rgO 10 fun K hK=>?_
   go_simp
   refine (KL.out _).mono ?_
   rintro r W3 ⟨rfl,hb3⟩
   refine hK.out _ _ trivial (fun gH=>?_)
   clear hK K
   try simp only [putS]
   have B3:=qh (below_then B2.out hb3)
   clear hb3
   refine rgO 13 fun K hK=>?_
   go_simp
   refine (KT.out _ B3.out).mono ?_
   rintro r W4 ⟨rfl,hb4⟩
   refine hK.out _ _ trivial (fun gH=>?_)
   clear hK K
   try simp only [putS]
   have B4:=qh (below_then B3.out hb4)
   clear hb4
   refine rgO 14 fun K hK=>?_
   go_simp
   refine (KP.out _).mono ?_
   rintro r W5 ⟨rfl,hb5⟩
   refine hK.out _ _ trivial (fun gH=>?_)
   clear hK K
   try simp only [putS]
   have B5:=qh (below_then B4.out hb5)
   obtain ⟨c8,c9,c10,cf⟩:=CX.out _ B5.out
   have f8:=cf 8
   have f9:=cf 9
   have f10:=cf 10
   have HS5:=qh (HS.out _ B5.out)
   clear hb5 cf
   refine rgT 15 (v:=?v14) ?y14 gH ?_
   case y14=>(intro v hSw; go_simp<;>rfl)
   refine rgT 16 (v:=?v15) ?y15 gH ?_
   case y15=>(intro v hSw; go_simp<;>rfl)
   try simp only [putS]
   refine rgO 17 fun K hK=>?_
   go_simp
   refine hK.out _ _ trivial (fun gH=>?_)
   clear hK K c8 c9 c10 f8 f9 f10
   try simp only [putS]
   obtain ⟨W6,hW6⟩:=nmq (((W5.setCell ⟨b,8,none⟩ (.int .i64 y1)).setCell ⟨b,9,none⟩ (.int .i64 y2)).setCell ⟨b,10,none⟩ (.int .i64 y3))
   rw [<-hW6] at HS5 ⊢
   clear hW6
   refine rgD ?_
   have af:(s.sum y1 y2 y3).AtF L P:=HA.out.f.sums
   obtain ⟨n0,p1,p2,p3,-,p5⟩:=af.fine.place hh
   obtain ⟨t,ht⟩:=Sh.hasT HS5.out af hh
   have FC:=qh ((xFindR HS5.out af k).mono (R':=fun e w'=>e=.returned (.tuple #[Ptr t,.int .i64 (n0:Int)])∧Side w0 N w' ((s.sum y1 y2 y3).os b++[oCh A c])) fun e w' ⟨tp,p,q1,q2,_,q4⟩=>by
    obtain ⟨t',e1,rfl,rfl⟩:=q4 hh
    rw [ht] at e1
    injection e1 with e1
    subst e1
    rw [p1] at q1
    exact ⟨q1,HS5.out.below q2⟩)
   have P2:=qh p2
   have P5:=qh p5
   have n3:=af.n3
   have n4:=af.n4
   clear af p1 p2 p3 p5 ht
   go_wp2_with fail
   refine FC.out.mono ?_
   rintro e W7 ⟨rfl,h7⟩
   have H7:=qh h7
   obtain ⟨g6,c4,A5,c5,e4,q4,fz,-,-⟩:=Sh.cview h7 P2.out
   have n6:g6≠b:=h7.vecNe (i:=0) (j:=3) (t2:=145) (n:=(s.sum y1 y2 y3).cs.length) (c:=c4) (xs:=(s.sum y1 y2 y3).vs) rfl (by rw [<-e4]; rfl) (by decide)
   have c6:=(Sh.rowAt h7).cell 6
   simp only [Sh.row,List.getElem?_cons_succ,List.getElem?_cons_zero] at c6
   obtain ⟨z,hz⟩:=nmq (((s.sum y1 y2 y3).cs.getD n0 []).length)
   obtain ⟨M,hM⟩:=nmq ((s.sum y1 y2 y3).cs.length)
   rw [<-hz] at q4
   rw [e4,<-hM] at c6
   have E4:=qh e4
   have HM:=qh hM
   have i5:(0:Int)<=(n0:Int):=by omega
   have i6:(n0:Int)<(M:Int):=by have:=P2.out; omega
   have n0':((n:Int) == 0)=false:=by simp; omega
   clear h7 e4 hM hz FC
   go_wp2_with fail
   refine bodyPost_end (results_none rfl _ _ _) rfl ⟨rfl,?_⟩
   have h8:=H7.out.vecSetV (i:=3) (t:=145) (v:=(s.sum y1 y2 y3).cv) (xs:=(s.sum y1 y2 y3).vs) (p:=n0) (u:=.slice A n cap) rfl E4.out
   have h9:Side w0 N (W7.setCell ⟨g6,n0,none⟩ (.slice A n cap)) (((((s.sum y1 y2 y3).rows s.cv s.fv (s.vs.set n0 (.slice A n cap)) (s.cs.set n0 c) s.fr).os b).set 5 (oDat s.vs s.cs))++[oCh A c]):=h8
   have h10:=h9.merge (i:=5) (oi:=oDat s.vs s.cs) (o':=oDat (s.vs.set n0 (.slice A n cap)) (s.cs.set n0 c)) rfl (fun F F' q1 q2=>by have q:=DatP.put (c:=cap) q1 q2 (by rw [<-HN.out]; exact HCAP.out) (p:=n0) P2.out; rw [<-HN.out] at q; exact q)
   refine ⟨(s.sum y1 y2 y3).rows s.cv s.fv (s.vs.set n0 (.slice A n cap)) (s.cs.set n0 c) s.fr,h10,⟨rfl,rfl,rfl,rfl,rfl,rfl,rfl⟩,?_⟩
   have af:=HA.out.f
   have gl:(L.give k c).length=L.length:=by rw [Ch.give_len,if_pos hh]
   obtain ⟨z1,z2,z3⟩:=sums_give L k c
   obtain ⟨w1,w2,w3⟩:=SUM.out
   obtain ⟨w4,w5,w6,w7,w8,w9⟩:=HU.out
   refine ⟨⟨af.fine.old P5.out hh,af.t0,by rw [gl]; exact af.n1,by rw [gl]; exact af.n2,by show (s.cs.set n0 c).length<=P; rw [List.length_set]; exact af.n3,af.n4,good_give af.good HG.out.1 HG.out.2 hk (by rw [gl]; exact af.good.len),right_give af.good af.right HG.out.2,by rw [gl]; exact af.n5⟩,?_,?_,?_⟩
   ·show y1=_; omega
   ·show y2=_; omega
   ·show y3=_; omega
end

end Go.Proofs.YtoljhoabbaigdaaGreat

namespace Go.Proofs.YtoljhoabbaigdaaGreat
open Go.RowKit

section
variable {w0 w:World} {N:Nat->Prop} {b:Nat} {s:Sh} {L:Ch} {P:Nat} {os:List Ob} {i:Nat}
theorem xTakeR {A:Option Addr} {c:List Ver} {n cap:Nat} {k:ByteArray} (hn:n=c.length) (h:Side w0 N w (s.os b++[oCh A c])) (hcap:n<=cap) (a:s.AtF L P) (hk:k.size<=1000) (hh:L.has k=false) :
  Calls Tryz.prog 111 #[PtrS b,.slice A n cap] w fun e w'=>∃ (n0:Nat) (cv fv:Value) (vs:List Value) (cs:List (List Ver)) (fr:List Nat),e=.returned (.int .i64 (n0:Int))∧Side w0 N w' ((s.rows cv fv vs cs fr).os b)∧Fine (s.l.put k n0) cs fr (L.give k c)∧cs.length<=s.cs.length+1:=by
 have n3:=a.n3
 have n4:=a.n4
 have fl:=a.fine.len
 rcases List.eq_nil_or_concat s.fr with e | ⟨fr,p,e⟩
 ·refine (xTake1R hn h hcap e (by omega)).mono fun r w' ⟨cv,h1,h2⟩=>?_
  refine ⟨s.cs.length,cv,s.fv,_,_,_,h1,h2,?_,by simp⟩
  exact a.fine.push hh hk
 ·rw [List.concat_eq_append] at e
  have hf:=a.fine
  rw [e] at hf
  refine (xTake2R hn h hcap e (hf.frlt p (by simp)) (by rw [e] at fl; simp at fl; omega)).mono fun r w' ⟨fv,h1,h2⟩=>?_
  exact ⟨p,s.cv,fv,_,_,_,h1,h2,hf.reuse hh hk,by rw [List.length_set]; omega⟩
theorem xLayR (h:Side w0 N w (s.os b)) (h0:s.T=none->s.tv=.slice none 0 0∧s.l=[]) (k:ByteArray) (n:Nat) (hl:s.l.length<=4000) (hb:s.bd<=800000) (hk:k.size<=1000000) :
  Calls Tryz.prog 110 #[PtrS b,.string k,.int .i64 (n:Int)] w fun e w'=>e=.returned (.tuple #[])∧∃ (T:Option Nat) (tv:Value) (bd:Nat),Side w0 N w' (({ s with T:=T,tv:=tv,l:=s.l.put k n,bd:=bd }:Sh).os b)∧T≠none∧bd<=s.bd+29:=by
 cases ht:s.T with
 | none =>
  obtain ⟨e1,e2⟩:=h0 ht
  exact (xLay0R h ht e1 e2 k n hk).mono fun e w' ⟨h1,t,tv,h2⟩=>⟨h1,some t,tv,29,h2,by simp,by omega⟩
 | some t =>
  refine (xLay1R h ht k n hl hb hk).mono fun e w' ⟨h1,h2⟩=>⟨h1,some t,s.tv,s.bd+29,?_,by simp,Nat.le_refl _⟩
  rw [<-ht]; exact h2
theorem xSetNewR {A:Option Addr} {c:List Ver} {n cap:Nat} {k:ByteArray} (h:Side w0 N w (s.os b++[oCh A c])) (a:s.At L P) (hn:n=c.length) (hcap:n<=cap) (hP:P+1<=13200) (hL:L.length+1<=3950) (hg:GoodL c) (hr:rightL c=true) (hk:k.size<=1000) (hh:L.has k=false) :
  Calls Tryz.prog 74 #[PtrS b,.string k,.slice A n cap] w fun e w'=>e=.returned (.tuple #[])∧∃ s',Side w0 N w' (s'.os b)∧Sh.Hd s s'∧s'.At (L.give k c) (P+1):=by
 have fk:=good_of a.f.good a.f.right k
 have hx1:=a.x1
 have hx2:=a.x2
 have hx3:=a.x3
 obtain ⟨b1,b2,b3⟩:=sums_small a.f.good a.f.n5
 have wu:=wgt_small fk.1 fk.2.1 hk
 have wv:=wgt_small hg hr hk
 have au:=aliv_le (k,L.of k)
 have av:=aliv_le (k,c)
 have ln:=hg.len
 obtain ⟨m,hm⟩:=nmq ((L.of k).length)
 obtain ⟨u1,hu1⟩:=nmq (Ch.wgt (k,L.of k))
 obtain ⟨u2,hu2⟩:=nmq (Ch.aliv (k,L.of k))
 obtain ⟨v1,hv1⟩:=nmq (Ch.wgt (k,c))
 obtain ⟨v2,hv2⟩:=nmq (Ch.aliv (k,c))
 obtain ⟨d1,hd1⟩:=nmq (s.x1-(u1:Int))
 obtain ⟨d2,hd2⟩:=nmq (s.x2-(u2:Int))
 obtain ⟨d3,hd3⟩:=nmq (s.x3-(m:Int))
 obtain ⟨y1,hy1⟩:=nmq (d1+(v1:Int))
 obtain ⟨y2,hy2⟩:=nmq (d2+(v2:Int))
 obtain ⟨y3,hy3⟩:=nmq (d3+(n:Int))
 have SUM:=qh (show y1=(L.live:Int)-(u1:Int)+(v1:Int)∧y2=(L.alive:Int)-(u2:Int)+(v2:Int)∧y3=(L.vers:Int)-(m:Int)+(n:Int) from ⟨by omega,by omega,by omega⟩)
 have HU:=qh (show u1=Ch.wgt (k,L.of k)∧u2=Ch.aliv (k,L.of k)∧m=(L.of k).length∧v1=Ch.wgt (k,c)∧v2=Ch.aliv (k,c)∧n=c.length from ⟨hu1,hu2,hm,hv1,hv2,hn⟩)
 have KC:=qh (fun W (hb:Below w.heap.size w W)=>show Calls Tryz.prog 73 #[PtrS b,.string k] W fun e w'=>∃ A c,e=.returned (.slice A m c)∧SlV w' A (L.of k)∧Below W.heap.size W w' from (xChainR (h.below hb) a.f k).mono fun e w' ⟨A',c',h1,_,h3,h4⟩=>⟨A',c',by rw [hm]; exact h1,h3,h4⟩)
 have KS:=qh (fun W A' c' (hs:SlV W A' (L.of k))=>show Calls Tryz.prog 100 #[.string k,.slice A' m c'] W fun e w'=>e=.returned (.agg #[.int .i64 (u1:Int),.int .i64 (u2:Int),.int .i64 (m:Int)])∧Below W.heap.size W w' from by
  rw [hm,hu1,hu2]
  exact xSumsR k (L.of k) A' c' W hs fk.1 fk.2.1 (by omega))
 have KT:=qh (fun W (hb:Below w.heap.size w W)=>show Calls Tryz.prog 100 #[.string k,.slice A n cap] W fun e w'=>e=.returned (.agg #[.int .i64 (v1:Int),.int .i64 (v2:Int),.int .i64 (n:Int)])∧Below W.heap.size W w' from by
  rw [hn,hv1,hv2]
  obtain ⟨F,hP⟩:=(h.below hb).get (i:=8) (o:=oCh A c) rfl
  exact xSumsR k c A cap W hP.1.1 hg hr (by omega))
 have KL:=qh (fun W=>xLessR s.x1 s.x2 s.x3 u1 u2 m d1 d2 d3 W (by rw [hd1,hx1]; unfold wrap64; omega) (by rw [hd2,hx2]; unfold wrap64; omega) (by rw [hd3,hx3]; unfold wrap64; omega))
 have KP:=qh (fun W=>xPlusR d1 d2 d3 v1 v2 n y1 y2 y3 W (by rw [hy1,hd1,hx1]; unfold wrap64; omega) (by rw [hy2,hd2,hx2]; unfold wrap64; omega) (by rw [hy3,hd3,hx3]; unfold wrap64; omega))
 have CX:=qh (fun W (hb:Below w.heap.size w W)=>show W.cell? ⟨b,8,none⟩=some (.int .i64 s.x1)∧W.cell? ⟨b,9,none⟩=some (.int .i64 s.x2)∧W.cell? ⟨b,10,none⟩=some (.int .i64 s.x3)∧(∀ j,W.frozen? ⟨b,j,none⟩=false) from by
  have r:=Sh.rowAt (h.below hb)
  exact ⟨r.cell 8,r.cell 9,r.cell 10,fun j=>r.frozen j⟩)
 have HS:=qh (fun W (hb:Below w.heap.size w W)=>Sh.sumSet (y1:=y1) (y2:=y2) (y3:=y3) (h.below hb))
 have B0:=qh (show Below w.heap.size w w.drew from (Below.refl _ _).drew)
 have HA:=qh a
 have HG:=qh (And.intro hg hr)
 have HN:=qh hn
 have HCAP:=qh hcap
 clear fk hx1 hx2 hx3 b1 b2 b3 wu wv au av ln hm hu1 hu2 hv1 hv2 hd1 hd2 hd3 hy1 hy2 hy3
 clear h a hn hg hr hcap
 go_enter Tryz.func74,Tryz.ntmps74
 go_wp2_with fail
 refine wp_region_held_drew (S:=(fun _=>True)) (by kernel_rfl) (trivial) (fun gH=>?_)
 refine rgT 0 (v:=?v1) ?y1 gH ?_
 case y1=>(intro v hSw; go_simp<;>rfl)
 refine rgT 1 (v:=?v2) ?y2 gH ?_
 case y2=>(intro v hSw; go_simp<;>rfl)
 refine rgT 2 (v:=?v3) ?y3 gH ?_
 case y3=>(intro v hSw; go_simp<;>rfl)
 try simp only [putS]
 refine rgT 3 (v:=?v4) ?y4 gH ?_
 case y4=>(intro v hSw; go_simp<;>rfl)
 refine rgT 5 (v:=?v5) ?y5 gH ?_
 case y5=>(intro v hSw; go_simp<;>rfl)
 refine rgT 6 (v:=?v6) ?y6 gH ?_
 case y6=>(intro v hSw; go_simp<;>rfl)
 try simp only [putS]
 refine rgT 7 (v:=?v7) ?y7 gH ?_
 case y7=>(intro v hSw; go_simp<;>rfl)
 refine rgT 11 (v:=?v8) ?y8 gH ?_
 case y8=>(intro v hSw; go_simp<;>rfl)
 refine rgT 12 (v:=?v9) ?y9 gH ?_
 case y9=>(intro v hSw; go_simp<;>rfl)
 try simp only [putS]
 have BX:=B0
 refine rgnTwo 4 8 rfl rfl (by kernel_rfl) (fun K hK=>?_) (fun K hK=>?_)
 ·obtain ⟨c8,c9,c10,-⟩:=CX.out _ BX.out
  go_simp
  refine hK.out _ _ trivial (fun gH=>?_)
  clear hK K c8 c9 c10
  try simp only [putS]
  refine rgO 8 fun K hK=>?_
  go_simp
  refine (KC.out _ BX.out).mono ?_
  rintro r W1 ⟨A1,c1,rfl,hs1,hb1⟩
  refine hK.out _ _ trivial (fun gH=>?_)
  clear hK K
  try simp only [putS]
  have S1:=qh hs1
  have B1:=qh (below_then BX.out hb1)
  clear hs1 hb1
  refine rgO 9 fun K hK=>?_
  go_simp
  refine (KS.out _ _ _ S1.out).mono ?_
  rintro r W2 ⟨rfl,hb2⟩
  refine hK.out _ _ trivial (fun gH=>?_)
  clear hK K
  try simp only [putS]
  have B2:=qh (below_then B1.out hb2)
  clear hb2
  refine rgO 10 fun K hK=>?_
  go_simp
  refine (KL.out _).mono ?_
  rintro r W3 ⟨rfl,hb3⟩
  refine hK.out _ _ trivial (fun gH=>?_)
  clear hK K
  try simp only [putS]
  have B3:=qh (below_then B2.out hb3)
  clear hb3
  refine rgO 13 fun K hK=>?_
  go_simp
  refine (KT.out _ B3.out).mono ?_
  rintro r W4 ⟨rfl,hb4⟩
  refine hK.out _ _ trivial (fun gH=>?_)
  clear hK K
  try simp only [putS]
  have B4:=qh (below_then B3.out hb4)
  clear hb4
  refine rgO 14 fun K hK=>?_
  go_simp
  refine (KP.out _).mono ?_
  rintro r W5 ⟨rfl,hb5⟩
  refine hK.out _ _ trivial (fun gH=>?_)
  clear hK K
  try simp only [putS]
  have B5:=qh (below_then B4.out hb5)
  obtain ⟨c8,c9,c10,cf⟩:=CX.out _ B5.out
  have f8:=cf 8
  have f9:=cf 9
  have f10:=cf 10
  have HS5:=qh (HS.out _ B5.out)
  clear hb5 cf
  refine rgT 15 (v:=?v10) ?y10 gH ?_
  case y10=>(intro v hSw; go_simp<;>rfl)
  refine rgT 16 (v:=?v11) ?y11 gH ?_
  case y11=>(intro v hSw; go_simp<;>rfl)
  try simp only [putS]
  refine rgO 17 fun K hK=>?_
  go_simp
  refine hK.out _ _ trivial (fun gH=>?_)
  clear hK K c8 c9 c10 f8 f9 f10
  try simp only [putS]
  obtain ⟨W6,hW6⟩:=nmq (((W5.setCell ⟨b,8,none⟩ (.int .i64 y1)).setCell ⟨b,9,none⟩ (.int .i64 y2)).setCell ⟨b,10,none⟩ (.int .i64 y3))
  rw [<-hW6] at HS5 ⊢
  clear hW6
  refine rgD ?_
  have af:(s.sum y1 y2 y3).AtF L P:=HA.out.f.sums
  have FC:=qh ((xFindR HS5.out af k).mono (R':=fun e w'=>e=.returned (.tuple #[.pointer none,.int .i64 0])∧Side w0 N w' ((s.sum y1 y2 y3).os b++[oCh A c])) fun e w' ⟨tp,p,q1,q2,q3,_⟩=>by
   obtain ⟨rfl,rfl⟩:=q3 hh
   exact ⟨q1,HS5.out.below q2⟩)
  have KTK:=qh (fun W (hW:Side w0 N W ((s.sum y1 y2 y3).os b++[oCh A c]))=>xTakeR (k:=k) HN.out hW HCAP.out af hk hh)
  have nn1:=af.n1
  have nn2:=af.n2
  have nn4:=af.n4
  have nn5:=af.n5
  have LL:=qh (show s.l.length=L.length from af.fine.llen)
  have BD:=qh (show s.bd<=800000 from by have:s.bd<=29 * (2 * P-L.length):=nn2; omega)
  have KLY:=qh (fun W cv fv vs cs fr (n0:Nat) (hW:Side w0 N W (((s.sum y1 y2 y3).rows cv fv vs cs fr).os b))=>xLayR hW (show s.T=none->_ from HA.out.f.t0) k n0 (show s.l.length<=4000 by rw [LL.out]; omega) BD.out (by omega))
  clear af nn1 nn2 nn4 nn5
  go_wp2_with fail
  refine FC.out.mono ?_
  rintro e W7 ⟨rfl,h7⟩
  have K7:=qh (KTK.out _ h7)
  clear h7 FC KTK
  go_wp2_with fail
  refine K7.out.mono ?_
  rintro e W8 ⟨n0,cv,fv,vs,cs,fr,rfl,h8,f8,l8⟩
  have K8:=qh (KLY.out _ _ _ _ _ _ n0 h8)
  have F8:=qh f8
  have L8:=qh l8
  clear h8 f8 l8 K7 KLY
  go_wp2_with fail
  refine K8.out.mono ?_
  rintro e W9 ⟨rfl,T,tv,bd,h9,t9,b9⟩
  have H9:=qh h9
  have T9:=qh t9
  have B9:=qh b9
  clear h9 t9 b9 K8
  go_wp2_with fail
  refine bodyPost_end (results_none rfl _ _ _) rfl ⟨rfl,_,H9.out,⟨rfl,rfl,rfl,rfl,rfl,rfl,rfl⟩,?_⟩
  have af:=HA.out.f
  have gl:(L.give k c).length=L.length+1:=by rw [Ch.give_len,hh]; rfl
  obtain ⟨z1,z2,z3⟩:=sums_give L k c
  obtain ⟨w1,w2,w3⟩:=SUM.out
  obtain ⟨w4,w5,w6,w7,w8,w9⟩:=HU.out
  have b9:bd<=s.bd+29:=B9.out
  have l8:cs.length<=s.cs.length+1:=L8.out
  have e1:=af.n1
  have e2:=af.n2
  have e3:=af.n3
  have e4:=af.good.len
  refine ⟨⟨F8.out,fun e=>absurd e T9.out,by rw [gl]; omega,by rw [gl]; show bd<=_; omega,by show cs.length<=P+1; omega,hP,good_give af.good HG.out.1 HG.out.2 hk (by rw [gl]; omega),right_give af.good af.right HG.out.2,by rw [gl]; exact hL⟩,?_,?_,?_⟩
  ·show y1=_; omega
  ·show y2=_; omega
  ·show y3=_; omega
 ·go_simp
  refine (KC.out _ BX.out).mono ?_
  rintro r W1 ⟨A1,c1,rfl,hs1,hb1⟩
  refine hK.out _ _ trivial (fun gH=>?_)
  clear hK K
  try simp only [putS]
  have S1:=qh hs1
  have B1:=qh (below_then BX.out hb1)
  clear hs1 hb1
  refine rgnTwo 4 9 rfl rfl (by kernel_rfl) (fun K hK=>?_) (fun K hK=>?_)
  ·obtain ⟨c8,c9,c10,-⟩:=CX.out _ B1.out
   go_simp
   refine hK.out _ _ trivial (fun gH=>?_)
   clear hK K c8 c9 c10
   try simp only [putS]
   refine rgO 9 fun K hK=>?_
   go_simp
   refine (KS.out _ _ _ S1.out).mono ?_
   rintro r W2 ⟨rfl,hb2⟩
   refine hK.out _ _ trivial (fun gH=>?_)
   clear hK K
   try simp only [putS]
   have B2:=qh (below_then B1.out hb2)
   clear hb2
   refine rgO 10 fun K hK=>?_
   go_simp
   refine (KL.out _).mono ?_
   rintro r W3 ⟨rfl,hb3⟩
   refine hK.out _ _ trivial (fun gH=>?_)
   clear hK K
   try simp only [putS]
   have B3:=qh (below_then B2.out hb3)
   clear hb3
   refine rgO 13 fun K hK=>?_
   go_simp
   refine (KT.out _ B3.out).mono ?_
   rintro r W4 ⟨rfl,hb4⟩
   refine hK.out _ _ trivial (fun gH=>?_)
   clear hK K
   try simp only [putS]
   have B4:=qh (below_then B3.out hb4)
   clear hb4
   refine rgO 14 fun K hK=>?_
   go_simp
   refine (KP.out _).mono ?_
   rintro r W5 ⟨rfl,hb5⟩
   refine hK.out _ _ trivial (fun gH=>?_)
   clear hK K
   try simp only [putS]
   have B5:=qh (below_then B4.out hb5)
   obtain ⟨c8,c9,c10,cf⟩:=CX.out _ B5.out
   have f8:=cf 8
   have f9:=cf 9
   have f10:=cf 10
   have HS5:=qh (HS.out _ B5.out)
   clear hb5 cf
   refine rgT 15 (v:=?v12) ?y12 gH ?_
   case y12=>(intro v hSw; go_simp<;>rfl)
   refine rgT 16 (v:=?v13) ?y13 gH ?_
   case y13=>(intro v hSw; go_simp<;>rfl)
   try simp only [putS]
   refine rgO 17 fun K hK=>?_
   go_simp
   refine hK.out _ _ trivial (fun gH=>?_)
   clear hK K c8 c9 c10 f8 f9 f10
   try simp only [putS]
   obtain ⟨W6,hW6⟩:=nmq (((W5.setCell ⟨b,8,none⟩ (.int .i64 y1)).setCell ⟨b,9,none⟩ (.int .i64 y2)).setCell ⟨b,10,none⟩ (.int .i64 y3))
   rw [<-hW6] at HS5 ⊢
   clear hW6
   refine rgD ?_
   have af:(s.sum y1 y2 y3).AtF L P:=HA.out.f.sums
   have FC:=qh ((xFindR HS5.out af k).mono (R':=fun e w'=>e=.returned (.tuple #[.pointer none,.int .i64 0])∧Side w0 N w' ((s.sum y1 y2 y3).os b++[oCh A c])) fun e w' ⟨tp,p,q1,q2,q3,_⟩=>by
    obtain ⟨rfl,rfl⟩:=q3 hh
    exact ⟨q1,HS5.out.below q2⟩)
   have KTK:=qh (fun W (hW:Side w0 N W ((s.sum y1 y2 y3).os b++[oCh A c]))=>xTakeR (k:=k) HN.out hW HCAP.out af hk hh)
   have nn1:=af.n1
   have nn2:=af.n2
   have nn4:=af.n4
   have nn5:=af.n5
   have LL:=qh (show s.l.length=L.length from af.fine.llen)
   have BD:=qh (show s.bd<=800000 from by have:s.bd<=29 * (2 * P-L.length):=nn2; omega)
   have KLY:=qh (fun W cv fv vs cs fr (n0:Nat) (hW:Side w0 N W (((s.sum y1 y2 y3).rows cv fv vs cs fr).os b))=>xLayR hW (show s.T=none->_ from HA.out.f.t0) k n0 (show s.l.length<=4000 by rw [LL.out]; omega) BD.out (by omega))
   clear af nn1 nn2 nn4 nn5
   go_wp2_with fail
   refine FC.out.mono ?_
   rintro e W7 ⟨rfl,h7⟩
   have K7:=qh (KTK.out _ h7)
   clear h7 FC KTK
   go_wp2_with fail
   refine K7.out.mono ?_
   rintro e W8 ⟨n0,cv,fv,vs,cs,fr,rfl,h8,f8,l8⟩
   have K8:=qh (KLY.out _ _ _ _ _ _ n0 h8)
   have F8:=qh f8
   have L8:=qh l8
   clear h8 f8 l8 K7 KLY
   go_wp2_with fail
   refine K8.out.mono ?_
   rintro e W9 ⟨rfl,T,tv,bd,h9,t9,b9⟩
   have H9:=qh h9
   have T9:=qh t9
   have B9:=qh b9
   clear h9 t9 b9 K8
   go_wp2_with fail
   refine bodyPost_end (results_none rfl _ _ _) rfl ⟨rfl,_,H9.out,⟨rfl,rfl,rfl,rfl,rfl,rfl,rfl⟩,?_⟩
   have af:=HA.out.f
   have gl:(L.give k c).length=L.length+1:=by rw [Ch.give_len,hh]; rfl
   obtain ⟨z1,z2,z3⟩:=sums_give L k c
   obtain ⟨w1,w2,w3⟩:=SUM.out
   obtain ⟨w4,w5,w6,w7,w8,w9⟩:=HU.out
   have b9:bd<=s.bd+29:=B9.out
   have l8:cs.length<=s.cs.length+1:=L8.out
   have e1:=af.n1
   have e2:=af.n2
   have e3:=af.n3
   have e4:=af.good.len
   refine ⟨⟨F8.out,fun e=>absurd e T9.out,by rw [gl]; omega,by rw [gl]; show bd<=_; omega,by show cs.length<=P+1; omega,hP,good_give af.good HG.out.1 HG.out.2 hk (by rw [gl]; omega),right_give af.good af.right HG.out.2,by rw [gl]; exact hL⟩,?_,?_,?_⟩
   ·show y1=_; omega
   ·show y2=_; omega
   ·show y3=_; omega
  ·go_simp
   refine (KS.out _ _ _ S1.out).mono ?_
   rintro r W2 ⟨rfl,hb2⟩
   refine hK.out _ _ trivial (fun gH=>?_)
   clear hK K
   try simp only [putS]
   have B2:=qh (below_then B1.out hb2)
   clear hb2
   obtain ⟨c8,c9,c10,-⟩:=CX.out _ B2.out
   refine rgO 4 fun K hK=>?_
   go_simp
   refine hK.out _ _ trivial (fun gH=>?_)
   clear hK K c8 c9 c10
   try simp only [putS]
   refine rgO 10 fun K hK=>?_
   go_simp
   refine (KL.out _).mono ?_
   rintro r W3 ⟨rfl,hb3⟩
   refine hK.out _ _ trivial (fun gH=>?_)
   clear hK K
   try simp only [putS]
   have B3:=qh (below_then B2.out hb3)
   clear hb3
   refine rgO 13 fun K hK=>?_
   go_simp
   refine (KT.out _ B3.out).mono ?_
   rintro r W4 ⟨rfl,hb4⟩
   refine hK.out _ _ trivial (fun gH=>?_)
   clear hK K
   try simp only [putS]
   have B4:=qh (below_then B3.out hb4)
   clear hb4
   refine rgO 14 fun K hK=>?_
   go_simp
   refine (KP.out _).mono ?_
   rintro r W5 ⟨rfl,hb5⟩
   refine hK.out _ _ trivial (fun gH=>?_)
   clear hK K
   try simp only [putS]
   have B5:=qh (below_then B4.out hb5)
   obtain ⟨c8,c9,c10,cf⟩:=CX.out _ B5.out
   have f8:=cf 8
   have f9:=cf 9
   have f10:=cf 10
   have HS5:=qh (HS.out _ B5.out)
   clear hb5 cf
   refine rgT 15 (v:=?v14) ?y14 gH ?_
   case y14=>(intro v hSw; go_simp<;>rfl)
   refine rgT 16 (v:=?v15) ?y15 gH ?_
   case y15=>(intro v hSw; go_simp<;>rfl)
   try simp only [putS]
   refine rgO 17 fun K hK=>?_
   go_simp
   refine hK.out _ _ trivial (fun gH=>?_)
   clear hK K c8 c9 c10 f8 f9 f10
   try simp only [putS]
   obtain ⟨W6,hW6⟩:=nmq (((W5.setCell ⟨b,8,none⟩ (.int .i64 y1)).setCell ⟨b,9,none⟩ (.int .i64 y2)).setCell ⟨b,10,none⟩ (.int .i64 y3))
   rw [<-hW6] at HS5 ⊢
   clear hW6
   refine rgD ?_
   have af:(s.sum y1 y2 y3).AtF L P:=HA.out.f.sums
   have FC:=qh ((xFindR HS5.out af k).mono (R':=fun e w'=>e=.returned (.tuple #[.pointer none,.int .i64 0])∧Side w0 N w' ((s.sum y1 y2 y3).os b++[oCh A c])) fun e w' ⟨tp,p,q1,q2,q3,_⟩=>by
    obtain ⟨rfl,rfl⟩:=q3 hh
    exact ⟨q1,HS5.out.below q2⟩)
   have KTK:=qh (fun W (hW:Side w0 N W ((s.sum y1 y2 y3).os b++[oCh A c]))=>xTakeR (k:=k) HN.out hW HCAP.out af hk hh)
   have nn1:=af.n1
   have nn2:=af.n2
   have nn4:=af.n4
   have nn5:=af.n5
   have LL:=qh (show s.l.length=L.length from af.fine.llen)
   have BD:=qh (show s.bd<=800000 from by have:s.bd<=29 * (2 * P-L.length):=nn2; omega)
   have KLY:=qh (fun W cv fv vs cs fr (n0:Nat) (hW:Side w0 N W (((s.sum y1 y2 y3).rows cv fv vs cs fr).os b))=>xLayR hW (show s.T=none->_ from HA.out.f.t0) k n0 (show s.l.length<=4000 by rw [LL.out]; omega) BD.out (by omega))
   clear af nn1 nn2 nn4 nn5
   go_wp2_with fail
   refine FC.out.mono ?_
   rintro e W7 ⟨rfl,h7⟩
   have K7:=qh (KTK.out _ h7)
   clear h7 FC KTK
   go_wp2_with fail
   refine K7.out.mono ?_
   rintro e W8 ⟨n0,cv,fv,vs,cs,fr,rfl,h8,f8,l8⟩
   have K8:=qh (KLY.out _ _ _ _ _ _ n0 h8)
   have F8:=qh f8
   have L8:=qh l8
   clear h8 f8 l8 K7 KLY
   go_wp2_with fail
   refine K8.out.mono ?_
   rintro e W9 ⟨rfl,T,tv,bd,h9,t9,b9⟩
   have H9:=qh h9
   have T9:=qh t9
   have B9:=qh b9
   clear h9 t9 b9 K8
   go_wp2_with fail
   refine bodyPost_end (results_none rfl _ _ _) rfl ⟨rfl,_,H9.out,⟨rfl,rfl,rfl,rfl,rfl,rfl,rfl⟩,?_⟩
   have af:=HA.out.f
   have gl:(L.give k c).length=L.length+1:=by rw [Ch.give_len,hh]; rfl
   obtain ⟨z1,z2,z3⟩:=sums_give L k c
   obtain ⟨w1,w2,w3⟩:=SUM.out
   obtain ⟨w4,w5,w6,w7,w8,w9⟩:=HU.out
   have b9:bd<=s.bd+29:=B9.out
   have l8:cs.length<=s.cs.length+1:=L8.out
   have e1:=af.n1
   have e2:=af.n2
   have e3:=af.n3
   have e4:=af.good.len
   refine ⟨⟨F8.out,fun e=>absurd e T9.out,by rw [gl]; omega,by rw [gl]; show bd<=_; omega,by show cs.length<=P+1; omega,hP,good_give af.good HG.out.1 HG.out.2 hk (by rw [gl]; omega),right_give af.good af.right HG.out.2,by rw [gl]; exact hL⟩,?_,?_,?_⟩
   ·show y1=_; omega
   ·show y2=_; omega
   ·show y3=_; omega
end

end Go.Proofs.YtoljhoabbaigdaaGreat

namespace Go.Proofs.YtoljhoabbaigdaaGreat
open Go.RowKit

section
variable {w0 w:World} {N:Nat->Prop} {b:Nat} {s:Sh} {L:Ch} {P:Nat}
theorem Sh.At.more {P':Nat} (a:s.At L P) (h:P<=P') (h2:P'<=13200):s.At L P' :=
 ⟨⟨a.f.fine,a.f.t0,Nat.le_trans a.f.n1 h,by have:=a.f.n2; omega,Nat.le_trans a.f.n3 h,h2,a.f.good,a.f.right,a.f.n5⟩,a.x1,a.x2,a.x3⟩
theorem xSetR {A:Option Addr} {c:List Ver} {n cap:Nat} {k:ByteArray} (h:Side w0 N w (s.os b++[oCh A c])) (a:s.At L P) (hn:n=c.length) (hcap:n<=cap) (h0:0<n) (hP:P+1<=13200) (hL:L.length+1<=3950) (hg:GoodL c) (hr:rightL c=true) (hk:k.size<=1000) :
  Calls Tryz.prog 74 #[PtrS b,.string k,.slice A n cap] w fun e w'=>e=.returned (.tuple #[])∧∃ s',Side w0 N w' (s'.os b)∧Sh.Hd s s'∧s'.At (L.give k c) (P+1):=by
 cases hh:L.has k with
 | true=>exact (xSetOldR h a hn hcap h0 hg hr hk hh).mono fun e w' ⟨h1,s',h2,h3,h4⟩=>⟨h1,s',h2,h3,h4.more (by omega) hP⟩
 | false=>exact xSetNewR h a hn hcap hP hL hg hr hk hh
theorem xAddR {k:ByteArray} (v:Ver) (h:Side w0 N w (s.os b)) (a:s.At L P) (hP:P+1<=13200) (hL:L.length+1<=3950) (hg:GoodL (L.of k++[v])) (hr:rightL (L.of k++[v])=true) (hk:k.size<=1000) :
  Calls Tryz.prog 45 #[PtrS b,.string k,v.v] w fun e w'=>e=.returned (.tuple #[])∧∃ s',Side w0 N w' (s'.os b)∧Sh.Hd s s'∧s'.At (L.put k v) (P+1):=by
 rw [Ch.put_give]
 have r0:=RowAt.new w v.cs 129
 have b0:Below w.heap.size w (w.alloc (.cells v.cs.toArray 129)):=(Below.refl _ _).alloc (Nat.le_refl _) _
 obtain ⟨B,hB⟩:=nmq (w.heap.size)
 obtain ⟨w1,hw1⟩:=nmq (w.alloc (.cells v.cs.toArray 129))
 rw [<-hw1] at b0 r0
 rw [<-hB] at r0
 have h1:=h.below b0
 obtain ⟨c,hc⟩:=nmq (L.of k++[v])
 obtain ⟨m,hm⟩:=nmq ((L.of k).length)
 obtain ⟨n,hn⟩:=nmq (c.length)
 have nm:n=m+1:=by rw [hn,hc,hm]; simp
 have KC:=qh (fun W (hb:Below w1.heap.size w1 W)=>show Calls Tryz.prog 73 #[PtrS b,.string k] W fun e w'=>∃ A c,e=.returned (.slice A m c)∧SlV w' A (L.of k)∧Below W.heap.size W w' from by
  have h2:Side w0 N W (s.os b++[]):=by rw [List.append_nil]; exact h1.below hb
  exact (xChainR h2 a.f k).mono fun e w' ⟨A',c',h1,_,h3,h4⟩=>⟨A',c',by rw [hm]; exact h1,h3,h4⟩)
 have KA:=qh (fun W A' c' (hb:Below w1.heap.size w1 W) (hs:SlV W A' (L.of k))=>show Calls Tryz.prog 72 #[.slice A' m c',v.v] W fun e w'=>∃ A2 c2,e=.returned (.tuple #[.slice A2 n c2,.int .i64 0])∧Side w0 N w' (s.os b++[oCh A2 c])∧n<=c2∧Below W.heap.size W w' from by
  rw [hm]
  refine (xAdd9 (L.of k) v A' c' W hs hg).mono fun e w' ⟨A2,c2,e1,e2,e3,e4,e5⟩=>?_
  rw [hr,if_pos rfl,if_pos rfl,<-hc,<-hn] at e1
  rw [hr,if_pos rfl,<-hc] at e2 e4 e5
  obtain ⟨g,rfl,hg2⟩:=e5 (by omega)
  refine ⟨_,c2,e1,?_,by omega,e3⟩
  exact (h1.below hb).more e3 (o:=oCh (some ⟨g,0,none⟩) c) (F':=fun k=>k=g) ⟨⟨e2,fun _=>⟨g,0,rfl,rfl⟩⟩,fun k e=>by
   obtain ⟨b',o,e6,hlt,_⟩:=e2 (by omega)
   injection e6 with e6
   injection e6 with e6 _ _
   rw [e,e6]; exact hlt⟩ fun k e=>by rw [e]; exact hg2)
 have KS:=qh (fun W A2 c2 (hW:Side w0 N W (s.os b++[oCh A2 c])) (hc2:n<=c2)=>xSetR hW a hn hc2 (by omega) hP hL (by rw [hc]; exact hg) (by rw [hc]; exact hr) hk)
 have R0:=qh r0
 have HW1:=qh hw1
 have HB:=qh hB
 have BX:=qh (show Below w1.heap.size w1 w1.drew from (Below.refl _ _).drew)
 obtain ⟨sq,gn,u⟩:=v
 obtain ⟨nu,t,bt⟩:=u
 rw [<-hc]
 clear h a hP hL hg hr hk r0 b0 hB hw1 h1 hc hm hn nm
 have KA:Hid (∀ W A' c',Below w1.heap.size w1 W->SlV W A' (L.of k)->Calls Tryz.prog 72 #[.slice A' m c',.agg #[.int .i64 sq,.bool gn,.bool nu,.string t,.int .u64 (bt:Int)]] W fun e w'=>∃ A2 c2,e=.returned (.tuple #[.slice A2 n c2,.int .i64 0])∧Side w0 N w' (s.os b++[oCh A2 c])∧n<=c2∧Below W.heap.size W w'):=KA
 have HW1:Hid (w1=w.alloc (.cells #[.int .i64 sq,.bool gn,.bool nu,.string t,.int .u64 (bt:Int)] 129)):=HW1
 show Calls Tryz.prog 45 #[PtrS b,.string k,.agg #[.int .i64 sq,.bool gn,.bool nu,.string t,.int .u64 (bt:Int)]] w _
 go_enter Tryz.func45,Tryz.ntmps45
 go_wp2_with fail
 rw [<-HW1.out,<-HB.out]
 have CF:=qh (fun W (hb:Below w1.heap.size w1 W)=>verF (R0.out.below hb))
 obtain ⟨d0,d1,d2,d3,d4⟩:=CF.out _ BX.out
 refine wp_region_held_drew (S:=(fun w'=>w'.cell? ⟨B,0,none⟩=some (.int .i64 sq)∧w'.cell? ⟨B,1,none⟩=some (.bool gn)∧w'.cell? ⟨B,2,none⟩=some (.bool nu)∧w'.cell? ⟨B,3,none⟩=some (.string t)∧w'.cell? ⟨B,4,none⟩=some (.int .u64 (bt:Int)))) (by kernel_rfl) (⟨d0,d1,d2,d3,d4⟩) (fun gH=>?_)
 refine rgT 0 (v:=?v1) ?y1 gH ?_
 case y1=>(intro v hSw; go_simp<;>rfl)
 refine rgT 1 (v:=?v2) ?y2 gH ?_
 case y2=>(intro v hSw; go_simp<;>rfl)
 refine rgT 3 (v:=?v3) ?y3 gH ?_
 case y3=>(intro v hSw; go_simp<;>rfl)
 try simp only [putS]
 refine rgO 2 fun K hK=>?_
 go_simp
 refine (KC.out _ BX.out).mono ?_
 rintro r W1 ⟨A1,c1,rfl,hs1,hb1⟩
 have S1:=qh hs1
 have B1:=qh (below_then BX.out hb1)
 clear hs1 hb1
 refine hK.out _ _ ((CF.out _ B1.out)) (fun gH=>?_)
 clear hK K
 try simp only [putS]
 refine rgO 4 fun K hK=>?_
 go_simp
 refine (KA.out _ _ _ B1.out S1.out).mono ?_
 rintro r W2 ⟨A2,c2,rfl,hs2,hc2,hb2⟩
 have S2:=qh hs2
 have C2:=qh hc2
 have B2:=qh (below_then B1.out hb2)
 clear hs2 hb2 hc2
 refine hK.out _ _ ((CF.out _ B2.out)) (fun gH=>?_)
 clear hK K
 refine rgT 5 (v:=?v4) ?y4 gH ?_
 case y4=>(intro v hSw; go_simp<;>rfl)
 refine rgT 6 (v:=?v5) ?y5 gH ?_
 case y5=>(intro v hSw; go_simp<;>rfl)
 try simp only [putS]
 refine rgT 7 (v:=?v6) ?y6 gH ?_
 case y6=>(intro v hSw; go_simp<;>rfl)
 refine rgT 8 (v:=?v7) ?y7 gH ?_
 case y7=>(intro v hSw; go_simp<;>rfl)
 refine rgT 9 (v:=?v8) ?y8 gH ?_
 case y8=>(intro v hSw; go_simp<;>rfl)
 try simp only [putS]
 refine rgD ?_
 go_wp2_with fail
 refine (KS.out _ _ _ S2.out C2.out).mono ?_
 rintro e W3 ⟨rfl,hp⟩
 have HP:=qh hp
 clear hp
 go_wp2_with fail
 exact bodyPost_end (results_none rfl _ _ _) rfl ⟨rfl,HP.out⟩
end

end Go.Proofs.YtoljhoabbaigdaaGreat

namespace Go.Proofs.YtoljhoabbaigdaaGreat
open Go.RowKit

section
variable {w0 w:World} {N:Nat->Prop} {b:Nat} {s:Sh} {L:Ch} {P:Nat} {os2:List Ob}
theorem Sh.ring (h:Side w0 N w (s.os b++os2)):∃ v,PrW w s.q v s.r.size s.r.beg s.r.seq s.r.kept∧s.r.Ok:=by
 obtain ⟨F,v,_,hp,ok⟩:=h.get (i:=6) (o:=oRing s.q s.r) rfl
 exact ⟨v,hp,ok⟩
theorem Sh.cells (h:Side w0 N w (s.os b++os2)):w.cell? ⟨b,0,none⟩=some s.lb∧w.cell? ⟨b,1,none⟩=some (.int .i64 s.g1)∧w.cell? ⟨b,2,none⟩=some (.int .i64 s.g2)∧w.cell? ⟨b,3,none⟩=some (.int .i64 s.g3)∧w.cell? ⟨b,4,none⟩=some (.pointer (some ⟨s.q,0,none⟩)) ∧
  w.cell? ⟨b,8,none⟩=some (.int .i64 s.x1)∧w.cell? ⟨b,9,none⟩=some (.int .i64 s.x2)∧w.cell? ⟨b,10,none⟩=some (.int .i64 s.x3):=by
 have r:=Sh.rowAt h
 exact ⟨r.cell 0,r.cell 1,r.cell 2,r.cell 3,r.cell 4,r.cell 8,r.cell 9,r.cell 10⟩
theorem xLiveR (h:Side w0 N w (s.os b++os2)):Calls Tryz.prog 99 #[PtrM b] w fun e w'=>e=.returned (.int .i64 s.x1)∧Below w.heap.size w w':=by
 obtain ⟨-,-,-,-,-,c8,c9,c10⟩:=Sh.cells h
 have B0:=qh (Below.refl w.heap.size w)
 clear h
 go_enter Tryz.func99,Tryz.ntmps99
 go_wp2_with fail
 go_ret
 exact ⟨rfl,B0.out⟩
theorem xSeqR (h:Side w0 N w (s.os b++os2)):Calls Tryz.prog 23 #[PtrM b] w fun e w'=>e=.returned (.int .i64 (s.r.seq:Nat))∧Below w.heap.size w w':=by
 obtain ⟨-,-,-,-,c4,-,-,-⟩:=Sh.cells h
 obtain ⟨v,hp,ok⟩:=Sh.ring h
 have RC:=qh (show Calls Tryz.prog 41 #[PtrR s.q] w fun e w'=>e=.returned (.int .i64 (s.r.seq:Nat))∧Below w.heap.size w w' from xSeq0 _ v _ _ _ _ w hp)
 obtain ⟨z,hz⟩:∃ z:Int,z=(s.r.seq:Nat):=⟨_,rfl⟩
 rw [<-hz] at RC ⊢
 clear h hp ok hz
 go_enter Tryz.func23,Tryz.ntmps23
 go_wp2_with fail
 refine RC.out.mono ?_
 rintro e w1 ⟨rfl,hb⟩
 have HB:=qh hb
 clear hb
 go_wp2_with fail
 go_ret
 exact ⟨rfl,HB.out⟩
theorem xAtR (a:s.AtF L P) (k:ByteArray) (A:Option Addr) (c:Nat) (q:Int) (w:World) (hc:(L.of k).length<=c) (hs:SlV w A (L.of k)) :
  Calls Tryz.prog 137 #[.slice A (L.of k).length c,.int .i64 q] w fun e w'=>e=.returned (.tuple #[(atL (L.of k) q).v,.bool (atOk (L.of k) q)])∧Below w.heap.size w w':=by
 obtain ⟨g1,g2,_⟩:=good_of a.good a.right k
 have:=xAt9 (L.of k) A c q w hc hs g1
 rw [g2,if_pos rfl,Bool.true_and] at this
 exact this
end

end Go.Proofs.YtoljhoabbaigdaaGreat

namespace Go.Proofs.YtoljhoabbaigdaaGreat
open Go.RowKit

def flw (a k:ByteArray):Bool:=ltB a k && decide (k.size<=32)
theorem gt_eq (k a:ByteArray):(!(Op.bytesLess k.toList a.toList || (k.toList == a.toList)))=ltB a k:=by
 unfold ltB
 cases h:Op.bytesLess a.toList k.toList with
 | true =>
  have e1:Op.bytesLess k.toList a.toList=false:=Val.less_asym _ _ h
  rw [e1,(Val.less_ne h).2]; rfl
 | false =>
  cases h2:Op.bytesLess k.toList a.toList with
  | true=>rfl
  | false =>
   have:=Val.less_total _ _ h h2
   rw [this]; simp
theorem ltB_nil (k:ByteArray):ltB ⟨#[]⟩ k=decide (1<=k.size):=by
 have e:k.size=k.toList.length:=by rw [Val.toL]; simp
 rw [e]
 unfold ltB
 rw [show (⟨#[]⟩:ByteArray).toList=[] by rw [Val.toL]]
 cases k.toList<;>simp [Op.bytesLess]
theorem ltB_pos {a k:ByteArray} (h:ltB a k=true):1<=k.size:=by
 have e:k.size=k.toList.length:=by rw [Val.toL]; simp
 rw [e]
 unfold ltB at h
 cases z:k.toList with
 | nil=>rw [z] at h; cases q:a.toList<;>rw [q] at h<;>simp [Op.bytesLess] at h
 | cons c l=>simp
theorem flw_first (k:ByteArray):flw ⟨#[]⟩ k=keyOk k:=by unfold flw keyOk; rw [ltB_nil]
theorem flw_next (p k:ByteArray):flw p k=(keyOk k && ltB p k):=by
 unfold flw keyOk
 cases h:ltB p k with
 | false=>simp
 | true=>have:=ltB_pos h; simp [this]
theorem xFollowsR (k a:ByteArray) (w:World) (hk:k.size<=1000000):Calls Tryz.prog 67 #[.string k,.string a] w fun e w'=>e=.returned (.bool (flw a k))∧w'=w:=by
 have G:=gt_eq k a
 have E:=qh (show flw a k=(ltB a k && decide (k.size<=32)) from rfl)
 obtain ⟨T,hT⟩:=nmq (ltB a k)
 obtain ⟨F,hF⟩:=nmq (flw a k)
 rw [<-hF,<-hT] at E
 rw [<-hT] at G
 rw [<-hF]
 clear hT hF
 obtain ⟨X,hX⟩:∃ X,Op.bytesLess k.toList a.toList=X:=⟨_,rfl⟩
 obtain ⟨Y,hY⟩:∃ X,(k.toList == a.toList)=X:=⟨_,rfl⟩
 rw [hX,hY] at G
 obtain ⟨Z,hZ⟩:=nmq (decide (k.size<=32))
 have zi:decide ((k.size:Int)<=32)=Z:=by rw [hZ]; exact decide_eq_decide.2 (by omega)
 rw [<-hZ] at E
 clear hZ
 cases X with
 | true =>
  have e:F=false:=by rw [E.out,<-G]; rfl
  subst e
  clear G E hY
  go_enter Tryz.func67,Tryz.ntmps67
  go_wp2_with fail
  go_ret
  exact ⟨rfl,rfl⟩
 | false =>
  cases Y with
  | true =>
   have e:F=false:=by rw [E.out,<-G]; rfl
   subst e
   clear G E
   go_enter Tryz.func67,Tryz.ntmps67
   go_wp2_with fail
   go_ret
   exact ⟨rfl,rfl⟩
  | false =>
   have e:F=Z:=by rw [E.out,<-G]; rfl
   subst e
   clear G E
   go_enter Tryz.func67,Tryz.ntmps67
   go_wp2_with fail
   go_ret
   exact ⟨rfl,rfl⟩
def ahdW (l:List Wr) (i:Nat):ByteArray:=if i=0 then ⟨#[]⟩ else (l.getD (i-1) Wr.Z).key
theorem wrOk_eq (l:List Wr) (i:Nat) (x:Wr):wrOk (prevW l i) x=(flw (ahdW l i) x.key && (x.val.ok && (!x.gone || x.val.isZ))):=by
 unfold wrOk prevW ahdW
 by_cases z:i=0
 ·rw [if_pos z,if_pos z,flw_first]; simp
 ·rw [if_neg z,if_neg z,flw_next]
  cases keyOk x.key<;>cases x.val.ok<;>cases (!x.gone || x.val.isZ)<;>simp
theorem row5 {w:World} {b:Nat} {t:TypeId} {v0 v1 v2 v3 v4:Value} (h:RowAt w b [v0,v1,v2,v3,v4] t):w.cell? ⟨b,0,none⟩=some v0∧w.cell? ⟨b,1,none⟩=some v1∧w.cell? ⟨b,2,none⟩=some v2∧w.cell? ⟨b,3,none⟩=some v3∧w.cell? ⟨b,4,none⟩=some v4:=⟨h.cell 0,h.cell 1,h.cell 2,h.cell 3,h.cell 4⟩
theorem xMayR (l:List Wr) (A:Option Addr) (c:Nat) (w:World) (h:SlWr w A l) (hf:FitsW l) :
  Calls Tryz.prog 42 #[.slice A l.length c] w fun e w'=>e=.returned (.bool (mayW l))∧Below w.heap.size w w':=by
 obtain ⟨n,hn⟩:=nmq (l.length)
 obtain ⟨R,hR⟩:=nmq (mayW l)
 rw [<-hn,<-hR]
 have HN:=qh hn
 have HR:=qh hR
 have HS:=qh h
 have HF:=qh hf
 have NZ:=qh neq_zero
 clear hn hR h hf
 by_cases z1:n<1
 ·have e:=HR.out
  rw [mayW_len (by rw [<-HN.out]; omega)] at e
  subst e
  go_enter Tryz.func42,Tryz.ntmps42
  go_wp2_with fail
  go_ret
  exact ⟨rfl,Below.refl _ _⟩
 by_cases z2:16<n
 ·have e:=HR.out
  rw [mayW_len (by rw [<-HN.out]; omega)] at e
  subst e
  go_enter Tryz.func42,Tryz.ntmps42
  go_wp2_with fail
  go_ret
  exact ⟨rfl,Below.refl _ _⟩
 go_enter Tryz.func42,Tryz.ntmps42
 go_wp2_with fail
 go_loopw [3,16] (fun va vi wr=>∃ i:Nat,i<=n∧vi=.int .i64 i∧va=.string (ahdW l i)∧Hid (∀ j,j<i->wrOk (prevW l j) (l.getD j Wr.Z)=true)∧Hid (Below w.heap.size w wr)) (fun _ vi _=>n-(intOf vi).toNat)
 case atStart=>exact ⟨0,Nat.zero_le _,rfl,rfl,qh (fun j hj=>by cases hj),qh (Below.refl _ _)⟩
 case round =>
  obtain ⟨i,hi,rfl,rfl,HM,HB⟩:=hrel
  by_cases q:i<n
  ·obtain ⟨bb,o,rfl,hb,c0,c1,c2,c3,c4⟩:=(HS.out.below HB.out).at (j:=i) (by rw [<-HN.out]; exact q)
   have RN:=qh (fun (hm:wrOk (prevW l i) (l.getD i Wr.Z)=false)=>show R=false by rw [HR.out]; exact mayW_no (by rw [<-HN.out]; exact q) hm)
   have XF:=qh (HF.out.get (i:=i) (by rw [<-HN.out]; exact q))
   obtain ⟨a,ha⟩:=nmq (ahdW l i)
   have AN:=qh (show ahdW l (i+1)=(l.getD i Wr.Z).key from rfl)
   obtain ⟨x,hx⟩:=nmq (l.getD i Wr.Z)
   have HMY:=qh (show wrOk (prevW l i) x=true->∀ j,j<i+1->wrOk (prevW l j) (l.getD j Wr.Z)=true from fun hm j hj=>by
    by_cases e:j=i
    ·rw [e,<-hx]; exact hm
    ·exact HM.out j (by omega))
   have EM:=qh (wrOk_eq l i x)
   rw [<-hx] at c0 c1 c2 c3 c4 RN XF AN
   rw [<-ha] at EM
   obtain ⟨k,g,v⟩:=x
   obtain ⟨m,t,u⟩:=v
   have VR:=qh (fun w'=>vpRight ⟨m,t,u⟩ w' XF.out.1)
   have FR:=qh (fun w'=>xFollowsR k a w' XF.out.2)
   have NE:=NZ.out ⟨m,t,u⟩
   obtain ⟨K1,hK1⟩:=nmq (flw a k)
   obtain ⟨K2,hK2⟩:=nmq (Val.ok ⟨m,t,u⟩)
   obtain ⟨Y,hY⟩:=nmq (Val.isZ ⟨m,t,u⟩)
   simp only [<-hK1] at FR
   simp only [<-hK2] at VR
   simp only [<-hY] at NE
   have EM:=qh (show wrOk (prevW l i) ⟨k,g,⟨m,t,u⟩⟩=(K1 && (K2 && (!g || Y))) from by rw [EM.out,hK1,hK2,hY])
   have VR:Hid (∀ w',Calls Tryz.prog 68 #[.agg #[.bool m,.string t,.int .u64 (u:Int)]] w' fun e w''=>e=.returned (.bool K2)∧Below w'.heap.size w' w''):=VR
   have NE:∀ w,(binOp .neq 59 (.agg #[.bool m,.string t,.int .u64 (u:Int)]) (.agg #[.bool false,.string ⟨#[]⟩,.int .u64 0])).run Tryz.prog w=.ok (.bool (!Y)) w:=NE
   have i0:(0:Int)<=(i:Int):=by omega
   have i1:(i:Int)<(n:Int):=by omega
   have hn16:n<=16:=by omega
   rw [<-ha]
   obtain ⟨r1,hr1⟩:=nmq (wr.alloc (.cells #[.string k,.bool g,.bool m,.string t,.int .u64 (u:Int)] 61))
   have R1:=qh (show RowAt r1 wr.heap.size [.string k,.bool g,.bool m,.string t,.int .u64 (u:Int)] 61 from by rw [hr1]; exact RowAt.new wr _ _)
   have B1:=qh (show Below w.heap.size w r1 from by rw [hr1]; exact HB.out.alloc HB.out.size _)
   have HR1:=qh hr1
   clear hx hK1 hK2 hY hb hi ha hr1
   have c0:wr.cell? ⟨bb,o+i * 5,none⟩=some (.string k):=c0
   have c1:wr.cell? ⟨bb,o+i * 5+1,none⟩=some (.bool g):=c1
   have c2:wr.cell? ⟨bb,o+i * 5+2,none⟩=some (.bool m):=c2
   have c3:wr.cell? ⟨bb,o+i * 5+3,none⟩=some (.string t):=c3
   have c4:wr.cell? ⟨bb,o+i * 5+4,none⟩=some (.int .u64 (u:Int)):=c4
   go_wp2_with fail
   rw [<-HR1.out]
   refine (FR.out _).mono ?_
   rintro e w1 ⟨rfl,hw1⟩
   have hw1:=hw1.symm
   subst hw1
   clear c0 c1 c2 c3 c4
   obtain ⟨q0,q1,q2,q3,q4⟩:=row5 R1.out
   cases K1 with
   | false =>
    have e:=RN.out (by rw [EM.out]; rfl)
    subst e
    go_wp2_with fail
    go_ret
    exact ⟨rfl,B1.out⟩
   | true =>
    go_wp2_with fail
    refine (VR.out _).mono ?_
    rintro e w2 ⟨rfl,hb2⟩
    have R2:=qh (R1.out.below hb2)
    have B2:=qh (below_then B1.out hb2)
    clear hb2 q0 q1 q2 q3 q4
    obtain ⟨q0,q1,q2,q3,q4⟩:=row5 R2.out
    cases K2 with
    | false =>
     have e:=RN.out (by rw [EM.out]; rfl)
     subst e
     go_wp2_with fail
     go_ret
     exact ⟨rfl,B2.out⟩
    | true =>
     by_cases z3:g=true∧Y=false
     ·obtain ⟨rfl,rfl⟩:=z3
      have e:=RN.out (by rw [EM.out]; rfl)
      subst e
      go_wp2_with fail
      go_ret
      exact ⟨rfl,B2.out⟩
     ·have z4:(!g || Y)=true:=by cases g<;>cases Y<;>simp at z3 ⊢
      have HM2:=qh (HMY.out (by rw [EM.out,z4]; rfl))
      cases g with
      | false =>
       clear z3 z4
       go_wp2_with fail
       go_roundw
       case rel=>exact ⟨i+1,by omega,by go_num,by rw [AN.out],HM2,B2⟩
       case measure=>simp [intOf]; omega
      | true =>
       obtain rfl:Y=true:=by cases Y; exact absurd ⟨rfl,rfl⟩ z3; rfl
       clear z3 z4
       go_wp2_with fail
       go_roundw
       case rel=>exact ⟨i+1,by omega,by go_num,by rw [AN.out],HM2,B2⟩
       case measure=>simp [intOf]; omega
  ·obtain rfl:i=n:=by omega
   have e:=HR.out
   rw [mayW_yes (by rw [<-HN.out]; omega) (by rw [<-HN.out]; omega) (fun j hj=>HM.out j (by rw [HN.out]; exact hj))] at e
   subst e
   go_wp2_with fail
   go_ret
   exact ⟨rfl,HB.out⟩

def ahdE (l:List En) (i:Nat):ByteArray:=if i=0 then ⟨#[]⟩ else (l.getD (i-1) En.Z).key
theorem enOk_eq (l:List En) (i:Nat) (sq:Int) (x:En):enOk (prevE l i) sq x=(flw (ahdE l i) x.key && (x.val.ok && (decide (1<=x.seq) && decide (x.seq<=sq)))):=by
 unfold enOk prevE ahdE
 by_cases z:i=0
 ·rw [if_pos z,if_pos z,flw_first]; simp
 ·rw [if_neg z,if_neg z,flw_next]
  cases keyOk x.key<;>cases x.val.ok<;>cases decide (1<=x.seq)<;>cases decide (x.seq<=sq)<;>simp
theorem slEn_belowR {w w':World} {A:Option Addr} {l:List En} (h:SlEn w A l) (hb:Below w.heap.size w w'):SlEn w' A l:=fun hp=>by
 obtain ⟨b,o,rfl,hlt,hc⟩:=h hp
 refine ⟨b,o,rfl,Nat.lt_of_lt_of_le hlt hb.size,fun j hj=>?_⟩
 obtain ⟨c0,c1,c2,c3,c4⟩:=hc j hj
 exact ⟨(hb.cell (p:=⟨b,o+j * 5,none⟩) hlt).trans c0,(hb.cell (p:=⟨b,o+j * 5+1,none⟩) hlt).trans c1,(hb.cell (p:=⟨b,o+j * 5+2,none⟩) hlt).trans c2,(hb.cell (p:=⟨b,o+j * 5+3,none⟩) hlt).trans c3,(hb.cell (p:=⟨b,o+j * 5+4,none⟩) hlt).trans c4⟩
theorem xMayER (l:List En) (A:Option Addr) (c:Nat) (sq:Int) (w:World) (h:SlEn w A l) (hf:FitsE l) (hl:l.length<=100000) :
  Calls Tryz.prog 79 #[.slice A l.length c,.int .i64 sq] w fun e w'=>e=.returned (.bool (mayE l sq))∧Below w.heap.size w w':=by
 obtain ⟨n,hn⟩:=nmq (l.length)
 obtain ⟨R,hR⟩:=nmq (mayE l sq)
 rw [<-hn] at hl
 rw [<-hn,<-hR]
 have HN:=qh hn
 have HR:=qh hR
 have HS:=qh h
 have HF:=qh hf
 clear hn hR h hf
 go_enter Tryz.func79,Tryz.ntmps79
 go_wp2_with fail
 go_loopw [5,10] (fun va vi wr=>∃ i:Nat,i<=n∧vi=.int .i64 i∧va=.string (ahdE l i)∧Hid (∀ j,j<i->enOk (prevE l j) sq (l.getD j En.Z)=true)∧Hid (Below w.heap.size w wr)) (fun _ vi _=>n-(intOf vi).toNat)
 case atStart=>exact ⟨0,Nat.zero_le _,rfl,rfl,qh (fun j hj=>by cases hj),qh (Below.refl _ _)⟩
 case round =>
  obtain ⟨i,hi,rfl,rfl,HM,HB⟩:=hrel
  by_cases q:i<n
  ·obtain ⟨bb,o,rfl,hb,c0,c1,c2,c3,c4⟩:=(slEn_belowR HS.out HB.out).at (j:=i) (by rw [<-HN.out]; exact q)
   have RN:=qh (fun (hm:enOk (prevE l i) sq (l.getD i En.Z)=false)=>show R=false by rw [HR.out]; exact mayE_no (by rw [<-HN.out]; exact q) hm)
   have XF:=qh (HF.out.get (i:=i) (by rw [<-HN.out]; exact q))
   obtain ⟨a,ha⟩:=nmq (ahdE l i)
   have AN:=qh (show ahdE l (i+1)=(l.getD i En.Z).key from rfl)
   obtain ⟨x,hx⟩:=nmq (l.getD i En.Z)
   have HMY:=qh (show enOk (prevE l i) sq x=true->∀ j,j<i+1->enOk (prevE l j) sq (l.getD j En.Z)=true from fun hm j hj=>by
    by_cases e:j=i
    ·rw [e,<-hx]; exact hm
    ·exact HM.out j (by omega))
   have EM:=qh (enOk_eq l i sq x)
   rw [<-hx] at c0 c1 c2 c3 c4 RN XF AN
   rw [<-ha] at EM
   obtain ⟨k,g,v⟩:=x
   obtain ⟨m,t,u⟩:=v
   have VR:=qh (fun w'=>vpRight ⟨m,t,u⟩ w' XF.out.1)
   have FR:=qh (fun w'=>xFollowsR k a w' (Nat.le_trans XF.out.2.1 (by decide)))
   obtain ⟨K1,hK1⟩:=nmq (flw a k)
   obtain ⟨K2,hK2⟩:=nmq (Val.ok ⟨m,t,u⟩)
   simp only [<-hK1] at FR
   simp only [<-hK2] at VR
   have EM:=qh (show enOk (prevE l i) sq ⟨k,g,⟨m,t,u⟩⟩=(K1 && (K2 && (decide (1<=g) && decide (g<=sq)))) from by rw [EM.out,hK1,hK2])
   have VR:Hid (∀ w',Calls Tryz.prog 68 #[.agg #[.bool m,.string t,.int .u64 (u:Int)]] w' fun e w''=>e=.returned (.bool K2)∧Below w'.heap.size w' w''):=VR
   have i0:(0:Int)<=(i:Int):=by omega
   have i1:(i:Int)<(n:Int):=by omega
   rw [<-ha]
   obtain ⟨r1,hr1⟩:=nmq (wr.alloc (.cells #[.string k,.int .i64 g,.bool m,.string t,.int .u64 (u:Int)] 178))
   have R1:=qh (show RowAt r1 wr.heap.size [.string k,.int .i64 g,.bool m,.string t,.int .u64 (u:Int)] 178 from by rw [hr1]; exact RowAt.new wr _ _)
   have B1:=qh (show Below w.heap.size w r1 from by rw [hr1]; exact HB.out.alloc HB.out.size _)
   have HR1:=qh hr1
   clear hx hK1 hK2 hb hi ha hr1
   have c0:wr.cell? ⟨bb,o+i * 5,none⟩=some (.string k):=c0
   have c1:wr.cell? ⟨bb,o+i * 5+1,none⟩=some (.int .i64 g):=c1
   have c2:wr.cell? ⟨bb,o+i * 5+2,none⟩=some (.bool m):=c2
   have c3:wr.cell? ⟨bb,o+i * 5+3,none⟩=some (.string t):=c3
   have c4:wr.cell? ⟨bb,o+i * 5+4,none⟩=some (.int .u64 (u:Int)):=c4
   go_wp2_with fail
   rw [<-HR1.out]
   refine (FR.out _).mono ?_
   rintro e w1 ⟨rfl,hw1⟩
   have hw1:=hw1.symm
   subst hw1
   clear c0 c1 c2 c3 c4
   obtain ⟨q0,q1,q2,q3,q4⟩:=row5 R1.out
   cases K1 with
   | false =>
    have e:=RN.out (by rw [EM.out]; rfl)
    subst e
    go_wp2_with fail
    go_ret
    exact ⟨rfl,B1.out⟩
   | true =>
    go_wp2_with fail
    refine (VR.out _).mono ?_
    rintro e w2 ⟨rfl,hb2⟩
    have R2:=qh (R1.out.below hb2)
    have B2:=qh (below_then B1.out hb2)
    clear hb2 q0 q1 q2 q3 q4
    obtain ⟨q0,q1,q2,q3,q4⟩:=row5 R2.out
    cases K2 with
    | false =>
     have e:=RN.out (by rw [EM.out]; rfl)
     subst e
     go_wp2_with fail
     go_ret
     exact ⟨rfl,B2.out⟩
    | true =>
     by_cases z3:g<1
     ·have e:=RN.out (by rw [EM.out,decide_eq_false (show ¬ 1<=g by omega)]; rfl)
      subst e
      go_wp2_with fail
      go_ret
      exact ⟨rfl,B2.out⟩
     ·by_cases z4:sq<g
      ·have e:=RN.out (by rw [EM.out,decide_eq_false (show ¬ g<=sq by omega)]; simp)
       subst e
       go_wp2_with fail
       go_ret
       exact ⟨rfl,B2.out⟩
      ·have HM2:=qh (HMY.out (by rw [EM.out,decide_eq_true (show 1<=g by omega),decide_eq_true (show g<=sq by omega)]; rfl))
       go_wp2_with fail
       go_roundw
       case rel=>exact ⟨i+1,by omega,by go_num,by rw [AN.out],HM2,B2⟩
       case measure=>simp [intOf]; omega
  ·obtain rfl:i=n:=by omega
   have e:=HR.out
   rw [mayE_yes (fun j hj=>HM.out j (by rw [HN.out]; exact hj))] at e
   subst e
   go_wp2_with fail
   go_ret
   exact ⟨rfl,HB.out⟩
theorem mayE_at {l:List En} {sq:Int} (h:mayE l sq=true) {i:Nat} (hi:i<l.length):(l.getD i En.Z).val.ok=true∧(l.getD i En.Z).key.size<=32:=by
 have:=List.all_eq_true.1 h i (List.mem_range.2 hi)
 unfold enOk keyOk at this
 simp only [Bool.and_eq_true,decide_eq_true_eq] at this
 exact ⟨this.2.1,this.1.2⟩
theorem xWeighR (l:List En) (A:Option Addr) (c:Nat) (sq:Int) (w:World) (h:SlEn w A l) (hf:FitsE l) (hl:l.length<=100000) (hm:mayE l sq=true) :
  Calls Tryz.prog 80 #[.slice A l.length c] w fun e w'=>e=.returned (.int .i64 ((loadL l).live:Nat))∧Below w.heap.size w w':=by
 obtain ⟨n,hn⟩:=nmq (l.length)
 have WG:∀ i,i<n->Ch.wgt ((loadL l).key i,(loadL l).chn i)=(l.getD i En.Z).key.size+(l.getD i En.Z).val.pack.size:=fun i hi=>by
  have hi2:i<(loadL l).length:=by rw [loadL_len,<-hn]; exact hi
  have e:(loadL l)[i]?=some ((l.getD i En.Z).key,[(l.getD i En.Z).ver]):=by
   unfold loadL
   rw [List.getElem?_map,List.getD_eq_getElem?_getD,List.getElem?_eq_getElem (by rw [<-hn]; exact hi)]; rfl
  rw [List.getElem?_eq_getElem hi2] at e
  injection e with e
  rw [<-Ch.getE _ hi2,e]
  have:=(Val.pack_size _ (mayE_at hm (by rw [<-hn]; exact hi)).1).2
  show (if weightL [(l.getD i En.Z).ver]=0 then 0 else _)=_
  have e2:weightL [(l.getD i En.Z).ver]=(l.getD i En.Z).val.pack.size:=by
   unfold weightL
   rw [if_neg]
   ·rfl
   ·rintro (z | z)
    ·cases z
    ·cases z
  rw [e2,if_neg (by omega)]
  show _+(l.getD i En.Z).key.size=_
  omega
 have SA:=qh (show sumTo Ch.wgt (loadL l) n=(loadL l).live by rw [hn,<-loadL_len l]; exact sumTo_all _ _)
 have SU:=qh (fun i (hi:i<n)=>show sumTo Ch.wgt (loadL l) (i+1)=sumTo Ch.wgt (loadL l) i+((l.getD i En.Z).key.size+(l.getD i En.Z).val.pack.size) from by
  rw [sumTo_succ Ch.wgt (loadL l) (by rw [loadL_len,<-hn]; exact hi),WG i hi])
 have SB:∀ i,i<=n->sumTo Ch.wgt (loadL l) i<=i * 200:=fun i=>by
  induction i with
  | zero=>intro _; simp [sumTo]
  | succ i ih =>
   intro hi
   have:=ih (by omega)
   have e:=SU.out i (by omega)
   obtain ⟨o1,o2⟩:=mayE_at hm (i:=i) (by omega)
   have:=(Val.pack_size _ o1).1
   rw [e]; omega
 have SB:=qh SB
 have OK:=qh (fun i (hi:i<n)=>mayE_at hm (i:=i) (by rw [<-hn]; exact hi))
 rw [<-hn] at hl
 rw [<-hn]
 have HN:=qh hn
 have HS:=qh h
 have HF:=qh hf
 obtain ⟨T,hT⟩:=nmq ((loadL l).live)
 rw [<-hT] at SA ⊢
 clear hn h hf hm WG hT
 go_enter Tryz.func80,Tryz.ntmps80
 go_wp2_with fail
 go_loopw [3,8] (fun va vi wr=>∃ i:Nat,i<=n∧vi=.int .i64 i∧va=.int .i64 (sumTo Ch.wgt (loadL l) i:Nat)∧Hid (Below w.heap.size w wr)) (fun _ vi _=>n-(intOf vi).toNat)
 case atStart=>exact ⟨0,Nat.zero_le _,rfl,by simp [sumTo],qh (Below.refl _ _)⟩
 case round =>
  obtain ⟨i,hi,rfl,rfl,HB⟩:=hrel
  by_cases q:i<n
  ·obtain ⟨bb,o,rfl,hb,c0,c1,c2,c3,c4⟩:=(slEn_belowR HS.out HB.out).at (j:=i) (by rw [<-HN.out]; exact q)
   have XF:=HF.out.get (i:=i) (by rw [<-HN.out]; exact q)
   have XO:=OK.out i q
   have su:=SU.out i q
   have sb:=SB.out (i+1) (by omega)
   obtain ⟨x,hx⟩:=nmq (l.getD i En.Z)
   rw [<-hx] at c0 c1 c2 c3 c4 XF XO su
   have CW:=qh (fun W=>xWeightR x.key x.val W XF.1 XF.2.2 (by omega) XO.1)
   obtain ⟨z,hz⟩:=nmq (x.key.size+x.val.pack.size)
   simp only [<-hz] at CW su
   obtain ⟨a,ha⟩:=nmq (sumTo Ch.wgt (loadL l) i)
   obtain ⟨a2,ha2⟩:=nmq (sumTo Ch.wgt (loadL l) (i+1))
   rw [<-ha] at su
   rw [<-ha2] at su sb
   have WR:=qh (show wrap64 ((a:Int)+(z:Int))=(a2:Int) by rw [su]; unfold wrap64; omega)
   have HA2:=qh ha2
   rw [<-ha]
   obtain ⟨k,g,v⟩:=x
   obtain ⟨m,t,u⟩:=v
   have CW:Hid (∀ W,Calls Tryz.prog 101 #[.string k,.agg #[.bool m,.string t,.int .u64 (u:Int)]] W fun e w'=>e=.returned (.int .i64 (z:Int))∧Below W.heap.size W w'):=CW
   have i0:(0:Int)<=(i:Int):=by omega
   have i1:(i:Int)<(n:Int):=by omega
   have c0:wr.cell? ⟨bb,o+i * 5,none⟩=some (.string k):=c0
   have c1:wr.cell? ⟨bb,o+i * 5+1,none⟩=some (.int .i64 g):=c1
   have c2:wr.cell? ⟨bb,o+i * 5+2,none⟩=some (.bool m):=c2
   have c3:wr.cell? ⟨bb,o+i * 5+3,none⟩=some (.string t):=c3
   have c4:wr.cell? ⟨bb,o+i * 5+4,none⟩=some (.int .u64 (u:Int)):=c4
   have B1:=qh (HB.out.alloc HB.out.size (.cells #[.string k,.int .i64 g,.bool m,.string t,.int .u64 (u:Int)] 178))
   clear hx hz ha ha2 hb su sb XF XO
   go_wp2_with fail
   refine (CW.out _).mono ?_
   rintro e w2 ⟨rfl,hb2⟩
   have B2:=qh (below_then B1.out hb2)
   clear hb2 c0 c1 c2 c3 c4
   go_wp2_with fail
   go_roundw
   case rel=>exact ⟨i+1,by omega,by go_num,by rw [<-HA2.out,<-WR.out],B2⟩
   case measure=>simp [intOf]; omega
  ·obtain rfl:i=n:=by omega
   rw [SA.out]
   go_wp2_with fail
   go_ret
   exact ⟨rfl,HB.out⟩
end Go.Proofs.YtoljhoabbaigdaaGreat

namespace Go.Proofs.YtoljhoabbaigdaaGreat
open Go.RowKit

section
variable {w0 w:World} {N:Nat->Prop} {b:Nat} {s:Sh} {L:Ch} {P:Nat} {os2:List Ob}
theorem withW_of {k:ByteArray}:∀ {ws:List Wr} {L:Ch} (q:Int),L.Rise->(∀ x,x ∈ ws->x.key≠k)->(L.withW ws q).of k=L.of k
 | [],_,_,_,_=>rfl
 | x :: ws,L,q,h,hn=>by
  have e:L.withW (x :: ws) q=(L.put x.key (x.ver q)).withW ws q:=rfl
  rw [e,withW_of q (Ch.rise_put h) fun y hy=>hn y (List.mem_cons_of_mem _ hy),Ch.of_put h,if_neg (fun z=>hn x (by simp) z.symm)]
theorem wrOk_parts {p:Option ByteArray} {x:Wr} (h:wrOk p x=true):x.val.ok=true∧x.key.size<=32:=by
 unfold wrOk keyOk at h
 simp only [Bool.and_eq_true,decide_eq_true_eq] at h
 exact ⟨h.2.1,h.1.2⟩
theorem wgt_snoc {k:ByteArray} {l:List Ver} {x:Wr} (q:Int) (h:x.val.ok=true):Ch.wgt (k,l++[x.ver q])=if x.gone then 0 else k.size+x.val.pack.size:=by
 have e:lastL (l++[x.ver q])=x.ver q:=by unfold lastL; rw [List.length_append,List.length_singleton,Nat.add_sub_cancel,snoc_last]
 show (if weightL (l++[x.ver q])=0 then 0 else _+k.size)=_
 have e2:weightL (l++[x.ver q])=if x.gone then 0 else x.val.pack.size:=by
  unfold weightL
  rw [e]
  by_cases z:x.gone=true
  ·rw [if_pos (.inr z),if_pos z]
  ·rw [if_neg,if_neg z]
   ·rfl
   ·rintro (y | y)
    ·rw [List.length_append] at y; simp at y
    ·exact z y
 rw [e2]
 have:=(Val.pack_size _ h).2
 cases x.gone with
 | true=>simp
 | false =>
  simp only [Bool.false_eq_true,if_false]
  rw [if_neg (by omega)]; omega
theorem live_step {L:Ch} {ws:List Wr} {q:Int} (h:L.Rise) (hm:mayW ws=true) {i:Nat} (hi:i<ws.length) :
  (L.withW (ws.take (i+1)) q).live+Ch.wgt ((ws.getD i Wr.Z).key,L.of (ws.getD i Wr.Z).key)=(L.withW (ws.take i) q).live+(if (ws.getD i Wr.Z).gone then 0 else (ws.getD i Wr.Z).key.size+(ws.getD i Wr.Z).val.pack.size):=by
 obtain ⟨o1,_⟩:=wrOk_parts (mayW_at hm hi)
 rw [withW_succ L ws q hi,Ch.put_give]
 have hr:(L.withW (ws.take i) q).Rise:=Sim.rise_with h _ _
 have e:(L.withW (ws.take i) q).of (ws.getD i Wr.Z).key=L.of (ws.getD i Wr.Z).key:=withW_of q h fun x hx z=>by
  obtain ⟨j,hj,rfl⟩:=List.getElem_of_mem hx
  rw [List.length_take] at hj
  have:=mayW_rise hm (i:=j) (j:=i) (by omega) hi
  rw [List.getElem_take] at z
  rw [List.getD_eq_getElem?_getD,List.getElem?_eq_getElem (by omega)] at this
  have z:(ws[j]).key=(ws.getD i Wr.Z).key:=z
  rw [show (some ws[j]).getD Wr.Z=ws[j] from rfl,z,ltB_irr] at this
  cases this
 have:=(sums_give (L.withW (ws.take i) q) (ws.getD i Wr.Z).key ((L.withW (ws.take i) q).of (ws.getD i Wr.Z).key++[(ws.getD i Wr.Z).ver q])).1
 rw [wgt_snoc q o1,e] at this
 rw [e]
 exact this
theorem xWithR (h:Side w0 N w (s.os b++os2)) (a:s.At L P) (ws:List Wr) (A:Option Addr) (c:Nat) (q:Int) (hw:SlWr w A ws) (hf:FitsW ws) (ht:∀ x,x ∈ ws->x.val.txt.size<=1000) (hm:mayW ws=true) (hG:∀ i,i<=ws.length->GoodC (L.withW (ws.take i) q)∧(L.withW (ws.take i) q).length<=10000) :
  Calls Tryz.prog 69 #[PtrM b,.slice A ws.length c] w fun e w'=>e=.returned (.int .i64 ((L.withW ws q).live:Nat))∧Below w.heap.size w w':=by
 have LV:=qh (xLiveR h)
 have hx1:=a.x1
 have ni:=mayW_size hm
 have SU:=qh (fun i (hi:i<ws.length)=>live_step (q:=q) a.f.good.rise hm hi)
 have SB:=qh (fun i (hi:i<=ws.length)=>show (L.withW (ws.take i) q).live<=30000000 from by
  have:=sum_le (f:=Ch.wgt) (B:=3000) (wgt_le (hG i hi).1)
  have:=(hG i hi).2
  unfold Ch.live; omega)
 have KC:=qh (fun k W (hb:Below w.heap.size w W)=>show Calls Tryz.prog 73 #[PtrS b,.string k] W fun e w'=>∃ A c,e=.returned (.slice A (L.of k).length c)∧SlV w' A (L.of k)∧Below W.heap.size W w' from (xChainR (h.below hb) a.f k).mono fun e w' ⟨A',c',h1,_,h3,h4⟩=>⟨A',c',h1,h3,h4⟩)
 have KS:=qh (fun k W A' c' (hk:k.size<=32) (hs:SlV W A' (L.of k))=>xSumsR k (L.of k) A' c' W hs (good_of a.f.good a.f.right k).1 (good_of a.f.good a.f.right k).2.1 (by omega))
 have WS:=qh (fun k (hk:k.size<=32)=>wgt_small (k:=k) (good_of a.f.good a.f.right k).1 (good_of a.f.good a.f.right k).2.1 (by omega))
 have XF:=qh (fun i (hi:i<ws.length)=>show (ws.getD i Wr.Z).val.Fits∧(ws.getD i Wr.Z).val.txt.size<=1000∧(ws.getD i Wr.Z).val.ok=true∧(ws.getD i Wr.Z).key.size<=32 from by
  obtain ⟨o1,o2⟩:=wrOk_parts (mayW_at hm hi)
  refine ⟨(hf.get hi).1,ht _ ?_,o1,o2⟩
  rw [List.getD_eq_getElem?_getD,List.getElem?_eq_getElem hi]
  exact List.getElem_mem _)
 obtain ⟨n,hn⟩:=nmq (ws.length)
 obtain ⟨x1,hx⟩:=nmq (s.x1)
 rw [<-hx] at LV hx1
 have E0:=qh (show x1=((L.withW (ws.take 0) q).live:Nat) from hx1)
 have EN:=qh (show (L.withW (ws.take n) q).live=(L.withW ws q).live from by rw [hn,List.take_length])
 rw [<-hn] at ni
 rw [<-hn]
 have HN:=qh hn
 have HS:=qh hw
 obtain ⟨T,hT⟩:=nmq ((L.withW ws q).live)
 rw [<-hT] at EN ⊢
 clear h a hw hf ht hm hG hx1 hn hT hx
 go_enter Tryz.func69,Tryz.ntmps69
 go_wp2_with fail
 refine LV.out.mono ?_
 rintro e w1 ⟨rfl,hb⟩
 have B1:=qh hb
 rw [E0.out]
 clear hb LV E0
 go_wp2_with fail
 go_loopw [5,12] (fun va vi wr=>∃ i:Nat,i<=n∧vi=.int .i64 i∧va=.int .i64 ((L.withW (ws.take i) q).live:Nat)∧Hid (Below w.heap.size w wr)) (fun _ vi _=>n-(intOf vi).toNat)
 case atStart=>exact ⟨0,Nat.zero_le _,rfl,rfl,B1⟩
 case round =>
  obtain ⟨i,hi,rfl,rfl,HB⟩:=hrel
  by_cases z:i<n
  ·obtain ⟨bb,o,rfl,hb,c0,c1,c2,c3,c4⟩:=(HS.out.below HB.out).at (j:=i) (by rw [<-HN.out]; exact z)
   obtain ⟨f1,f2,f3,f4⟩:=XF.out i (by rw [<-HN.out]; exact z)
   have su:=SU.out i (by rw [<-HN.out]; exact z)
   have sb:=SB.out i (by rw [<-HN.out]; exact hi)
   have sb2:=SB.out (i+1) (by rw [<-HN.out]; exact z)
   obtain ⟨x,hx⟩:=nmq (ws.getD i Wr.Z)
   rw [<-hx] at c0 c1 c2 c3 c4 f1 f2 f3 f4 su
   have ws_:=WS.out x.key f4
   have CW:=qh (fun W=>xWeightR x.key x.val W f1 f2 (by omega) f3)
   have KC1:=qh (fun W (hb:Below w.heap.size w W)=>KC.out x.key W hb)
   have KS1:=qh (fun W A' c' (hs:SlV W A' (L.of x.key))=>KS.out x.key W A' c' f4 hs)
   obtain ⟨y,hy⟩:=nmq (x.key.size+x.val.pack.size)
   obtain ⟨u,hu⟩:=nmq (Ch.wgt (x.key,L.of x.key))
   obtain ⟨u2,hu2⟩:=nmq (Ch.aliv (x.key,L.of x.key))
   obtain ⟨m,hm⟩:=nmq ((L.of x.key).length)
   simp only [<-hy] at CW su
   rw [<-hu] at su ws_
   simp only [<-hu,<-hu2,<-hm] at KS1
   simp only [<-hm] at KC1
   obtain ⟨v0,hv0⟩:=nmq ((L.withW (ws.take i) q).live)
   obtain ⟨v1,hv1⟩:=nmq ((L.withW (ws.take (i+1)) q).live)
   rw [<-hv0] at su sb
   rw [<-hv1] at su sb2
   obtain ⟨d,hd⟩:∃ d:Int,d=(v0:Int)-(u:Int):=⟨_,rfl⟩
   have WD:=qh (show IntKind.i64.wrap ((v0:Int)-(u:Int))=d by rw [IntKind.wrap_i64]; omega)
   have WF:=qh (fun (hg:x.gone=false)=>show wrap64 (d+(y:Int))=(v1:Int) by rw [hg] at su; simp at su; unfold wrap64; omega)
   have WT:=qh (fun (hg:x.gone=true)=>show d=(v1:Int) by rw [hg] at su; simp at su; omega)
   have HV1:=qh hv1
   rw [<-hv0]
   obtain ⟨k,g,v⟩:=x
   obtain ⟨nm,t,bt⟩:=v
   have CW:Hid (∀ W,Calls Tryz.prog 101 #[.string k,.agg #[.bool nm,.string t,.int .u64 (bt:Int)]] W fun e w'=>e=.returned (.int .i64 (y:Int))∧Below W.heap.size W w'):=CW
   have i0:(0:Int)<=(i:Int):=by omega
   have i1:(i:Int)<(n:Int):=by omega
   have c0:wr.cell? ⟨bb,o+i * 5,none⟩=some (.string k):=c0
   have c1:wr.cell? ⟨bb,o+i * 5+1,none⟩=some (.bool g):=c1
   have c2:wr.cell? ⟨bb,o+i * 5+2,none⟩=some (.bool nm):=c2
   have c3:wr.cell? ⟨bb,o+i * 5+3,none⟩=some (.string t):=c3
   have c4:wr.cell? ⟨bb,o+i * 5+4,none⟩=some (.int .u64 (bt:Int)):=c4
   obtain ⟨X,hX⟩:=nmq (wr.heap.size)
   obtain ⟨r1,hr1⟩:=nmq (wr.alloc (.cells #[.string k,.bool g,.bool nm,.string t,.int .u64 (bt:Int)] 61))
   have R1:=qh (show RowAt r1 X [.string k,.bool g,.bool nm,.string t,.int .u64 (bt:Int)] 61 from by rw [hr1,hX]; exact RowAt.new wr _ _)
   have BB:=qh (show Below w.heap.size w r1 from by rw [hr1]; exact HB.out.alloc HB.out.size _)
   have HR1:=qh hr1
   have HX:=qh hX
   clear hx hy hu hu2 hm hv0 hv1 hd hb su sb sb2 f1 f2 f3 f4 ws_ hr1 hX
   go_wp2_with fail
   rw [<-HR1.out,<-HX.out]
   clear c0 c1 c2 c3 c4
   have BX:=qh (show Below r1.heap.size r1 r1.drew from (Below.refl _ _).drew)
   have CF:=qh (fun W (hb:Below r1.heap.size r1 W)=>row5 (R1.out.below hb))
   have c0:=(CF.out _ BX.out).1
   refine wp_region_held_drew (S:=(fun w'=>w'.cell? ⟨X,0,none⟩=some (.string k))) (by kernel_rfl) (c0) (fun gH=>?_)
   refine rgT 0 (v:=?v1) ?y1 gH ?_
   case y1=>(intro v hSw; go_simp<;>rfl)
   refine rgT 1 (v:=?v2) ?y2 gH ?_
   case y2=>(intro v hSw; go_simp<;>rfl)
   refine rgT 2 (v:=?v3) ?y3 gH ?_
   case y3=>(intro v hSw; go_simp<;>rfl)
   try simp only [putS]
   refine rgT 3 (v:=?v4) ?y4 gH ?_
   case y4=>(intro v hSw; go_simp<;>rfl)
   refine rgT 4 (v:=?v5) ?y5 gH ?_
   case y5=>(intro v hSw; go_simp<;>rfl)
   refine rgT 5 (v:=?v6) ?y6 gH ?_
   case y6=>(intro v hSw; go_simp<;>rfl)
   try simp only [putS]
   refine rgT 6 (v:=?v7) ?y7 gH ?_
   case y7=>(intro v hSw; go_simp<;>rfl)
   refine rgT 7 (v:=?v8) ?y8 gH ?_
   case y8=>(intro v hSw; go_simp<;>rfl)
   try simp only [putS]
   refine rgO 8 fun K hK=>?_
   go_simp
   refine (KC1.out _ (below_then BB.out BX.out)).mono ?_
   rintro r W3 ⟨A3,c3,rfl,hs3,hb3⟩
   have S3:=qh hs3
   have B3:=qh (below_then BX.out hb3)
   clear hs3 hb3
   refine hK.out _ _ ((CF.out _ B3.out).1) (fun gH=>?_)
   clear hK K
   try simp only [putS]
   refine rgO 9 fun K hK=>?_
   go_simp
   refine (KS1.out _ _ _ S3.out).mono ?_
   rintro r W4 ⟨rfl,hb4⟩
   have B4:=qh (below_then B3.out hb4)
   clear hb4
   refine hK.out _ _ ((CF.out _ B4.out).1) (fun gH=>?_)
   clear hK K
   try simp only [putS]
   have hfd:∀ w,(Instr.field 120 (.agg #[.int .i64 (u:Int),.int .i64 (u2:Int),.int .i64 (m:Int)]) 0).run Tryz.prog w=.ok (.int .i64 (u:Int)) w:=fun _=>by kernel_rfl
   refine rgT 10 (v:=?v9) ?y9 gH ?_
   case y9=>(intro v hSw; go_simp<;>rfl)
   refine rgT 11 (v:=?v10) ?y10 gH ?_
   case y10=>(intro v hSw; go_simp<;>rfl)
   refine rgT 12 (v:=?v11) ?y11 gH ?_
   case y11=>(intro v hSw; go_simp<;>rfl)
   try simp only [putS]
   refine rgD ?_
   rw [WD.out]
   have BE:=qh (below_then BB.out B4.out)
   have R4:=qh (R1.out.below B4.out)
   clear c0 hfd
   obtain ⟨e0,e1,e2,e3,e4⟩:=row5 R4.out
   cases g with
   | true =>
    have ev:=WT.out rfl
    go_wp2_with fail
    go_roundw
    case rel=>exact ⟨i+1,by omega,by go_num,by rw [<-HV1.out,<-ev],BE⟩
    case measure=>simp [intOf]; omega
   | false =>
    have ev:=qh (WF.out rfl)
    go_wp2_with fail
    refine (CW.out _).mono ?_
    rintro r W5 ⟨rfl,hb5⟩
    have BF:=qh (below_then BE.out hb5)
    clear hb5 e0 e1 e2 e3 e4
    go_wp2_with fail
    go_roundw
    case rel=>exact ⟨i+1,by omega,by go_num,by rw [<-HV1.out,<-ev.out],BF⟩
    case measure=>simp [intOf]; omega
  ·obtain rfl:i=n:=by omega
   rw [EN.out]
   go_wp2_with fail
   go_ret
   exact ⟨rfl,HB.out⟩
theorem xFitsR (h:Side w0 N w (s.os b++os2)) (a:s.At L P) (ws:List Wr) (A:Option Addr) (c:Nat) (hw:SlWr w A ws) (hf:FitsW ws) (ht:∀ x,x ∈ ws->x.val.txt.size<=1000) (hm:mayW ws=true)
  (hG:(s.r.seq:Int)<s.g3->∀ i,i<=ws.length->GoodC (L.withW (ws.take i) ((s.r.seq:Int)+1))∧(L.withW (ws.take i) ((s.r.seq:Int)+1)).length<=10000) :
  Calls Tryz.prog 43 #[PtrM b,.slice A ws.length c] w fun e w'=>e=.returned (.int .i64 (spcE s.r L ws s.g2 s.g3))∧Below w.heap.size w w':=by
 have SQ:=qh (fun W (hb:Below w.heap.size w W)=>xSeqR (h.below hb))
 have WT:=qh (fun (hs:(s.r.seq:Int)<s.g3) W (hb:Below w.heap.size w W)=>xWithR (h.below hb) a ws A c ((s.r.seq:Int)+1) (hw.below hb) hf ht hm (hG hs))
 have CX:=qh (fun W (hb:Below w.heap.size w W)=>show W.cell? ⟨b,3,none⟩=some (.int .i64 s.g3)∧W.cell? ⟨b,2,none⟩=some (.int .i64 s.g2) from ⟨(Sh.cells (h.below hb)).2.2.2.1,(Sh.cells (h.below hb)).2.2.1⟩)
 obtain ⟨n,hn⟩:=nmq (ws.length)
 obtain ⟨q,hq⟩:∃ q:Int,q=(s.r.seq:Nat):=⟨_,rfl⟩
 obtain ⟨v,hv⟩:∃ v:Int,v=((L.withW ws ((s.r.seq:Int)+1)).live:Nat):=⟨_,rfl⟩
 obtain ⟨T,hT⟩:=nmq (spcE s.r L ws s.g2 s.g3)
 have ET:=qh (show T=if s.g3<=q then 17 else if s.g2<v then 15 else 0 from by rw [hT,hq,hv]; rfl)
 obtain ⟨g2,hg2⟩:=nmq (s.g2)
 obtain ⟨g3,hg3⟩:=nmq (s.g3)
 rw [<-hT]
 simp only [<-hn,<-hv] at WT
 simp only [<-hq,<-hg3] at WT
 simp only [<-hq] at SQ
 rw [<-hg2,<-hg3] at ET
 simp only [<-hg2,<-hg3] at CX
 rw [<-hn]
 clear h a hw hf ht hm hG hn hq hv hT hg2 hg3
 have BX:=qh (show Below w.heap.size w w.drew from (Below.refl _ _).drew)
 have SQ':=qh (SQ.out _ BX.out)
 have c3:=(CX.out _ BX.out).1
 go_enter Tryz.func43,Tryz.ntmps43
 go_wp2_with fail
 refine wp_region_held_drew (S:=(fun w'=>w'.cell? ⟨b,3,none⟩=some (.int .i64 g3))) (by kernel_rfl) (c3) (fun gH=>?_)
 refine rgT 0 (v:=?v12) ?y12 gH ?_
 case y12=>(intro v hSw; go_simp<;>rfl)
 refine rgT 2 (v:=?v13) ?y13 gH ?_
 case y13=>(intro v hSw; go_simp<;>rfl)
 refine rgT 3 (v:=?v14) ?y14 gH ?_
 case y14=>(intro v hSw; go_simp<;>rfl)
 try simp only [putS]
 refine rgT 4 (v:=?v15) ?y15 gH ?_
 case y15=>(intro v hSw; go_simp<;>rfl)
 refine rgT 5 (v:=?v16) ?y16 gH ?_
 case y16=>(intro v hSw; go_simp<;>rfl)
 refine rgT 6 (v:=?v17) ?y17 gH ?_
 case y17=>(intro v hSw; go_simp<;>rfl)
 try simp only [putS]
 refine rgO 1 fun K hK=>?_
 go_simp
 refine SQ'.out.mono ?_
 rintro r W1 ⟨rfl,hb1⟩
 have B1:=qh (below_then BX.out hb1)
 clear hb1
 refine hK.out _ _ ((CX.out _ B1.out).1) (fun gH=>?_)
 clear hK K
 try simp only [putS]
 by_cases z:g3<=q
 ·have e:=ET.out
  rw [if_pos z] at e
  subst e
  refine rgT 7 (v:=?v18) ?y18 gH ?_
  case y18=>(intro v hSw; go_simp<;>rfl)
  try simp only [putS]
  refine rgD ?_
  go_wp2_with fail
  go_ret
  exact ⟨rfl,B1.out⟩
 ·have e:=ET.out
  rw [if_neg z] at e
  have E:=qh e
  clear e
  have WT':=qh (WT.out (by omega) W1.drew B1.out.drew)
  have c2:=(CX.out W1.drew B1.out.drew).2
  have BY:=qh (show Below w.heap.size w W1.drew from B1.out.drew)
  refine rgT 7 (v:=?v19) ?y19 gH ?_
  case y19=>(intro v hSw; go_simp<;>rfl)
  try simp only [putS]
  refine rgD ?_
  go_wp2_with fail
  refine wp_region_held_drew (S:=(fun w'=>w'.cell? ⟨b,2,none⟩=some (.int .i64 g2))) (by kernel_rfl) (c2) (fun gH=>?_)
  refine rgT 0 (v:=?v20) ?y20 gH ?_
  case y20=>(intro v hSw; go_simp<;>rfl)
  refine rgT 1 (v:=?v21) ?y21 gH ?_
  case y21=>(intro v hSw; go_simp<;>rfl)
  refine rgT 3 (v:=?v22) ?y22 gH ?_
  case y22=>(intro v hSw; go_simp<;>rfl)
  try simp only [putS]
  refine rgT 4 (v:=?v23) ?y23 gH ?_
  case y23=>(intro v hSw; go_simp<;>rfl)
  refine rgT 5 (v:=?v24) ?y24 gH ?_
  case y24=>(intro v hSw; go_simp<;>rfl)
  refine rgT 6 (v:=?v25) ?y25 gH ?_
  case y25=>(intro v hSw; go_simp<;>rfl)
  try simp only [putS]
  refine rgT 7 (v:=?v26) ?y26 gH ?_
  case y26=>(intro v hSw; go_simp<;>rfl)
  try simp only [putS]
  refine rgO 2 fun K hK=>?_
  go_simp
  refine WT'.out.mono ?_
  rintro r W2 ⟨rfl,hb2⟩
  have B2:=qh (below_then BY.out hb2)
  clear hb2
  refine hK.out _ _ ((CX.out _ B2.out).2) (fun gH=>?_)
  clear hK K
  try simp only [putS]
  by_cases z2:g2<v
  ·have e:=E.out
   rw [if_pos z2] at e
   subst e
   refine rgT 8 (v:=?v27) ?y27 gH ?_
   case y27=>(intro v hSw; go_simp<;>rfl)
   try simp only [putS]
   refine rgD ?_
   go_wp2_with fail
   go_ret
   exact ⟨rfl,B2.out⟩
  ·have e:=E.out
   rw [if_neg z2] at e
   subst e
   refine rgT 8 (v:=?v28) ?y28 gH ?_
   case y28=>(intro v hSw; go_simp<;>rfl)
   try simp only [putS]
   refine rgD ?_
   go_wp2_with fail
   go_ret
   exact ⟨rfl,B2.out⟩
end

end Go.Proofs.YtoljhoabbaigdaaGreat

namespace Go.Proofs.YtoljhoabbaigdaaGreat
open Go.RowKit

section
variable {w0 w:World} {N:Nat->Prop} {b:Nat} {s:Sh} {L:Ch} {P:Nat} {os2:List Ob}
theorem SlWr.side {W:World} {A:Option Addr} {ws:List Wr} {os:List Ob} (hw:SlWr w0 A ws) (hA:0<ws.length->∀ a,A=some a->N a.block) (h:Side w0 N W os):SlWr W A ws:=fun hp=>by
 obtain ⟨g,o,rfl,hlt,hc⟩:=hw hp
 have hN:=hA hp _ rfl
 have e:∀ j,W.cell? ⟨g,j,none⟩=w0.cell? ⟨g,j,none⟩:=fun j=>World.cell?_of_block (h.chg.block g hlt fun z=>z hN)
 refine ⟨g,o,rfl,Nat.lt_of_lt_of_le hlt h.size,fun j hj=>?_⟩
 rw [e,e,e,e,e]
 exact hc j hj
def Sh.ringTo (s:Sh) (r:Rg):Sh:={ s with r:=r }
theorem Sh.At.ring (a:s.At L P) (r:Rg):(s.ringTo r).At L P:=⟨⟨a.f.fine,a.f.t0,a.f.n1,a.f.n2,a.f.n3,a.f.n4,a.f.good,a.f.right,a.f.n5⟩,a.x1,a.x2,a.x3⟩
theorem xPushR (x:Int) (h:Side w0 N w (s.os b)):Calls Tryz.prog 44 #[PtrR s.q,.int .u64 x] w fun e w'=>e=.returned (.tuple #[.int .i64 (s.r.told x:Nat),.int .i64 (s.r.no x)])∧Side w0 N w' ((s.ringTo (s.r.push x)).os b) :=
 h.call (i:=6) (o:=oRing s.q s.r) (o':=oRing s.q (s.r.push x)) rfl fun F ⟨v,e,hp,ok⟩ _=>(xPush0 s.q v s.r x w hp ok).mono fun e w' ⟨h1,v',h2,h3⟩=>⟨h1,by rw [‹F=_›]; exact h3.1,rfoot s.q v',⟨v',rfl,h2,Rg.push_ok ok x⟩,by rw [‹F=_›]; exact h3.2⟩
theorem Sh.Hd.trans {a b c:Sh} (h:Sh.Hd a b) (k:Sh.Hd b c):Sh.Hd a c:=⟨k.1.trans h.1,k.2.1.trans h.2.1,k.2.2.1.trans h.2.2.1,k.2.2.2.1.trans h.2.2.2.1,k.2.2.2.2.1.trans h.2.2.2.2.1,k.2.2.2.2.2.1.trans h.2.2.2.2.2.1,k.2.2.2.2.2.2.trans h.2.2.2.2.2.2⟩
theorem add_asks {L:Ch} {q:Int} {ws:List Wr} {K:Nat} (o:OkL L q) (hb:Bnd L K 500) (hq0:0<=q) (hq:q+1<=1073741824) (hm:mayW ws=true) (hf:FitsW ws) {i:Nat} (hi:i<ws.length) :
  GoodL ((L.withW (ws.take i) (q+1)).of (ws.getD i Wr.Z).key++[(ws.getD i Wr.Z).ver (q+1)])∧rightL ((L.withW (ws.take i) (q+1)).of (ws.getD i Wr.Z).key++[(ws.getD i Wr.Z).ver (q+1)])=true∧(ws.getD i Wr.Z).key.size<=32∧(L.withW (ws.take i) (q+1)).length<=K+i:=by
 obtain ⟨o1,_,b1⟩:=withW_keeps o hb hq0 hq hm hf i (by omega)
 obtain ⟨o2,_,b2⟩:=withW_keeps o hb hq0 hq hm hf (i+1) (by omega)
 rw [withW_succ L ws (q+1) hi] at o2 b2
 have e:((L.withW (ws.take i) (q+1)).put (ws.getD i Wr.Z).key ((ws.getD i Wr.Z).ver (q+1))).of (ws.getD i Wr.Z).key=(L.withW (ws.take i) (q+1)).of (ws.getD i Wr.Z).key++[(ws.getD i Wr.Z).ver (q+1)]:=by
  rw [Ch.of_put o1.rise,if_pos rfl]
 have r:=o2.of_right (ws.getD i Wr.Z).key
 have f:=o2.of_fits (ws.getD i Wr.Z).key
 have n:=b2.2 (ws.getD i Wr.Z).key
 rw [e] at r f n
 exact ⟨⟨f,fun y hy=>by have:=Val.ok_txt (right_ok r hy); omega,by omega⟩,r,(wrOk_parts (mayW_at hm hi)).2,b1.1⟩
theorem xCommitR (h:Side w0 N w (s.os b)) (a:s.At L P) (ws:List Wr) (A:Option Addr) (c:Nat) (x:Int) (hw:SlWr w0 A ws) (hA:0<ws.length->∀ a,A=some a->N a.block) (hf:FitsW ws) (ht:∀ x,x ∈ ws->x.val.txt.size<=1000)
  (o:OkL L s.r.seq) (hb:Bnd L 3900 500) (hq:s.g3<=1073741824) (hP:P+16<=13200) :
  Calls Tryz.prog 24 #[PtrM b,.slice A ws.length c,.int .u64 x] w fun e w'=>e=.returned (.tuple #[.int .i64 (comN s.r L ws x s.g2 s.g3),.int .i64 (comE s.r L ws x s.g2 s.g3)]) ∧
   ∃ s',Side w0 N w' (s'.os b)∧Sh.Hd (s.ringTo (comR s.r L ws x s.g2 s.g3)) s'∧s'.At (comL s.r L ws x s.g2 s.g3) (P+(if comE s.r L ws x s.g2 s.g3=0 then 16 else 0)):=by
 have h0:Side w0 N w (s.os b++[]):=by rw [List.append_nil]; exact h
 have hG:mayW ws=true->(s.r.seq:Int)<s.g3->∀ i,i<=ws.length->GoodC (L.withW (ws.take i) ((s.r.seq:Int)+1))∧(L.withW (ws.take i) ((s.r.seq:Int)+1)).length<=10000:=fun hm hs=>o.goods hb (by omega) (by omega) hm hf (by decide) (by decide)
 have MY:=qh (fun W (hW:Side w0 N W (s.os b))=>xMayR ws A c W (hw.side hA hW) hf)
 have FT:=qh (fun (hm:mayW ws=true) W (hW:Side w0 N W (s.os b))=>xFitsR (os2:=[]) (by rw [List.append_nil]; exact hW) a ws A c (hw.side hA hW) hf ht hm (hG hm))
 have PU:=qh (fun W (hW:Side w0 N W (s.os b))=>xPushR x hW)
 have HA:=qh a
 have HH:=qh h
 obtain ⟨Z,hZ⟩:=nmq (spcE s.r L ws s.g2 s.g3)
 obtain ⟨M,hM⟩:=nmq (mayW ws)
 obtain ⟨n,hn⟩:=nmq (ws.length)
 have NOP:=qh (fun (hc:comE s.r L ws x s.g2 s.g3≠0) W (hW:Side w0 N W (s.os b))=>show ∃ s',Side w0 N W (s'.os b)∧Sh.Hd (s.ringTo (comR s.r L ws x s.g2 s.g3)) s'∧s'.At (comL s.r L ws x s.g2 s.g3) (P+(if comE s.r L ws x s.g2 s.g3=0 then 16 else 0)) from by
  have e1:comR s.r L ws x s.g2 s.g3=s.r:=by unfold comR; rw [if_neg hc]
  have e2:comL s.r L ws x s.g2 s.g3=L:=by unfold comL; rw [if_neg hc]
  rw [e1,e2,if_neg hc]
  exact ⟨s,hW,⟨rfl,rfl,rfl,rfl,rfl,rfl,rfl⟩,HA.out⟩)
 have EC:=qh (show comE s.r L ws x s.g2 s.g3=if M=false then 1 else if Z≠0 then Z else s.r.no x from by rw [hM,hZ]; rfl)
 have EN:=qh (show comN s.r L ws x s.g2 s.g3=if comE s.r L ws x s.g2 s.g3=0 then (s.r.seq:Int)+1 else 0 from rfl)
 have ER:=qh (fun (hc:comE s.r L ws x s.g2 s.g3=0)=>show comR s.r L ws x s.g2 s.g3=s.r.push x∧comL s.r L ws x s.g2 s.g3=L.withW ws ((s.r.seq:Int)+1) from ⟨by unfold comR; rw [if_pos hc],by unfold comL; rw [if_pos hc]⟩)
 have ZS:=qh (fun (hz:Z=0)=>show (s.r.seq:Int)<s.g3 from by
  rw [hZ] at hz
  unfold spcE at hz
  by_cases q:s.g3<=(s.r.seq:Int)
  ·rw [if_pos q] at hz; cases hz
  ·omega)
 obtain ⟨y,hy⟩:∃ y:Nat,y=s.r.seq:=⟨_,rfl⟩
 have AK:=qh (fun (hm:M=true) (hs:(y:Int)<s.g3) i (hi:i<n)=>add_asks (q:=(y:Int)) (by rw [hy]; exact o) hb (by omega) (by omega) (by rw [<-hM]; exact hm) hf (i:=i) (by rw [<-hn]; exact hi))
 have n16:=qh (fun (hm:M=true)=>show n<=16 from by rw [hn]; exact mayW_size (by rw [<-hM]; exact hm))
 have WI:=qh (fun i (hi:i<n)=>withW_succ L ws ((y:Int)+1) (i:=i) (by rw [<-hn]; exact hi))
 have WN:=qh (show L.withW (ws.take n) ((y:Int)+1)=L.withW ws ((y:Int)+1) from by rw [hn,List.take_length])
 have WS:=qh (fun W os (hW:Side w0 N W os)=>show SlWr W A ws from hw.side hA hW)
 have PN:=qh (fun (ho:s.r.no x≠0)=>show s.ringTo (s.r.push x)=s from by unfold Rg.push; rw [if_neg ho]; rfl)
 have TO:=qh (show s.r.told x=if s.r.no x=0 then y+1 else 0 from by rw [hy]; rfl)
 simp only [<-hy] at EN ER ZS
 simp only [<-hn,<-hM] at MY
 simp only [<-hn,<-hZ,<-hM] at FT
 obtain ⟨E,hE⟩:=nmq (comE s.r L ws x s.g2 s.g3)
 obtain ⟨CN,hCN⟩:=nmq (comN s.r L ws x s.g2 s.g3)
 obtain ⟨O,hO⟩:=nmq (s.r.no x)
 obtain ⟨TT,hTT⟩:=nmq (s.r.told x)
 simp only [<-hE] at NOP EC EN ER
 simp only [<-hCN] at EN
 simp only [<-hO] at EC TO PU PN
 simp only [<-hTT] at TO PU
 rw [<-hn,<-hE,<-hCN]
 have HP:=qh hP
 have HN:=qh hn
 have HQ:=qh (show ∀ W,Side w0 N W (s.os b)->W.cell? ⟨b,4,none⟩=some (.pointer (some ⟨s.q,0,none⟩)) from fun W hW=>(Sh.cells (os2:=[]) (by rw [List.append_nil]; exact hW)).2.2.2.2.1)
 clear h0 h a hw hA hf ht o hb hq hP hG hZ hM hn hE hCN hO hTT
 have hy':=qh hy
 clear hy
 go_enter Tryz.func24,Tryz.ntmps24
 go_wp2_with fail
 refine (MY.out _ HH.out).mono ?_
 rintro e w1 ⟨rfl,hb1⟩
 have H1:=qh (HH.out.below hb1)
 clear hb1
 cases M with
 | false =>
  have e:E=1:=EC.out
  subst e
  have ec:CN=0:=EN.out
  subst ec
  go_wp2_with fail
  go_ret2
  exact ⟨rfl,NOP.out (by decide) _ H1.out⟩
 | true =>
  have FT':=qh (FT.out (by simp) _ H1.out)
  go_wp2_with fail
  refine FT'.out.mono ?_
  rintro e w2 ⟨rfl,hb2⟩
  have H2:=qh (H1.out.below hb2)
  clear hb2
  by_cases z0:Z=0
  ·have HZ:=qh z0
   have ZS':=qh (ZS.out z0)
   subst z0
   have c4:=HQ.out _ H2.out
   go_wp2_with fail
   refine (PU.out _ H2.out).mono ?_
   rintro e w3 ⟨rfl,h3⟩
   have H3:=qh h3
   clear h3 c4
   by_cases z1:O=0
   ·subst z1
    have e:E=0:=by rw [EC.out]; rfl
    subst e
    have ec:CN=(y:Int)+1:=by rw [EN.out]; rfl
    have et:TT=y+1:=by rw [TO.out]; rfl
    obtain ⟨q',hq'⟩:∃ q':Int,q'=(y:Int)+1:=⟨_,rfl⟩
    have et2:((TT:Nat):Int)=q':=by rw [hq',et]; rfl
    rw [<-hq'] at ec
    obtain ⟨er,el⟩:=ER.out rfl
    simp only [<-hq'] at el WI WN AK
    have ERL:=qh (And.intro er el)
    have A3:=qh (HA.out.ring (s.r.push x))
    have AK':=qh (AK.out (by simp) ZS'.out)
    have N16:=n16.out (by simp)
    subst ec
    clear er el hq' et AK n16 ZS ER
    go_wp2_with fail
    clear et2
    go_loopw [38] (fun vi wr=>∃ (i:Nat) (si:Sh),i<=n∧vi=.int .i64 i∧Hid (Side w0 N wr (si.os b))∧Hid (Sh.Hd (s.ringTo (s.r.push x)) si)∧Hid (si.At (L.withW (ws.take i) CN) (P+i))) (fun vi _=>n-(intOf vi).toNat)
    case atStart=>exact ⟨0,s.ringTo (s.r.push x),Nat.zero_le _,rfl,H3,qh ⟨rfl,rfl,rfl,rfl,rfl,rfl,rfl⟩,A3⟩
    case round =>
     obtain ⟨i,si,hi,rfl,HS,HD,HAi⟩:=hrel
     by_cases z:i<n
     ·obtain ⟨bb,o,ea,hb,c0,c1,c2,c3,c4⟩:=(WS.out _ _ HS.out).at (j:=i) (by rw [<-HN.out]; exact z)
      obtain ⟨k1,k2,k3,k4⟩:=AK'.out i z
      have wi:=WI.out i z
      obtain ⟨y0,hy0⟩:=nmq (ws.getD i Wr.Z)
      rw [<-hy0] at c0 c1 c2 c3 c4 k1 k2 k3 wi
      have KA:=qh (fun W (hW:Side w0 N W (si.os b))=>(xAddR (k:=y0.key) (y0.ver CN) hW HAi.out (by have:=HP.out; omega) (by omega) k1 k2 (by omega)).mono (R':=fun e w'=>e=.returned (.tuple #[])∧∃ s',Side w0 N w' (s'.os b)∧Sh.Hd (s.ringTo (s.r.push x)) s'∧s'.At (L.withW (ws.take (i+1)) CN) (P+(i+1))) fun e w' ⟨q1,s',q2,q3,q4⟩=>⟨q1,s',q2,HD.out.trans q3,by rw [wi]; exact q4⟩)
      obtain ⟨k,g,v⟩:=y0
      obtain ⟨nm,t,bt⟩:=v
      have KA:Hid (∀ W,Side w0 N W (si.os b)->Calls Tryz.prog 45 #[PtrS b,.string k,.agg #[.int .i64 CN,.bool g,.bool nm,.string t,.int .u64 (bt:Int)]] W fun e w'=>e=.returned (.tuple #[])∧∃ s',Side w0 N w' (s'.os b)∧Sh.Hd (s.ringTo (s.r.push x)) s'∧s'.At (L.withW (ws.take (i+1)) CN) (P+(i+1))):=KA
      subst ea
      have i0:(0:Int)<=(i:Int):=by omega
      have i1:(i:Int)<(n:Int):=by omega
      have c0:wr.cell? ⟨bb,o+i * 5,none⟩=some (.string k):=c0
      have c1:wr.cell? ⟨bb,o+i * 5+1,none⟩=some (.bool g):=c1
      have c2:wr.cell? ⟨bb,o+i * 5+2,none⟩=some (.bool nm):=c2
      have c3:wr.cell? ⟨bb,o+i * 5+3,none⟩=some (.string t):=c3
      have c4:wr.cell? ⟨bb,o+i * 5+4,none⟩=some (.int .u64 (bt:Int)):=c4
      obtain ⟨X,hX⟩:=nmq (wr.heap.size)
      obtain ⟨r1,hr1⟩:=nmq (wr.alloc (.cells #[.string k,.bool g,.bool nm,.string t,.int .u64 (bt:Int)] 61))
      have R1:=qh (show RowAt r1 X [.string k,.bool g,.bool nm,.string t,.int .u64 (bt:Int)] 61 from by rw [hr1,hX]; exact RowAt.new wr _ _)
      have S1:=qh (show Side w0 N r1.drew (si.os b) from by rw [hr1]; exact (HS.out.below ((Below.refl _ _).alloc (Nat.le_refl _) _)).below (Below.refl _ _).drew)
      have HR1:=qh hr1
      have HX:=qh hX
      have KA1:=qh (KA.out _ S1.out)
      clear hy0 hb k1 k2 k3 k4 wi hr1 hX KA
      go_wp2_with fail
      rw [<-HR1.out,<-HX.out]
      clear c0 c1 c2 c3 c4
      obtain ⟨c0,c1,c2,c3,c4⟩:=row5 (w:=r1.drew) R1.out
      go_still_tail 11,(by kernel_rfl)
      change wpList _ _ _ _ _ r1.drew
      go_wp2_with fail
      refine KA1.out.mono ?_
      rintro e w5 ⟨rfl,s5,h5,d5,a5⟩
      have H5:=qh h5
      have D5:=qh d5
      have A5:=qh a5
      clear h5 d5 a5 c0 c1 c2 c3 c4
      go_wp2_with fail
      go_roundw
      case rel=>exact ⟨i+1,s5,by omega,by go_num,H5,D5,A5⟩
      case measure=>simp [intOf]; omega
     ·obtain rfl:i=n:=by omega
      have a5:=HAi.out
      rw [WN.out] at a5
      have A5:=qh (a5.more (P':=P+16) (by omega) HP.out)
      clear a5
      go_wp2_with fail
      go_ret2
      refine ⟨rfl,si,HS.out,?_,?_⟩
      ·rw [ERL.out.1]; exact HD.out
      ·rw [ERL.out.2]; exact A5.out
   ·have e:E=O:=by rw [EC.out]; simp
    subst e
    have ec:CN=0:=by rw [EN.out,if_neg z1]
    have h3:=H3.out
    rw [PN.out z1] at h3
    have np:=NOP.out z1 _ h3
    rw [if_neg z1] at np
    have NP:=qh np
    clear np
    subst ec
    clear h3
    go_wp2_with fail
    go_ret2
    exact ⟨rfl,NP.out⟩
  ·have e:E=Z:=by rw [EC.out,if_neg (by decide),if_pos z0]
   subst e
   have ec:CN=0:=by rw [EN.out,if_neg z0]
   subst ec
   go_wp2_with fail
   go_ret2
   have np:=NOP.out z0 _ H2.out
   rw [if_neg z0] at np
   exact ⟨rfl,np⟩
end

end Go.Proofs.YtoljhoabbaigdaaGreat

namespace Go.Proofs.YtoljhoabbaigdaaGreat
open Go.RowKit

theorem results_tct {P:Program} {fn:Func} {o p q:Tmp} {ty:TypeId} (h:fn.results=#[.tmp o,.cell p ty,.tmp q]) (tmps:Array Value) (w:World) (g:Nat) (t:TypeId) (cs:List Value) (d:TypeDesc)
  (hp:tmps.getD p undef=.pointer (some ⟨g,0,none⟩)) (hg:RowAt w g cs t)
  (hu:P.underlying ty=some d) (hd:(match d with | .struct _ | .array _ _=>true | _=>false)=true) (hi:(P.info? ty).map (·.size)=some cs.toArray.size) :
  (results fn tmps).run P w=.ok (.tuple #[tmps.getD o undef,.agg cs.toArray,tmps.getD q undef]) w:=by
 have hp':tmps[p]?.getD undef=.pointer (some ⟨g,0,none⟩):=by simpa using hp
 simp [results,h,hp',asAddr,run_loadVar_row w g t ty cs.toArray _ d hg hu hd hi]

end Go.Proofs.YtoljhoabbaigdaaGreat
