/- Proved parts: B5y B5z B5za B5zb B5zc B5s. Conditions: each theorem's own. -/
import Derived.Test.YtoljhoabbaigdaaGreatM45
import Derived.Test.YtoljhoabbaigdaaGreatM21
import Derived.Test.YtoljhoabbaigdaaGreatM25
import Derived.Lib.SliceRun
import Derived.Test.YtoljhoabbaigdaaGreatM26
import Derived.Test.YtoljhoabbaigdaaGreatM44
import Derived.StillTailTactics
import Derived.Test.YtoljhoabbaigdaaGreatM37
import Derived.Test.YtoljhoabbaigdaaGreatQ1
import Derived.Test.YtoljhoabbaigdaaGreatQ2
set_option maxRecDepth 100000
set_option maxHeartbeats 8000000
namespace Go.Proofs.YtoljhoabbaigdaaGreat
open Go.RowKit

theorem xRightR (A:Option Addr) (c:Nat) (zs:List Int) (g1 g2 g3:Int) (w:World) (h:Sl w A zs) (hm:zs.length<=maxLen) :
  Calls Tryz.prog 78 #[.agg #[.slice A zs.length c,.int .i64 g1,.int .i64 g2,.int .i64 g3]] w fun e w'=>e=.returned (.bool (stOk zs g1 g2 g3))∧Below w.heap.size w w':=by
 have b0:Below w.heap.size w (w.alloc (.cells #[.slice A zs.length c,.int .i64 g1,.int .i64 g2,.int .i64 g3] 81)):=(Below.refl _ _).alloc (Nat.le_refl _) _
 have CR:=qh (lright A c zs _ (h.below b0) hm)
 have B0:=qh b0
 obtain ⟨n,hn⟩:=nmq (zs.length)
 obtain ⟨R,hR⟩:=nmq (La.right zs)
 obtain ⟨T,hT⟩:=nmq (stOk zs g1 g2 g3)
 have eT:T=(R && (decide (1<=g1) && (decide (g1<=16) && (decide (0<=g2) && (decide (g2<=1048576) && (decide (1<=g3) && decide (g3<=1073741824))))))):=by rw [hT,hR]; rfl
 rw [<-hT]
 rw [<-hR,<-hn] at CR
 rw [<-hn] at B0 ⊢
 have ET:=qh eT
 clear h hm hn hR hT eT b0
 go_enter Tryz.func78,Tryz.ntmps78
 go_wp2_with fail
 refine CR.out.mono ?_
 rintro e w1 ⟨rfl,rfl⟩
 have B1:=B0
 clear CR
 cases R with
 | false =>
  have e:=qh (show T=false from ET.out)
  go_wp2_with fail
  go_ret
  exact ⟨by rw [e.out]; rfl,B1.out⟩
 | true =>
 by_cases p1:(1:Int)<=g1
 case neg =>
  have d1:decide ((1:Int)<=g1)=false:=decide_eq_false p1
  have e:=qh (show T=false by rw [ET.out,d1]; simp)
  clear p1
  go_wp2_with fail
  go_ret
  exact ⟨by rw [e.out]; rfl,B1.out⟩
 have d1:decide ((1:Int)<=g1)=true:=decide_eq_true p1
 by_cases p2:g1<=(16:Int)
 case neg =>
  have d2:decide (g1<=(16:Int))=false:=decide_eq_false p2
  have e:=qh (show T=false by rw [ET.out,d2]; simp)
  clear p1 p2
  go_wp2_with fail
  go_ret
  exact ⟨by rw [e.out]; rfl,B1.out⟩
 have d2:decide (g1<=(16:Int))=true:=decide_eq_true p2
 by_cases p3:(0:Int)<=g2
 case neg =>
  have d3:decide ((0:Int)<=g2)=false:=decide_eq_false p3
  have e:=qh (show T=false by rw [ET.out,d3]; simp)
  clear p1 p2 p3
  go_wp2_with fail
  go_ret
  exact ⟨by rw [e.out]; rfl,B1.out⟩
 have d3:decide ((0:Int)<=g2)=true:=decide_eq_true p3
 by_cases p4:g2<=(1048576:Int)
 case neg =>
  have d4:decide (g2<=(1048576:Int))=false:=decide_eq_false p4
  have e:=qh (show T=false by rw [ET.out,d4]; simp)
  clear p1 p2 p3 p4
  go_wp2_with fail
  go_ret
  exact ⟨by rw [e.out]; rfl,B1.out⟩
 have d4:decide (g2<=(1048576:Int))=true:=decide_eq_true p4
 by_cases p5:(1:Int)<=g3
 case neg =>
  have d5:decide ((1:Int)<=g3)=false:=decide_eq_false p5
  have e:=qh (show T=false by rw [ET.out,d5]; simp)
  clear p1 p2 p3 p4 p5
  go_wp2_with fail
  go_ret
  exact ⟨by rw [e.out]; rfl,B1.out⟩
 have d5:decide ((1:Int)<=g3)=true:=decide_eq_true p5
 clear p1 p2 p3 p4 p5
 cases d6:decide (g3<=(1073741824:Int)) with
 | false =>
  have e:=qh (show T=false by rw [ET.out,d6]; simp)
  go_wp2_with fail
  go_ret
  exact ⟨by rw [e.out]; rfl,B1.out⟩
 | true =>
  have e:=qh (show T=true by rw [ET.out,d1,d2,d3,d4,d5,d6]; rfl)
  go_wp2_with fail
  go_ret
  exact ⟨by rw [e.out]; rfl,B1.out⟩

theorem scloneA (A:Option Addr) (c:Nat) (zs:List Int) (w:World) (h:Sl w A zs) (hl:zs.length<=1024) :
  Calls Tryz.prog 81 #[.slice A zs.length c] w fun e w'=>∃ v,e=.returned v∧Own w' w.heap.size v zs∧Below w.heap.size w w':=by
 have RUN:=fun w':World=>Lib.run_eql_slice_nil (P:=Tryz.prog) w' 79 57 A zs.length c 0 0 Tryz.underlying79
 cases A with
 | none =>
  have e:zs=[]:=by
   cases zs with
   | nil=>rfl
   | cons z l=>obtain ⟨_,_,e,_⟩:=h (by simp); cases e
  subst e
  simp only [Option.isNone_none,List.length_nil] at RUN
  have HO:=qh (show Own w w.heap.size (.slice none 0 0) [] from ⟨by simp,.inl ⟨rfl,rfl⟩⟩)
  clear h hl
  go_enter Tryz.func81,Tryz.ntmps81
  go_wp2_with fail
  go_ret
  exact ⟨_,rfl,HO.out,Below.refl _ _⟩
 | some a =>
  have HA:=qh h
  have OM:=qh (Own.made w w.heap.size (Nat.le_refl _) [] (by simp))
  have BM:=qh ((Below.refl w.heap.size w).alloc (Nat.le_refl _) (.cells (([]:List Int).map (Value.int .u64)).toArray 57))
  simp only [Option.isNone_some] at RUN
  clear h
  go_enter Tryz.func81,Tryz.ntmps81
  go_wp2_with (at_builtin; refine wp_putN rfl (.tmp 5) (.tmp 6) rfl w.heap.size _ [] rfl OM.out (some a) c zs rfl (HA.out.alloc _) (fun e=>by cases e) (by simp; omega) (by simp) ?_; intro v2 w2 hown2 hb2; have HO2:=qh hown2; have HB2:=qh (BM.out.trans hb2); clear hown2 hb2)
  go_ret
  exact ⟨v2,rfl,by simpa using HO2.out,HB2.out⟩

theorem Side.perm {w0 w:World} {N:Nat->Prop} {os os':List Ob} (h:Side w0 N w os) (f:Nat->Nat) (h1:∀ i,i<os'.length->f i<os.length∧os'[i]?=os[f i]?) (h2:∀ i j,i<os'.length->j<os'.length->f i=f j->i=j):Side w0 N w os':=by
 obtain ⟨F,p1,p2,p3,p4,p5⟩:=h
 refine ⟨fun i=>F (f i),fun i o e=>?_,fun i j k hi hj hn=>p2 _ _ k (h1 i hi).1 (h1 j hj).1 (fun e=>hn (h2 i j hi hj e)),fun i k hi=>p3 _ k (h1 i hi).1,p4,p5⟩
 have il:=(List.getElem?_eq_some_iff.1 e).1
 exact p1 _ o (by rw [<-(h1 i il).2]; exact e)
def Sh.new (lb:Value) (g1 g2 g3:Int) (q:Nat) (r:Rg) (zs:List Int):Sh:=⟨lb,g1,g2,g3,q,.slice none 0 0,.slice none 0 0,.slice none 0 0,0,0,0,none,[],0,[],[],[],r,zs⟩
theorem Sh.new_at (lb:Value) (g1 g2 g3:Int) (q:Nat) (r:Rg) (zs:List Int):(Sh.new lb g1 g2 g3 q r zs).At [] 0 where
 f:=⟨Fine.nil,fun _=>⟨rfl,rfl⟩,Nat.le_refl _,Nat.zero_le _,Nat.le_refl _,Nat.zero_le _,
  ⟨Nat.zero_le _,fun x h=>(by cases h),fun x h=>(by cases h),fun x h=>(by cases h),fun x h=>(by cases h),List.Pairwise.nil,fun x h=>(by cases h)⟩,fun x h=>(by cases h),Nat.zero_le _⟩
 x1:=rfl
 x2:=rfl
 x3:=rfl
def perm8:Nat->Nat
 | 0=>3 | 1=>4 | 2=>5 | 3=>6 | 4=>7 | 5=>8 | 6=>1 | _=>2
theorem newSh {w0 w:World} {N:Nat->Prop} {o:Ob} {lb:Value} {q:Nat} {r:Rg} {zs:List Int} (g1 g2 g3:Int) (h:Side w0 N w [o,oRing q r,oLab lb zs]) :
  Side w0 N (w.alloc (.cells (Sh.row (Sh.new lb g1 g2 g3 q r zs)).toArray 124)) ((Sh.new lb g1 g2 g3 q r zs).os w.heap.size):=by
 have k1:=h.rowNew (Sh.row (Sh.new lb g1 g2 g3 q r zs)) 124
 have k2:=k1.more (Below.refl _ _) (o:=oTree none [] 0) (F':=fun _=>False) (.inl ⟨rfl,rfl,fun _ e=>e⟩) (fun k e=>e.elim)
 have v (t:TypeId) (w:World):(oVec t (.slice none 0 0) []).P w fun _=>False:=⟨World.ownsRow_nil _ _ _ _,fun k=>⟨fun e=>e.elim,fun e=>(by cases e)⟩⟩
 have k3:=k2.more (Below.refl _ _) (v 196 _) (fun k e=>e.elim)
 have k4:=k3.more (Below.refl _ _) (v 145 _) (fun k e=>e.elim)
 have k5:=k4.more (Below.refl _ _) (v 3 _) (fun k e=>e.elim)
 have k6:=k5.more (Below.refl _ _) (o:=oDat [] []) (F':=fun _=>False) ⟨rfl,fun i hi=>(by cases hi),fun k e=>e.elim⟩ (fun k e=>e.elim)
 refine k6.perm perm8 (fun i hi=>?_) fun i j hi hj e=>?_
 ·have hi:i<8:=hi
  match i,hi with
  | 0,_=>exact ⟨(show 3<9 by decide),rfl⟩
  | 1,_=>exact ⟨(show 4<9 by decide),rfl⟩
  | 2,_=>exact ⟨(show 5<9 by decide),rfl⟩
  | 3,_=>exact ⟨(show 6<9 by decide),rfl⟩
  | 4,_=>exact ⟨(show 7<9 by decide),rfl⟩
  | 5,_=>exact ⟨(show 8<9 by decide),rfl⟩
  | 6,_=>exact ⟨(show 1<9 by decide),rfl⟩
  | 7,_=>exact ⟨(show 2<9 by decide),rfl⟩
 ·have hi:i<8:=hi
  have hj:j<8:=hj
  have A:∀ i,i<8->∀ j,j<8->perm8 i=perm8 j->i=j:=by decide
  exact A i hi j hj e
theorem put_last {L:Ch} {k:ByteArray} {v:Ver} (h:Ch.Rise (L++[(k,[v])])):L.of k=[]∧L.put k v=L++[(k,[v])]:=by
 have hk:∀ a,a ∈ L->ltB a.1 k=true:=fun a ha=>(List.pairwise_append.1 h).2.2 a ha (k,[v]) (List.mem_singleton.2 rfl)
 have kk:∀ i,i<L.length->ltB (L.key i) k=true:=fun i hi=>by
  have:=hk _ (List.getElem_mem hi)
  unfold Ch.key
  rw [List.getD_eq_getElem?_getD,List.getElem?_eq_getElem hi]; exact this
 have nh:L.has k=false:=by
  cases q:L.has k with
  | false=>rfl
  | true =>
   obtain ⟨p1,p2⟩:=(Ch.has_iff L k).1 q
   have:=kk _ p1
   rw [p2,ltB_irr] at this; cases this
 have pl:L.pos k=L.length:=by
  have le:=L.pos_le k
  by_cases z:L.pos k<L.length
  ·have a:=Ch.not_has nh z
   rw [ltB_asym (kk _ z)] at a; cases a
  ·omega
 refine ⟨Ch.of_no nh,?_⟩
 unfold Ch.put
 rw [if_neg (by rw [nh]; decide),pl,List.take_length,List.drop_length]
theorem load_asks {l:List En} {sq:Int} (hm:mayE l sq=true) (hf:FitsE l) (hs:sq<=1073741824) (hl:l.length<=3900) {i:Nat} (hi:i<l.length) :
  GoodL ((loadL (l.take i)).of (l.getD i En.Z).key++[(l.getD i En.Z).ver])∧rightL ((loadL (l.take i)).of (l.getD i En.Z).key++[(l.getD i En.Z).ver])=true∧(l.getD i En.Z).key.size<=1000∧(loadL (l.take i)).length<=i ∧
   (loadL (l.take i)).put (l.getD i En.Z).key (l.getD i En.Z).ver=loadL (l.take (i+1)):=by
 have o:=(OkL.load hm hf hs).1
 have g:=loadL_good hm hf (by omega)
 have r:Ch.Rise (loadL (l.take (i+1))):=by
  have e:loadL (l.take (i+1))=(loadL l).take (i+1):=by unfold loadL; rw [List.map_take]
  rw [e]
  exact List.Pairwise.sublist (List.take_sublist _ _) o.rise
 rw [loadL_succ l hi] at r ⊢
 obtain ⟨e1,e2⟩:=put_last r
 have mem:((l.getD i En.Z).key,[(l.getD i En.Z).ver]) ∈ loadL l:=by
  rw [List.getD_eq_getElem?_getD,List.getElem?_eq_getElem hi]
  exact List.mem_map.2 ⟨_,List.getElem_mem hi,rfl⟩
 rw [e1,e2]
 exact ⟨⟨g.fits _ mem,g.texts _ mem,g.lens _ mem⟩,o.right _ mem,g.keys _ mem,by rw [loadL_len,List.length_take]; omega,rfl⟩
theorem ringNew (s q:Int) (w:World):Calls Tryz.prog 77 #[.int .i64 s,.int .i64 q] w fun e w'=>Below w.heap.size w w' ∧
  ((Rg.fits s q=true∧∃ b F,e=.returned (.tuple #[PtrR b,.int .i64 0])∧theR w' b F (Rg.new s q)∧∀ k,F k->w.heap.size<=k) ∨
   (Rg.fits s q=false∧e=.returned (.tuple #[.pointer none,.int .i64 1]))) :=
 (xNew0 s q w).mono fun e w' ⟨hb,h⟩=>⟨hb,by
  rcases h with ⟨hf,b,he,hp,hs⟩ | h
  ·refine .inl ⟨hf,b,rfoot b (.slice none 0 0),he,⟨.slice none 0 0,rfl,?_,Rg.new_ok hf⟩,fun k e=>?_⟩
   ·have ek:(Rg.new s q).kept=[]:=by unfold Rg.kept Rg.new; simp
    rw [ek]
    exact hp
   ·rcases e with rfl | e
    ·exact hs
    ·cases e
  ·exact .inr h⟩
theorem SlEn.below' {w w':World} {A:Option Addr} {l:List En} (h:SlEn w A l) (hb:Below w.heap.size w w'):SlEn w' A l:=fun hp=>by
 obtain ⟨b,o,e,hl,hc⟩:=h hp
 exact ⟨b,o,e,Nat.lt_of_lt_of_le hl hb.size,fun j hj=>sw5 hb (hc j hj)⟩
theorem Own.lab {w1 w:World} {v:Value} {zs:List Int} (h:Own w w1.heap.size v zs):(oLab v zs).P w (fun k=>v.ownBlock=some k):=by
 obtain ⟨A,c,e,_,hs,hn,hg⟩:=h.form
 subst e
 refine ⟨⟨A,c,rfl,hs,fun hp=>?_⟩,fun k e=>(World.ownsRow.lt h k e).2⟩
 cases A with
 | none =>
  have:=(hn rfl).2
  subst this; cases hp
 | some a =>
  obtain ⟨g,rfl,_⟩:=hg a rfl
  exact ⟨g,0,rfl,rfl⟩
theorem xLoadR (A:Option Addr) (c:Nat) (zs:List Int) (g1 g2 g3 sq:Int) (l:List En) (A2:Option Addr) (c2:Nat) (w:World) (h:Sl w A zs) (hm:zs.length<=1000) (he:SlEn w A2 l) (hf:FitsE l) (hl:l.length<=3900) :
  Calls Tryz.prog 48 #[.agg #[.slice A zs.length c,.int .i64 g1,.int .i64 g2,.int .i64 g3],.int .i64 sq,.slice A2 l.length c2] w fun e w' =>
   ((ldE zs g1 g2 g3 sq l≠0∧Below w.heap.size w w'∧e=.returned (.tuple #[.pointer none,.int .i64 (ldE zs g1 g2 g3 sq l)])) ∨
    (ldE zs g1 g2 g3 sq l=0∧∃ (b:Nat) (s:Sh),e=.returned (.tuple #[PtrM b,.int .i64 0])∧Side w (fun k=>k<w.heap.size) w' (s.os b)∧s.At (loadL l) l.length∧s.zs=zs∧s.g1=g1∧s.g2=g2∧s.g3=g3∧s.r=Rg.new g1 sq)):=by
 obtain ⟨T,hT⟩:=nmq (ldE zs g1 g2 g3 sq l)
 obtain ⟨R,hR⟩:=nmq (stOk zs g1 g2 g3)
 obtain ⟨M,hM⟩:=nmq (mayE l sq)
 obtain ⟨V,hV⟩:=nmq ((loadL l).live)
 have eT:T=if (R && (decide (0<=sq) && decide (sq<=g3)))=false then 1 else if M=false then 1 else if g2<(V:Int) then 15 else 0:=by rw [hT,hR,hM,hV]; rfl
 have st1:R=true->1<=g1∧g1<=16∧g3<=1073741824:=fun q=>by
  rw [hR] at q
  unfold stOk at q
  simp only [Bool.and_eq_true,decide_eq_true_eq] at q
  exact ⟨q.2.1,q.2.2.1,q.2.2.2.2.2.2⟩
 have fit0:Rg.fits g1 sq=false->T=1:=fun q=>by
  rw [eT]
  cases r:R with
  | false=>rw [if_pos (by simp)]
  | true =>
   obtain ⟨a1,a2,a3⟩:=st1 r
   unfold Rg.fits at q
   rw [decide_eq_true a1,decide_eq_true a2] at q
   by_cases z1:0<=sq
   ·by_cases z2:sq<=g3
    ·rw [decide_eq_true z1,decide_eq_true (show sq<=1073741824 by omega)] at q; cases q
    ·rw [decide_eq_false z2]; simp
   ·rw [decide_eq_false z1]; simp
 have fit1:Rg.fits g1 sq=true->0<=sq∧sq<=1073741824:=fun q=>by
  unfold Rg.fits at q
  simp only [Bool.and_eq_true,decide_eq_true_eq] at q
  exact q.2.2
 have AK:=qh (fun (m:M=true) (s:sq<=1073741824) i (hi:i<l.length)=>load_asks (by rw [<-hM]; exact m) hf s hl hi)
 obtain ⟨w0,hw0⟩:=nmq (w.alloc (.cells #[.slice A zs.length c,.int .i64 g1,.int .i64 g2,.int .i64 g3] 81))
 have H0:=qh (show Side w (fun k=>k<w.heap.size) w0 [Ob.row w.heap.size [.slice A zs.length c,.int .i64 g1,.int .i64 g2,.int .i64 g3] 81] from by
  have:=(Side.nil w).rowNew [.slice A zs.length c,.int .i64 g1,.int .i64 g2,.int .i64 g3] 81
  rw [hw0]; exact this)
 have CN:=qh (ringNew g1 sq w0)
 have CR:=qh (fun W (hb:Below w.heap.size w W)=>xRightR A c zs g1 g2 g3 W (h.below hb) (Nat.le_trans hm (by decide)))
 have CM:=qh (fun W (hb:Below w.heap.size w W)=>xMayER l A2 c2 sq W (he.below' hb) hf (by omega))
 have CW:=qh (fun (m:M=true) W (hb:Below w.heap.size w W)=>xWeighR l A2 c2 sq W (he.below' hb) hf (by omega) (by rw [<-hM]; exact m))
 have CC:=qh (fun W (hb:Below w.heap.size w W)=>scloneA A c zs W (h.below hb) (by omega))
 have HZ:=qh (fun (lb:Value) (q:Nat)=>Sh.new_at lb g1 g2 g3 q (Rg.new g1 sq) zs)
 have BS:=qh (fun W os (hW:Side w (fun k=>k<w.heap.size) W os)=>show Below w.heap.size w W from hW.base (Nat.le_refl _) fun k e=>e)
 simp only [<-hR] at CR
 simp only [<-hM] at CM
 simp only [<-hV] at CW
 rw [<-hT]
 obtain ⟨m,hm2⟩:=nmq (zs.length)
 obtain ⟨n,hn⟩:=nmq (l.length)
 simp only [<-hm2] at hw0 H0 CR CC
 simp only [<-hn] at CM CW AK
 rw [<-hn,<-hm2]
 rw [<-hn] at hl
 have HN:=qh hn
 have HS:=qh he
 have ET:=qh eT
 have ST1:=qh st1
 have FT0:=qh fit0
 have FT1:=qh fit1
 have HW0:=qh hw0
 have HL:=qh hl
 clear h hm he hf hT hR hM hV hm2 hn eT st1 fit0 fit1 hw0 hl
 go_enter Tryz.func48,Tryz.ntmps48
 go_wp2_with fail
 rw [<-HW0.out]
 have c1:=(H0.out.rowAt (i:=0) rfl).cell 1
 simp only [geS] at c1
 go_wp2_with fail
 refine CN.out.mono ?_
 rintro e w1 ⟨hb1,⟨hfi,q,F,rfl,hr,hF⟩ | ⟨hfi,rfl⟩⟩
 case inr =>
  have B1:=qh (BS.out _ _ (H0.out.below hb1))
  have e:=FT0.out hfi
  subst e
  clear hb1 hfi c1
  go_wp2_with fail
  go_ret2
  exact .inl ⟨by decide,B1.out,rfl⟩
 have H1:=qh (H0.out.more hb1 (o:=oRing q (Rg.new g1 sq)) hr hF)
 have HFI:=qh (FT1.out hfi)
 clear hb1 hr hF hfi CN c1 FT0 FT1
 have c0:=(H1.out.rowAt (i:=0) rfl).cell 0
 have c1:=(H1.out.rowAt (i:=0) rfl).cell 1
 have c2':=(H1.out.rowAt (i:=0) rfl).cell 2
 have c3:=(H1.out.rowAt (i:=0) rfl).cell 3
 simp only [geS] at c0 c1 c2' c3
 have CR1:=qh (CR.out _ (BS.out _ _ H1.out))
 go_wp2_with fail
 refine CR1.out.mono ?_
 rintro e w2 ⟨rfl,hb2⟩
 have H2:=qh (H1.out.below hb2)
 have B2:=qh (BS.out _ _ H2.out)
 clear hb2 CR CR1 c0 c1 c2' c3
 have c0:=(H2.out.rowAt (i:=0) rfl).cell 0
 have c1:=(H2.out.rowAt (i:=0) rfl).cell 1
 have c2':=(H2.out.rowAt (i:=0) rfl).cell 2
 have c3:=(H2.out.rowAt (i:=0) rfl).cell 3
 simp only [geS] at c0 c1 c2' c3
 cases R with
 | false =>
  have e:=ET.out
  rw [if_pos (by simp)] at e
  subst e
  go_wp2_with fail
  go_ret2
  exact .inl ⟨by decide,B2.out,rfl⟩
 | true =>
 obtain ⟨s0,s1⟩:=HFI.out
 have p1':decide ((0:Int)<=sq)=true:=decide_eq_true s0
 by_cases p2:g3<sq
 ·have e:=ET.out
  rw [if_pos (by rw [decide_eq_false (show ¬ sq<=g3 by omega)]; simp)] at e
  subst e
  go_wp2_with fail
  go_ret2
  exact .inl ⟨by decide,B2.out,rfl⟩
 have ET2:=qh (show T=if M=false then 1 else if g2<(V:Int) then 15 else 0 from by have:=ET.out; rwa [if_neg (by rw [p1',decide_eq_true (show sq<=g3 by omega)]; simp)] at this)
 clear p1' ET
 have CM2:=qh (CM.out _ B2.out)
 clear CM
 go_wp2_with fail
 refine CM2.out.mono ?_
 rintro e w3 ⟨rfl,hb3⟩
 have H3:=qh (H2.out.below hb3)
 have B3:=qh (BS.out _ _ H3.out)
 clear hb3 CM2 c0 c1 c2' c3
 cases M with
 | false =>
  have e:=ET2.out
  rw [if_pos rfl] at e
  subst e
  go_wp2_with fail
  go_ret2
  exact .inl ⟨by decide,B3.out,rfl⟩
 | true =>
 have ET3:=qh (show T=if g2<(V:Int) then 15 else 0 from by have:=ET2.out; rwa [if_neg (by decide)] at this)
 clear ET2
 have c2':=(H3.out.rowAt (i:=0) rfl).cell 2
 simp only [geS] at c2'
 have CW3:=qh (CW.out rfl _ (B3.out.drew))
 clear CW
 have B3d:=qh (show Below w.heap.size w w3.drew from B3.out.drew)
 go_wp2_with fail
 refine wp_region_held_drew (S:=(fun w'=>w'.cell? ⟨w.heap.size,2,none⟩=some (.int .i64 g2))) (by kernel_rfl) (c2') (fun gH=>?_)
 refine rgT 0 (v:=?v1) ?y1 gH ?_
 case y1=>(intro v hSw; go_simp<;>rfl)
 refine rgT 2 (v:=?v2) ?y2 gH ?_
 case y2=>(intro v hSw; go_simp<;>rfl)
 refine rgT 3 (v:=?v3) ?y3 gH ?_
 case y3=>(intro v hSw; go_simp<;>rfl)
 try simp only [putS]
 refine rgO 1 fun K hK=>?_
 go_simp
 refine CW3.out.mono ?_
 rintro r W4 ⟨rfl,hb4⟩
 have H4:=qh ((H3.out.below (Below.refl _ _).drew).below hb4)
 clear hb4
 refine hK.out _ _ ((show W4.cell? ⟨w.heap.size,2,none⟩=some (.int .i64 g2) from (H4.out.rowAt (i:=0) rfl).cell 2)) (fun gH=>?_)
 clear hK K
 try simp only [putS]
 clear CW3
 by_cases z:g2<(V:Int)
 ·have e:=ET3.out
  rw [if_pos z] at e
  subst e
  have B4:=qh (BS.out _ _ H4.out)
  refine rgT 4 (v:=?v4) ?y4 gH ?_
  case y4=>(intro v hSw; go_simp<;>rfl)
  try simp only [putS]
  refine rgD ?_
  go_wp2_with fail
  go_ret2
  exact .inl ⟨by decide,B4.out,rfl⟩
 have e:=ET3.out
 rw [if_neg z] at e
 subst e
 refine rgT 4 (v:=?v5) ?y5 gH ?_
 case y5=>(intro v hSw; go_simp<;>rfl)
 try simp only [putS]
 refine rgD ?_
 have c0:=(H4.out.rowAt (i:=0) rfl).cell 0
 simp only [List.getElem?_cons_zero] at c0
 have CC4:=qh (CC.out _ (BS.out _ _ H4.out))
 clear CC c2' z
 go_wp2_with fail
 refine CC4.out.mono ?_
 rintro e w5 ⟨lb,rfl,hown,hb5⟩
 obtain ⟨A',c',elb,_⟩:=hown.form
 have ha:=hown.lab
 have hl2:=fun k e=>(World.ownsRow.lt hown k e).1
 obtain ⟨z,hz⟩:=nmq (zs.length)
 rw [<-hz] at elb
 subst elb
 have H5:=qh (H4.out.more hb5 (o:=oLab (.slice A' z c') zs) ha hl2)
 clear ha hl2 hz hown hb5 CC4 c0
 have f0:=(H5.out.rowAt (i:=0) rfl).frozen 0
 have H6:=qh (H5.out.rowSet (i:=0) rfl (cs':=[.slice A' z c',.int .i64 g1,.int .i64 g2,.int .i64 g3]) (w':=w5.setCell ⟨w.heap.size,0,none⟩ (.slice A' z c')) ((Chg.refl (fun k=>k=w.heap.size) w5).setCell (.inl rfl) _) ((H5.out.rowAt (i:=0) rfl).set 0 (.slice A' z c')))
 have c0:=(H5.out.rowAt (i:=0) rfl).cell 0
 have c1:=(H5.out.rowAt (i:=0) rfl).cell 1
 have c2':=(H5.out.rowAt (i:=0) rfl).cell 2
 have c3:=(H5.out.rowAt (i:=0) rfl).cell 3
 simp only [geS] at c0 c1 c2' c3
 have H7:=newSh g1 g2 g3 H6.out
 obtain ⟨b,hb⟩:=nmq (w5.heap.size)
 rw [World.size_setCell,<-hb] at H7
 have HB:=qh hb
 obtain ⟨w7,hw7⟩:=nmq ((w5.setCell ⟨w.heap.size,0,none⟩ (.slice A' z c')).alloc (.cells #[.slice A' z c',.int .i64 g1,.int .i64 g2,.int .i64 g3,.pointer (some ⟨q,0,none⟩),.slice none 0 0,.slice none 0 0,.slice none 0 0,.int .i64 0,.int .i64 0,.int .i64 0] 124))
 have HW7:=qh hw7
 have H7:=qh (show Side w (fun k=>k<w.heap.size) w7 ((Sh.new (.slice A' z c') g1 g2 g3 q (Rg.new g1 sq) zs).os b) from by rw [hw7]; exact H7)
 have A7:=qh (HZ.out (.slice A' z c') q)
 obtain ⟨S0,hS0⟩:=nmq (Sh.new (.slice A' z c') g1 g2 g3 q (Rg.new g1 sq) zs)
 have D7:=qh (show S0.zs=zs∧S0.g1=g1∧S0.g2=g2∧S0.g3=g3∧S0.r=Rg.new g1 sq from by rw [hS0]; exact ⟨rfl,rfl,rfl,rfl,rfl⟩)
 rw [<-hS0] at H7 A7
 clear hb hw7 hS0 H0 H1 H2 H3 H4 HZ HW0 ET3 ST1
 go_wp2_with fail
 rw [<-HW7.out,<-HB.out]
 have AK':=qh (AK.out (by simp) HFI.out.2)
 have N3:=HL.out
 clear HW7 HB AK HFI c0 c1 c2' c3 f0 H5 H6
 go_loopw [54] (fun vi wr=>∃ (i:Nat) (si:Sh),i<=n∧vi=.int .i64 i∧Hid (Side w (fun k=>k<w.heap.size) wr (si.os b))∧Hid (Sh.Hd S0 si)∧Hid (si.At (loadL (l.take i)) i)) (fun vi _=>n-(intOf vi).toNat)
 case atStart=>exact ⟨0,S0,Nat.zero_le _,rfl,H7,qh ⟨rfl,rfl,rfl,rfl,rfl,rfl,rfl⟩,A7⟩
 case round =>
  obtain ⟨i,si,hi,rfl,HI,HD,HAi⟩:=hrel
  by_cases z:i<n
  ·obtain ⟨bb,o,ea,hbl,d⟩:=HS.out.at (j:=i) (by rw [<-HN.out]; exact z)
   obtain ⟨c0,c1,c2,c3,c4⟩:=sw5 (BS.out _ _ HI.out) d
   obtain ⟨k1,k2,k3,k4,k5⟩:=AK'.out i z
   obtain ⟨y0,hy0⟩:=nmq (l.getD i En.Z)
   rw [<-hy0] at c0 c1 c2 c3 c4 k1 k2 k3 k5
   have KA:=qh (fun W (hW:Side w (fun k=>k<w.heap.size) W (si.os b))=>(xAddR (k:=y0.key) y0.ver hW HAi.out (by omega) (by omega) k1 k2 k3).mono (R':=fun e w'=>e=.returned (.tuple #[])∧∃ s',Side w (fun k=>k<w.heap.size) w' (s'.os b)∧Sh.Hd S0 s'∧s'.At (loadL (l.take (i+1))) (i+1)) fun e w' ⟨q1,s',q2,q3,q4⟩=>⟨q1,s',q2,HD.out.trans q3,by rw [<-k5]; exact q4⟩)
   obtain ⟨k,s,v⟩:=y0
   obtain ⟨nm,t,bt⟩:=v
   have KA:Hid (∀ W,Side w (fun k=>k<w.heap.size) W (si.os b)->Calls Tryz.prog 45 #[PtrS b,.string k,.agg #[.int .i64 s,.bool false,.bool nm,.string t,.int .u64 (bt:Int)]] W fun e w'=>e=.returned (.tuple #[])∧∃ s',Side w (fun k=>k<w.heap.size) w' (s'.os b)∧Sh.Hd S0 s'∧s'.At (loadL (l.take (i+1))) (i+1)):=KA
   subst ea
   have i0:(0:Int)<=(i:Int):=by omega
   have i1:(i:Int)<(n:Int):=by omega
   have c0:wr.cell? ⟨bb,o+i * 5,none⟩=some (.string k):=c0
   have c1:wr.cell? ⟨bb,o+i * 5+1,none⟩=some (.int .i64 s):=c1
   have c2:wr.cell? ⟨bb,o+i * 5+2,none⟩=some (.bool nm):=c2
   have c3:wr.cell? ⟨bb,o+i * 5+3,none⟩=some (.string t):=c3
   have c4:wr.cell? ⟨bb,o+i * 5+4,none⟩=some (.int .u64 (bt:Int)):=c4
   obtain ⟨X,hX⟩:=nmq (wr.heap.size)
   obtain ⟨r1,hr1⟩:=nmq (wr.alloc (.cells #[.string k,.int .i64 s,.bool nm,.string t,.int .u64 (bt:Int)] 178))
   have R1:=qh (show RowAt r1 X [.string k,.int .i64 s,.bool nm,.string t,.int .u64 (bt:Int)] 178 from by rw [hr1,hX]; exact RowAt.new wr _ _)
   have S1:=qh (show Side w (fun k=>k<w.heap.size) r1.drew (si.os b) from by rw [hr1]; exact (HI.out.below ((Below.refl _ _).alloc (Nat.le_refl _) _)).below (Below.refl _ _).drew)
   have HR1:=qh hr1
   have HX:=qh hX
   have KA1:=qh (KA.out _ S1.out)
   clear hy0 hbl k1 k2 k3 k4 k5 hr1 hX KA d
   go_wp2_with fail
   rw [<-HR1.out,<-HX.out]
   clear c0 c1 c2 c3 c4
   obtain ⟨c0,c1,c2,c3,c4⟩:=row5 (w:=r1.drew) R1.out
   go_still_tail 10,(by kernel_rfl)
   change wpList _ _ _ _ _ r1.drew
   go_wp2_with fail
   refine KA1.out.mono ?_
   rintro e w5 ⟨rfl,s5,h5,d5,a5⟩
   have H5:=qh h5
   have D5:=qh d5
   have A5:=qh a5
   clear h5 d5 a5 c0 c1 c2 c3 c4
   go_wp2_with fail
   go_roundw
   case rel=>exact ⟨i+1,s5,by omega,by go_num,H5,D5,A5⟩
   case measure=>simp [intOf]; omega
  ·obtain rfl:i=n:=by omega
   have a5:=HAi.out
   rw [show l.take i=l from by rw [HN.out,List.take_length]] at a5
   have D:=D7.out
   have E:=HD.out
   have FIN:=qh (show ∃ (s:Sh),Side w (fun k=>k<w.heap.size) wr (s.os b)∧s.At (loadL l) i∧s.zs=zs∧s.g1=g1∧s.g2=g2∧s.g3=g3∧s.r=Rg.new g1 sq from
    ⟨si,HI.out,a5,E.2.2.2.2.2.2.trans D.1,E.2.1.trans D.2.1,E.2.2.1.trans D.2.2.1,E.2.2.2.1.trans D.2.2.2.1,E.2.2.2.2.2.1.trans D.2.2.2.2⟩)
   clear a5 D E
   go_wp2_with fail
   go_ret2
   obtain ⟨s,f1,f2⟩:=FIN.out
   first | exact ⟨b,rfl,s,f1,f2⟩ | exact ⟨b,s,rfl,f1,f2⟩
end Go.Proofs.YtoljhoabbaigdaaGreat

namespace Go.Proofs.YtoljhoabbaigdaaGreat
open Go.RowKit

theorem ldE_new (zs:List Int) (g1 g2 g3:Int):ldE zs g1 g2 g3 0 []=if stOk zs g1 g2 g3=true then 0 else 1:=by
 have e:ldE zs g1 g2 g3 0 []=if (stOk zs g1 g2 g3 && (decide ((0:Int)<=0) && decide ((0:Int)<=g3)))=false then 1 else if mayE [] 0=false then 1 else if g2<((loadL []).live:Int) then 15 else 0:=rfl
 rw [e]
 cases r:stOk zs g1 g2 g3 with
 | false=>rw [if_pos (by simp),if_neg (by decide)]
 | true =>
  unfold stOk at r
  simp only [Bool.and_eq_true,decide_eq_true_eq] at r
  obtain ⟨-,-,-,a2,-,a3,-⟩:=r
  have v:((loadL []).live:Int)=0:=rfl
  rw [v,decide_eq_true (show (0:Int)<=g3 by omega),if_neg (by simp),if_neg (by decide),if_neg (by omega),if_pos rfl]
theorem xNewRm (A:Option Addr) (c:Nat) (zs:List Int) (g1 g2 g3:Int) (w:World) (h:Sl w A zs) (hm:zs.length<=1000) :
  Calls Tryz.prog 26 #[.agg #[.slice A zs.length c,.int .i64 g1,.int .i64 g2,.int .i64 g3]] w fun e w' =>
   ((stOk zs g1 g2 g3=false∧Below w.heap.size w w'∧e=.returned (.tuple #[.pointer none,.int .i64 1])) ∨
    (stOk zs g1 g2 g3=true∧∃ (b:Nat) (s:Sh),e=.returned (.tuple #[PtrM b,.int .i64 0])∧Side w (fun k=>k<w.heap.size) w' (s.os b)∧s.At [] 0∧s.zs=zs∧s.g1=g1∧s.g2=g2∧s.g3=g3∧s.r=Rg.new g1 0)):=by
 have b1:Below w.heap.size w (w.alloc (.cells #[.slice A zs.length c,.int .i64 g1,.int .i64 g2,.int .i64 g3] 81)):=(Below.refl _ _).alloc (Nat.le_refl _) _
 have LD:=xLoadR A c zs g1 g2 g3 0 [] none 0 _ (h.below b1) hm (fun hp=>by cases hp) (fun x hx=>by cases hx) (by decide)
 rw [ldE_new] at LD
 obtain ⟨T,hT⟩:=nmq (stOk zs g1 g2 g3)
 rw [<-hT] at LD ⊢
 have HL:=qh (LD.mono (R':=fun e w'=>(T=false∧Below w.heap.size w w'∧e=.returned (.tuple #[.pointer none,.int .i64 1])) ∨
    (T=true∧∃ (b:Nat),e=.returned (.tuple #[PtrM b,.int .i64 0])∧∃ (s:Sh),Side w (fun k=>k<w.heap.size) w' (s.os b)∧s.At [] 0∧s.zs=zs∧s.g1=g1∧s.g2=g2∧s.g3=g3∧s.r=Rg.new g1 0)) fun e w' q=>by
  rcases q with ⟨q1,q2,q3⟩ | ⟨q1,b,s,q2,q3⟩
  ·cases T with
   | true=>exact absurd (if_pos rfl) q1
   | false=>exact .inl ⟨rfl,below_then b1 q2,q3⟩
  ·cases T with
   | true=>exact .inr ⟨rfl,b,q2,s,q3.1.baseTo b1,q3.2⟩
   | false=>rw [if_neg (by decide)] at q1; cases q1)
 obtain ⟨m,hm2⟩:=nmq (zs.length)
 rw [<-hm2] at b1 ⊢
 simp only [<-hm2] at HL
 have HL:Hid (Calls Tryz.prog 48 #[.agg #[.slice A m c,.int .i64 g1,.int .i64 g2,.int .i64 g3],.int .i64 0,.slice none 0 0] (w.alloc (.cells #[.slice A m c,.int .i64 g1,.int .i64 g2,.int .i64 g3] 81)) fun e w'=>(T=false∧Below w.heap.size w w'∧e=.returned (.tuple #[.pointer none,.int .i64 1])) ∨
    (T=true∧∃ (b:Nat),e=.returned (.tuple #[PtrM b,.int .i64 0])∧∃ (s:Sh),Side w (fun k=>k<w.heap.size) w' (s.os b)∧s.At [] 0∧s.zs=zs∧s.g1=g1∧s.g2=g2∧s.g3=g3∧s.r=Rg.new g1 0)):=HL
 clear h hm LD hT hm2 b1
 go_enter Tryz.func26,Tryz.ntmps26
 go_wp2_with fail
 refine HL.out.mono ?_
 rintro e w1 (⟨rfl,hb,rfl⟩ | ⟨rfl,b,rfl,hs⟩)
 ·have HB:=qh hb
  clear hb HL
  go_wp2_with fail
  go_ret2
  first | exact .inl ⟨rfl,HB.out,rfl⟩ | exact ⟨HB.out,rfl⟩
 ·have HS:=qh hs
  clear hs HL
  go_wp2_with fail
  go_ret2
  obtain ⟨s,f⟩:=HS.out
  first | exact .inr ⟨rfl,b,s,rfl,f⟩ | exact ⟨b,s,rfl,f⟩ | exact ⟨b,rfl,s,f⟩

section
variable {w0 w:World} {N:Nat->Prop} {b:Nat} {s:Sh} {os2:List Ob}
theorem Sh.lab (h:Side w0 N w (s.os b++os2)):∃ A c,s.lb=.slice A s.zs.length c∧Sl w A s.zs:=by
 obtain ⟨F,⟨A,c,e,hs,_⟩,_⟩:=h.get (i:=7) (o:=oLab s.lb s.zs) rfl
 exact ⟨A,c,e,hs⟩
end

end Go.Proofs.YtoljhoabbaigdaaGreat

namespace Go.Proofs.YtoljhoabbaigdaaGreat
open Go.RowKit

structure Is11 (b:Nat) (m:Rm) (s:Sh) (P:Nat):Prop where
 at_:s.At m.L P
 few:P<=16 * m.r.l.length+3900
 zs:s.zs=m.zs
 g1:s.g1=(m.r.size:Int)
 g2:s.g2=m.quota
 g3:s.g3=m.most
 r:s.r=m.r
 ok:m.Ok
def theR11:RelM:=fun w b F m=>∃ s P,Allf w F (s.os b)∧Is11 b m s P
namespace R11
variable {w w':World} {b:Nat} {F:Nat->Prop} {m:Rm} {s:Sh} {P:Nat}
theorem keep (h:theR11 w b F m) (hk:∀ k,F k->w'.heap[k]?=w.heap[k]?) (hs:w.heap.size<=w'.heap.size):theR11 w' b F m:=by
 obtain ⟨s,P,h,i⟩:=h
 exact ⟨s,P,h.keep hk hs,i⟩
theorem lt (h:theR11 w b F m) {k:Nat} (e:F k):k<w.heap.size:=by
 obtain ⟨s,P,h,i⟩:=h
 exact h.lt e
theorem same (h:theR11 w b F m) (hb:Below w.heap.size w w'):LeftM theR11 b F w m w' :=
 ⟨Chg.of_below hb,F,keep h (fun k e=>hb.block k (lt h e)) hb.size,fun _ e=>.inl e⟩
theorem side (h:Allf w F (s.os b)):Side w (fun k=>k<w.heap.size∧¬ F k) w (s.os b++[]):=by rw [List.append_nil]; exact h.side
theorem reads {P:Program} {f:FuncId} {args:Array Value} {T:Ending->World->Prop} (h:theR11 w b F m) (hc:Calls P f args w fun e w'=>T e w'∧Below w.heap.size w w'):Calls P f args w fun e w'=>T e w'∧LeftM theR11 b F w m w' :=
 hc.mono fun _ _ ⟨t,hb⟩=>⟨t,same h hb⟩
theorem new (A:Option Addr) (c:Nat) (zs:List Int) (g1 g2 g3:Int) (w:World) (h:Sl w A zs) (hm:zs.length<=1000) (_:La.U64 zs) :
  Calls Tryz.prog 26 #[.agg #[.slice A zs.length c,.int .i64 g1,.int .i64 g2,.int .i64 g3]] w fun e w'=>Below w.heap.size w w' ∧
   ((stOk zs g1 g2 g3=true∧∃ b F,e=.returned (.tuple #[PtrM b,.int .i64 0])∧theR11 w' b F (Rm.new zs g1 g2 g3 0 [])∧∀ k,F k->w.heap.size<=k) ∨
    (stOk zs g1 g2 g3=false∧e=.returned (.tuple #[.pointer none,.int .i64 1]))) :=
 (xNewRm A c zs g1 g2 g3 w h hm).mono fun e w' q=>by
  rcases q with ⟨q1,q2,q3⟩ | ⟨q1,b,s,q2,q3,q4,q5,q6,q7,q8,q9⟩
  ·exact ⟨q2,.inr ⟨q1,q3⟩⟩
  ·obtain ⟨hb,F,hF,hk⟩:=q3.allNew
   have ok:=Rm.ok_new q1
   have st:=Rm.st_parts q1
   exact ⟨hb,.inl ⟨q1,b,F,q2,⟨s,0,hF,q4,Nat.zero_le _,q5,by rw [q6]; exact (Int.toNat_of_nonneg (by omega)).symm,q7,q8,q9,ok⟩,hk⟩⟩
theorem load (A:Option Addr) (c:Nat) (zs:List Int) (g1 g2 g3 sq:Int) (l:List En) (A2:Option Addr) (c2:Nat) (w:World) (h:Sl w A zs) (hm:zs.length<=1000) (_:La.U64 zs) (he:SlEn w A2 l) (hf:FitsE l) (hl:l.length<=3900) :
  Calls Tryz.prog 48 #[.agg #[.slice A zs.length c,.int .i64 g1,.int .i64 g2,.int .i64 g3],.int .i64 sq,.slice A2 l.length c2] w fun e w'=>Below w.heap.size w w' ∧
   ((ldE zs g1 g2 g3 sq l≠0∧e=.returned (.tuple #[.pointer none,.int .i64 (ldE zs g1 g2 g3 sq l)])) ∨
    (ldE zs g1 g2 g3 sq l=0∧∃ b F,e=.returned (.tuple #[PtrM b,.int .i64 0])∧theR11 w' b F (Rm.new zs g1 g2 g3 sq (loadL l))∧∀ k,F k->w.heap.size<=k)) :=
 (xLoadR A c zs g1 g2 g3 sq l A2 c2 w h hm he hf hl).mono fun e w' q=>by
  rcases q with ⟨q1,q2,q3⟩ | ⟨q1,b,s,q2,q3,q4,q5,q6,q7,q8,q9⟩
  ·exact ⟨q2,.inl ⟨q1,q3⟩⟩
  ·obtain ⟨hb,F,hF,hk⟩:=q3.allNew
   have ok:=(Rm.ok_load q1 hf).1
   have st:=Rm.st_parts (Rm.ld_parts q1).1
   exact ⟨hb,.inr ⟨q1,b,F,q2,⟨s,l.length,hF,q4,by omega,q5,by rw [q6]; exact (Int.toNat_of_nonneg (by omega)).symm,q7,q8,q9,ok⟩,hk⟩⟩
theorem seq (b:Nat) (F:Nat->Prop) (m:Rm) (w:World) (h:theR11 w b F m):Calls Tryz.prog 23 #[PtrM b] w fun e w'=>e=.returned (.int .i64 m.seq)∧LeftM theR11 b F w m w':=by
 have hh:=h
 obtain ⟨s,P,h,i⟩:=h
 have c:=xSeqR (side h)
 rw [i.r] at c
 exact reads hh c
theorem live (b:Nat) (F:Nat->Prop) (m:Rm) (w:World) (h:theR11 w b F m) (_:m.Few):Calls Tryz.prog 99 #[PtrM b] w fun e w'=>e=.returned (.int .i64 (m.L.live:Nat))∧LeftM theR11 b F w m w':=by
 have hh:=h
 obtain ⟨s,P,h,i⟩:=h
 have c:=xLiveR (side h)
 rw [i.at_.x1] at c
 exact reads hh c
theorem may (ws:List Wr) (A:Option Addr) (c:Nat) (w:World) (g:GoodW w (fun _=>False) A ws):Calls Tryz.prog 42 #[.slice A ws.length c] w fun e w'=>e=.returned (.bool (mayW ws))∧Below w.heap.size w w' :=
 xMayR ws A c w g.1 g.2.1
theorem commit (b:Nat) (F:Nat->Prop) (m:Rm) (ws:List Wr) (A:Option Addr) (c:Nat) (x:Int) (w:World) (h:theR11 w b F m) (hf:m.Few) (g:GoodW w F A ws) (_:0<=x) (_:x<=18446744073709551615) :
  Calls Tryz.prog 24 #[PtrM b,.slice A ws.length c,.int .u64 x] w fun e w'=>e=.returned (.tuple #[.int .i64 (m.comN ws x),.int .i64 (m.comE ws x)])∧LeftM theR11 b F w (m.com ws x) w':=by
 obtain ⟨s,P,h,i⟩:=h
 have st:=Rm.st_parts i.ok.st
 have hl:=hf.2
 have fw:=i.few
 have cc:=xCommitR h.side i.at_ ws A c x g.1 (fun hp a e=>by
  refine ⟨?_,g.2.2.2.1 hp a e⟩
  obtain ⟨g',o,e2,hlt,_⟩:=g.1 hp
  rw [e2] at e; injection e with e; subst e; exact hlt) g.2.1 (fun x hx=>(g.2.2.2.2 x hx).2) (by rw [i.r]; exact i.ok.L) hf.1 (by rw [i.g3]; omega) (by omega)
 rw [i.r,i.g2,i.g3] at cc
 refine cc.mono fun e w' ⟨q1,s',q2,q3,q4⟩=>⟨q1,?_⟩
 obtain ⟨ch,F',hF,hk⟩:=q2.allf
 have ok:=(Rm.ok_com (x:=x) i.ok hf.1 g.2.1).1
 have sz:(comR m.r m.L ws x m.quota m.most).size=m.r.size∧(comE m.r m.L ws x m.quota m.most=0->(comR m.r m.L ws x m.quota m.most).l.length=m.r.l.length+1)∧m.r.l.length<=(comR m.r m.L ws x m.quota m.most).l.length:=by
  by_cases z:comE m.r m.L ws x m.quota m.most=0
  ·have n0:=(Rm.com_yes (m:=m) z).2.2.2.1
   unfold comR
   rw [if_pos z]
   unfold Rg.push
   rw [if_pos n0]
   exact ⟨rfl,fun _=>List.length_append,by rw [List.length_append]; omega⟩
  ·unfold comR
   rw [if_neg z]
   exact ⟨rfl,fun e=>absurd e z,Nat.le_refl _⟩
 refine ⟨ch,F',⟨s',_,hF,q4,?_,q3.2.2.2.2.2.2.trans i.zs,?_,q3.2.2.1.trans i.g2,q3.2.2.2.1.trans i.g3,q3.2.2.2.2.2.1,ok⟩,hk⟩
 ·show _<=16 * (comR m.r m.L ws x m.quota m.most).l.length+3900
  by_cases z:comE m.r m.L ws x m.quota m.most=0
  ·have:=sz.2.1 z
   rw [if_pos z]; omega
  ·have:=sz.2.2
   rw [if_neg z]; omega
 ·show _=((comR m.r m.L ws x m.quota m.most).size:Int)
  rw [sz.1]
  exact q3.2.1.trans i.g1
theorem ok {w:World} {b:Nat} {F:Nat->Prop} {m:Rm} (h:theR11 w b F m):m.Ok:=by
 obtain ⟨s,P,h,i⟩:=h
 exact i.ok
end R11
end Go.Proofs.YtoljhoabbaigdaaGreat

namespace Go.Proofs.YtoljhoabbaigdaaGreat
open Go.RowKit

def KV.atK (l:KV) (i:Nat):ByteArray:=if i<l.length then l.key i else ⟨#[]⟩
def KV.atN (l:KV) (i:Nat):Int:=if i<l.length then l.num i else 0
section
variable {w0 w:World} {N:Nat->Prop} {b:Nat} {s:Sh} {os2:List Ob} {L:Ch} {P:Nat}
theorem xLeastS (h:Side w0 N w (s.os b++os2)) (a:s.AtF L P) (k:ByteArray) :
  Calls Tryz.prog 153 #[PtrS b,.func (.func 139) #[] #[],.string k] w fun e w'=>e=.returned (.tuple #[.string (s.l.atK (s.l.pos k)),.int .i64 (s.l.atN (s.l.pos k)),.bool (decide (s.l.pos k<s.l.length))])∧Below w.heap.size w w':=by
 have c5:=(Sh.rowAt h).cell 5
 simp only [Sh.row,List.getElem?_cons_succ,List.getElem?_cons_zero] at c5
 rcases Sh.tview h a with ⟨e1,e2,e3⟩ | ⟨t,g,c,E,e1,e2,c0,hr⟩
 ·rw [e2]
  rw [e3] at c5
  clear h a e1 e2 e3
  show Calls Tryz.prog 153 #[PtrS b,.func (.func 139) #[] #[],.string k] w fun e w'=>e=.returned (.tuple #[.string ⟨#[]⟩,.int .i64 0,.bool false])∧Below w.heap.size w w'
  go_enter Tryz.func153,Tryz.ntmps153
  go_wp2_with fail
  refine wp_loop_rounds 1 ?_
  rw [rounds_succ]
  go_wp2_with fail
  go_ret3
  exact ⟨rfl,Below.refl _ _⟩
 ·obtain ⟨f1,f2⟩:=Sh.fits a
  have GC:=xSeek w t E s.l s.bd k hr f1 f2
  rw [e2] at c5
  have eK:s.l.atK (s.l.pos k)=if s.l.pos k<s.l.length then s.l.key (s.l.pos k) else ⟨#[]⟩:=rfl
  have eN:s.l.atN (s.l.pos k)=if s.l.pos k<s.l.length then s.l.num (s.l.pos k) else 0:=rfl
  rw [<-eK,<-eN] at GC
  have z1:¬ s.l.pos k<s.l.length->s.l.atK (s.l.pos k)=⟨#[]⟩∧s.l.atN (s.l.pos k)=0:=fun z=>⟨if_neg z,if_neg z⟩
  obtain ⟨y,hy⟩:=nmq (s.l.atK (s.l.pos k))
  obtain ⟨p,hp⟩:=nmq (s.l.atN (s.l.pos k))
  rw [<-hy,<-hp] at GC z1 ⊢
  cases d:decide (s.l.pos k<s.l.length) with
  | false =>
   obtain ⟨r1,r2⟩:=z1 (of_decide_eq_false d)
   rw [d] at GC
   rw [r1,r2] at GC ⊢
   have GC:=qh GC
   clear h a e1 e2 hr f1 f2 eK eN z1 hy hp d r1 r2
   go_enter Tryz.func153,Tryz.ntmps153
   go_wp2_with fail
   refine wp_loop_rounds 2 ?_
   rw [rounds_succ]
   go_wp2_with fail
   refine GC.out.mono ?_
   rintro e w1 ⟨rfl,hb⟩
   have HB:=qh hb
   clear hb
   go_wp2_with fail
   rw [rounds_succ]
   go_wp2_with fail
   go_ret3
   exact ⟨rfl,HB.out⟩
  | true =>
   rw [d] at GC
   have GC:=qh GC
   clear h a e1 e2 hr f1 f2 eK eN z1 hy hp d
   go_enter Tryz.func153,Tryz.ntmps153
   go_wp2_with fail
   refine wp_loop_rounds 2 ?_
   rw [rounds_succ]
   go_wp2_with fail
   refine GC.out.mono ?_
   rintro e w1 ⟨rfl,hb⟩
   have HB:=qh hb
   clear hb
   go_wp2_with fail
   rw [rounds_succ]
   go_wp2_with fail
   go_ret3
   exact ⟨rfl,HB.out⟩
theorem xLeastA (h:Side w0 N w (s.os b++os2)) (a:s.AtF L P) (k:ByteArray) :
  Calls Tryz.prog 153 #[PtrS b,.func (.func 140) #[] #[],.string k] w fun e w'=>e=.returned (.tuple #[.string (s.l.atK (s.l.aft k)),.int .i64 (s.l.atN (s.l.aft k)),.bool (decide (s.l.aft k<s.l.length))])∧Below w.heap.size w w':=by
 have c5:=(Sh.rowAt h).cell 5
 simp only [Sh.row,List.getElem?_cons_succ,List.getElem?_cons_zero] at c5
 rcases Sh.tview h a with ⟨e1,e2,e3⟩ | ⟨t,g,c,E,e1,e2,c0,hr⟩
 ·rw [e2]
  rw [e3] at c5
  clear h a e1 e2 e3
  show Calls Tryz.prog 153 #[PtrS b,.func (.func 140) #[] #[],.string k] w fun e w'=>e=.returned (.tuple #[.string ⟨#[]⟩,.int .i64 0,.bool false])∧Below w.heap.size w w'
  go_enter Tryz.func153,Tryz.ntmps153
  go_wp2_with fail
  refine wp_loop_rounds 1 ?_
  rw [rounds_succ]
  go_wp2_with fail
  go_ret3
  exact ⟨rfl,Below.refl _ _⟩
 ·obtain ⟨f1,f2⟩:=Sh.fits a
  have GC:=xAfter w t E s.l s.bd k hr f1 f2
  rw [e2] at c5
  have eK:s.l.atK (s.l.aft k)=if s.l.aft k<s.l.length then s.l.key (s.l.aft k) else ⟨#[]⟩:=rfl
  have eN:s.l.atN (s.l.aft k)=if s.l.aft k<s.l.length then s.l.num (s.l.aft k) else 0:=rfl
  rw [<-eK,<-eN] at GC
  have z1:¬ s.l.aft k<s.l.length->s.l.atK (s.l.aft k)=⟨#[]⟩∧s.l.atN (s.l.aft k)=0:=fun z=>⟨if_neg z,if_neg z⟩
  obtain ⟨y,hy⟩:=nmq (s.l.atK (s.l.aft k))
  obtain ⟨p,hp⟩:=nmq (s.l.atN (s.l.aft k))
  rw [<-hy,<-hp] at GC z1 ⊢
  cases d:decide (s.l.aft k<s.l.length) with
  | false =>
   obtain ⟨r1,r2⟩:=z1 (of_decide_eq_false d)
   rw [d] at GC
   rw [r1,r2] at GC ⊢
   have GC:=qh GC
   clear h a e1 e2 hr f1 f2 eK eN z1 hy hp d r1 r2
   go_enter Tryz.func153,Tryz.ntmps153
   go_wp2_with fail
   refine wp_loop_rounds 2 ?_
   rw [rounds_succ]
   go_wp2_with fail
   refine GC.out.mono ?_
   rintro e w1 ⟨rfl,hb⟩
   have HB:=qh hb
   clear hb
   go_wp2_with fail
   rw [rounds_succ]
   go_wp2_with fail
   go_ret3
   exact ⟨rfl,HB.out⟩
  | true =>
   rw [d] at GC
   have GC:=qh GC
   clear h a e1 e2 hr f1 f2 eK eN z1 hy hp d
   go_enter Tryz.func153,Tryz.ntmps153
   go_wp2_with fail
   refine wp_loop_rounds 2 ?_
   rw [rounds_succ]
   go_wp2_with fail
   refine GC.out.mono ?_
   rintro e w1 ⟨rfl,hb⟩
   have HB:=qh hb
   clear hb
   go_wp2_with fail
   rw [rounds_succ]
   go_wp2_with fail
   go_ret3
   exact ⟨rfl,HB.out⟩
end

end Go.Proofs.YtoljhoabbaigdaaGreat
