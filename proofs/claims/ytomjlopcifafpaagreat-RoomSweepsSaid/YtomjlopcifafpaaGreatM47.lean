/- Proved parts: B5zb B5zc B5tf B5ze. Conditions: each theorem's own. -/
import Derived.Test.YtomjlopcifafpaaGreatM46
import Derived.Test.YtomjlopcifafpaaGreatM44
import Derived.Test.YtomjlopcifafpaaGreatM20
import Derived.Test.YtomjlopcifafpaaGreatQ2
set_option maxRecDepth 100000
set_option maxHeartbeats 8000000
namespace Go.Proofs.YtomjlopcifafpaaGreat
open Go.RowKit

theorem ldE_new (zs:List Int) (g1 g2 g3:Int):ldE zs g1 g2 g3 0 []=if stOk zs g1 g2 g3=true then 0 else 1:=by
 have e:ldE zs g1 g2 g3 0 []=if (stOk zs g1 g2 g3 && (decide ((0:Int)<=0) && decide ((0:Int)<=g3)))=false then 1 else if mayE [] 0=false then 1 else if g2<((loadL []).live:Int) then 15 else 0:=rfl
 rw [e]
 cases r:stOk zs g1 g2 g3 with
 | false=>rw [if_pos (by simp),if_neg (by decide)]
 | true =>
  unfold stOk at r
  simp only [Bool.and_eq_true,decide_eq_true_eq] at r
  obtain ⟨-,-,-,a2,-,a3,-⟩:=r
  have v:((loadL []).live:Int)=0:=rfl
  rw [v,decide_eq_true (show (0:Int)<=g3 by omega),if_neg (by simp),if_neg (by decide),if_neg (by omega),if_pos rfl]
theorem xNewRm (A:Option Addr) (c:Nat) (zs:List Int) (g1 g2 g3:Int) (w:World) (h:Sl w A zs) (hm:zs.length<=1000) :
  Calls Tryz.prog 8 #[.agg #[.slice A zs.length c,.int .i64 g1,.int .i64 g2,.int .i64 g3]] w fun e w' =>
   ((stOk zs g1 g2 g3=false∧Below w.heap.size w w'∧e=.returned (.tuple #[.pointer none,.int .i64 1])) ∨
    (stOk zs g1 g2 g3=true∧∃ (b:Nat) (s:Sh),e=.returned (.tuple #[PtrM b,.int .i64 0])∧Side w (fun k=>k<w.heap.size) w' (s.os b)∧s.At [] 0∧s.zs=zs∧s.g1=g1∧s.g2=g2∧s.g3=g3∧s.r=Rg.new g1 0)):=by
 have b1:Below w.heap.size w (w.alloc (.cells #[.slice A zs.length c,.int .i64 g1,.int .i64 g2,.int .i64 g3] 24)):=(Below.refl _ _).alloc (Nat.le_refl _) _
 have LD:=xLoadR A c zs g1 g2 g3 0 [] none 0 _ (h.below b1) hm (fun hp=>by cases hp) (fun x hx=>by cases hx) (by decide)
 rw [ldE_new] at LD
 obtain ⟨T,hT⟩:=nmq (stOk zs g1 g2 g3)
 rw [<-hT] at LD ⊢
 have HL:=qh (LD.mono (R':=fun e w'=>(T=false∧Below w.heap.size w w'∧e=.returned (.tuple #[.pointer none,.int .i64 1])) ∨
    (T=true∧∃ (b:Nat),e=.returned (.tuple #[PtrM b,.int .i64 0])∧∃ (s:Sh),Side w (fun k=>k<w.heap.size) w' (s.os b)∧s.At [] 0∧s.zs=zs∧s.g1=g1∧s.g2=g2∧s.g3=g3∧s.r=Rg.new g1 0)) fun e w' q=>by
  rcases q with ⟨q1,q2,q3⟩ | ⟨q1,b,s,q2,q3⟩
  ·cases T with
   | true=>exact absurd (if_pos rfl) q1
   | false=>exact .inl ⟨rfl,below_then b1 q2,q3⟩
  ·cases T with
   | true=>exact .inr ⟨rfl,b,q2,s,q3.1.baseTo b1,q3.2⟩
   | false=>rw [if_neg (by decide)] at q1; cases q1)
 obtain ⟨m,hm2⟩:=nmq (zs.length)
 rw [<-hm2] at b1 ⊢
 simp only [<-hm2] at HL
 have HL:Hid (Calls Tryz.prog 43 #[.agg #[.slice A m c,.int .i64 g1,.int .i64 g2,.int .i64 g3],.int .i64 0,.slice none 0 0] (w.alloc (.cells #[.slice A m c,.int .i64 g1,.int .i64 g2,.int .i64 g3] 24)) fun e w'=>(T=false∧Below w.heap.size w w'∧e=.returned (.tuple #[.pointer none,.int .i64 1])) ∨
    (T=true∧∃ (b:Nat),e=.returned (.tuple #[PtrM b,.int .i64 0])∧∃ (s:Sh),Side w (fun k=>k<w.heap.size) w' (s.os b)∧s.At [] 0∧s.zs=zs∧s.g1=g1∧s.g2=g2∧s.g3=g3∧s.r=Rg.new g1 0)):=HL
 clear h hm LD hT hm2 b1
 go_enter Tryz.func8,Tryz.ntmps8
 go_wp2_with fail
 refine HL.out.mono ?_
 rintro e w1 (⟨rfl,hb,rfl⟩ | ⟨rfl,b,rfl,hs⟩)
 ·have HB:=qh hb
  clear hb HL
  go_wp2_with fail
  go_ret2
  first | exact .inl ⟨rfl,HB.out,rfl⟩ | exact ⟨HB.out,rfl⟩
 ·have HS:=qh hs
  clear hs HL
  go_wp2_with fail
  go_ret2
  obtain ⟨s,f⟩:=HS.out
  first | exact .inr ⟨rfl,b,s,rfl,f⟩ | exact ⟨b,s,rfl,f⟩ | exact ⟨b,rfl,s,f⟩

section
variable {w0 w:World} {N:Nat->Prop} {b:Nat} {s:Sh} {os2:List Ob}
theorem Sh.lab (h:Side w0 N w (s.os b++os2)):∃ A c,s.lb=.slice A s.zs.length c∧Sl w A s.zs:=by
 obtain ⟨F,⟨A,c,e,hs,_⟩,_⟩:=h.get (i:=7) (o:=oLab s.lb s.zs) rfl
 exact ⟨A,c,e,hs⟩
end

end Go.Proofs.YtomjlopcifafpaaGreat

namespace Go.Proofs.YtomjlopcifafpaaGreat
open Go.RowKit

structure Is11 (b:Nat) (m:Rm) (s:Sh) (P:Nat):Prop where
 at_:s.At m.L P
 few:P<=16 * m.r.l.length+3900
 zs:s.zs=m.zs
 g1:s.g1=(m.r.size:Int)
 g2:s.g2=m.quota
 g3:s.g3=m.most
 r:s.r=m.r
 ok:m.Ok
def theR11:RelM:=fun w b F m=>∃ s P,Allf w F (s.os b)∧Is11 b m s P
namespace R11
variable {w w':World} {b:Nat} {F:Nat->Prop} {m:Rm} {s:Sh} {P:Nat}
theorem keep (h:theR11 w b F m) (hk:∀ k,F k->w'.heap[k]?=w.heap[k]?) (hs:w.heap.size<=w'.heap.size):theR11 w' b F m:=by
 obtain ⟨s,P,h,i⟩:=h
 exact ⟨s,P,h.keep hk hs,i⟩
theorem lt (h:theR11 w b F m) {k:Nat} (e:F k):k<w.heap.size:=by
 obtain ⟨s,P,h,i⟩:=h
 exact h.lt e
theorem same (h:theR11 w b F m) (hb:Below w.heap.size w w'):LeftM theR11 b F w m w' :=
 ⟨Chg.of_below hb,F,keep h (fun k e=>hb.block k (lt h e)) hb.size,fun _ e=>.inl e⟩
theorem side (h:Allf w F (s.os b)):Side w (fun k=>k<w.heap.size∧¬ F k) w (s.os b++[]):=by rw [List.append_nil]; exact h.side
theorem reads {P:Program} {f:FuncId} {args:Array Value} {T:Ending->World->Prop} (h:theR11 w b F m) (hc:Calls P f args w fun e w'=>T e w'∧Below w.heap.size w w'):Calls P f args w fun e w'=>T e w'∧LeftM theR11 b F w m w' :=
 hc.mono fun _ _ ⟨t,hb⟩=>⟨t,same h hb⟩
theorem new (A:Option Addr) (c:Nat) (zs:List Int) (g1 g2 g3:Int) (w:World) (h:Sl w A zs) (hm:zs.length<=1000) (_:La.U64 zs) :
  Calls Tryz.prog 8 #[.agg #[.slice A zs.length c,.int .i64 g1,.int .i64 g2,.int .i64 g3]] w fun e w'=>Below w.heap.size w w' ∧
   ((stOk zs g1 g2 g3=true∧∃ b F,e=.returned (.tuple #[PtrM b,.int .i64 0])∧theR11 w' b F (Rm.new zs g1 g2 g3 0 [])∧∀ k,F k->w.heap.size<=k) ∨
    (stOk zs g1 g2 g3=false∧e=.returned (.tuple #[.pointer none,.int .i64 1]))) :=
 (xNewRm A c zs g1 g2 g3 w h hm).mono fun e w' q=>by
  rcases q with ⟨q1,q2,q3⟩ | ⟨q1,b,s,q2,q3,q4,q5,q6,q7,q8,q9⟩
  ·exact ⟨q2,.inr ⟨q1,q3⟩⟩
  ·obtain ⟨hb,F,hF,hk⟩:=q3.allNew
   have ok:=Rm.ok_new q1
   have st:=Rm.st_parts q1
   exact ⟨hb,.inl ⟨q1,b,F,q2,⟨s,0,hF,q4,Nat.zero_le _,q5,by rw [q6]; exact (Int.toNat_of_nonneg (by omega)).symm,q7,q8,q9,ok⟩,hk⟩⟩
theorem load (A:Option Addr) (c:Nat) (zs:List Int) (g1 g2 g3 sq:Int) (l:List En) (A2:Option Addr) (c2:Nat) (w:World) (h:Sl w A zs) (hm:zs.length<=1000) (_:La.U64 zs) (he:SlEn w A2 l) (hf:FitsE l) (hl:l.length<=3900) :
  Calls Tryz.prog 43 #[.agg #[.slice A zs.length c,.int .i64 g1,.int .i64 g2,.int .i64 g3],.int .i64 sq,.slice A2 l.length c2] w fun e w'=>Below w.heap.size w w' ∧
   ((ldE zs g1 g2 g3 sq l≠0∧e=.returned (.tuple #[.pointer none,.int .i64 (ldE zs g1 g2 g3 sq l)])) ∨
    (ldE zs g1 g2 g3 sq l=0∧∃ b F,e=.returned (.tuple #[PtrM b,.int .i64 0])∧theR11 w' b F (Rm.new zs g1 g2 g3 sq (loadL l))∧∀ k,F k->w.heap.size<=k)) :=
 (xLoadR A c zs g1 g2 g3 sq l A2 c2 w h hm he hf hl).mono fun e w' q=>by
  rcases q with ⟨q1,q2,q3⟩ | ⟨q1,b,s,q2,q3,q4,q5,q6,q7,q8,q9⟩
  ·exact ⟨q2,.inl ⟨q1,q3⟩⟩
  ·obtain ⟨hb,F,hF,hk⟩:=q3.allNew
   have ok:=(Rm.ok_load q1 hf).1
   have st:=Rm.st_parts (Rm.ld_parts q1).1
   exact ⟨hb,.inr ⟨q1,b,F,q2,⟨s,l.length,hF,q4,by omega,q5,by rw [q6]; exact (Int.toNat_of_nonneg (by omega)).symm,q7,q8,q9,ok⟩,hk⟩⟩
theorem seq (b:Nat) (F:Nat->Prop) (m:Rm) (w:World) (h:theR11 w b F m):Calls Tryz.prog 13 #[PtrM b] w fun e w'=>e=.returned (.int .i64 m.seq)∧LeftM theR11 b F w m w':=by
 have hh:=h
 obtain ⟨s,P,h,i⟩:=h
 have c:=xSeqR (side h)
 rw [i.r] at c
 exact reads hh c
theorem floor (b:Nat) (F:Nat->Prop) (m:Rm) (w:World) (h:theR11 w b F m):Calls Tryz.prog 15 #[PtrM b] w fun e w'=>e=.returned (.int .i64 m.floor)∧LeftM theR11 b F w m w':=by
 have hh:=h
 obtain ⟨s,P,h,i⟩:=h
 have c:=xFloorR (side h)
 rw [i.r] at c
 exact reads hh c
theorem get (b:Nat) (F:Nat->Prop) (m:Rm) (k:ByteArray) (q:Int) (w:World) (h:theR11 w b F m) (_:m.Few) (_:k.size<=1000) :
  Calls Tryz.prog 16 #[PtrM b,.string k,.int .i64 q] w fun e w'=>e=.returned (.tuple #[(atL (m.L.of k) q).val.v,.bool (atOk (m.L.of k) q)])∧LeftM theR11 b F w m w':=by
 have hh:=h
 obtain ⟨s,P,h,i⟩:=h
 exact reads hh (xGetR (side h) i.at_.f k q)
theorem live (b:Nat) (F:Nat->Prop) (m:Rm) (w:World) (h:theR11 w b F m) (_:m.Few):Calls Tryz.prog 19 #[PtrM b] w fun e w'=>e=.returned (.int .i64 (m.L.live:Nat))∧LeftM theR11 b F w m w':=by
 have hh:=h
 obtain ⟨s,P,h,i⟩:=h
 have c:=xLiveR (side h)
 rw [i.at_.x1] at c
 exact reads hh c
theorem keys (b:Nat) (F:Nat->Prop) (m:Rm) (w:World) (h:theR11 w b F m) (_:m.Few):Calls Tryz.prog 20 #[PtrM b] w fun e w'=>e=.returned (.int .i64 (m.ents.length:Nat))∧LeftM theR11 b F w m w':=by
 have hh:=h
 obtain ⟨s,P,h,i⟩:=h
 have c:=xKeysR (side h)
 rw [i.at_.x2,show m.L.alive=m.ents.length from (Ch.ents_alive i.ok.L.le).symm] at c
 exact reads hh c
theorem vers (b:Nat) (F:Nat->Prop) (m:Rm) (w:World) (h:theR11 w b F m) (_:m.Few):Calls Tryz.prog 21 #[PtrM b] w fun e w'=>e=.returned (.int .i64 (m.L.vers:Nat))∧LeftM theR11 b F w m w':=by
 have hh:=h
 obtain ⟨s,P,h,i⟩:=h
 have c:=xVersionsR (side h)
 rw [i.at_.x3] at c
 exact reads hh c
theorem check (b:Nat) (F:Nat->Prop) (m:Rm) (ws:List Wr) (A:Option Addr) (c:Nat) (q:Int) (w:World) (h:theR11 w b F m) (hf:m.Few) (g:GoodW w F A ws) :
  Calls Tryz.prog 18 #[PtrM b,.slice A ws.length c,.int .i64 q] w fun e w'=>e=.returned (.int .i64 (m.chk ws q))∧LeftM theR11 b F w m w':=by
 have hh:=h
 obtain ⟨s,P,h,i⟩:=h
 have gd:=Rm.goods i.ok hf g.2.1
 have cc:=xCheckR (side h) i.at_ ws A c q g.1 g.2.1 (fun x hx=>(g.2.2.2.2 x hx).2) g.2.2.1 (by rw [i.r,i.g3]; exact gd)
 rw [i.r,i.g2,i.g3] at cc
 exact reads hh cc
theorem may (ws:List Wr) (A:Option Addr) (c:Nat) (w:World) (g:GoodW w (fun _=>False) A ws):Calls Tryz.prog 47 #[.slice A ws.length c] w fun e w'=>e=.returned (.bool (mayW ws))∧Below w.heap.size w w' :=
 xMayR ws A c w g.1 g.2.1
theorem commit (b:Nat) (F:Nat->Prop) (m:Rm) (ws:List Wr) (A:Option Addr) (c:Nat) (x:Int) (w:World) (h:theR11 w b F m) (hf:m.Few) (g:GoodW w F A ws) (_:0<=x) (_:x<=18446744073709551615) :
  Calls Tryz.prog 12 #[PtrM b,.slice A ws.length c,.int .u64 x] w fun e w'=>e=.returned (.tuple #[.int .i64 (m.comN ws x),.int .i64 (m.comE ws x)])∧LeftM theR11 b F w (m.com ws x) w':=by
 obtain ⟨s,P,h,i⟩:=h
 have st:=Rm.st_parts i.ok.st
 have hl:=hf.2
 have fw:=i.few
 have cc:=xCommitR h.side i.at_ ws A c x g.1 (fun hp a e=>by
  refine ⟨?_,g.2.2.2.1 hp a e⟩
  obtain ⟨g',o,e2,hlt,_⟩:=g.1 hp
  rw [e2] at e; injection e with e; subst e; exact hlt) g.2.1 (fun x hx=>(g.2.2.2.2 x hx).2) (by rw [i.r]; exact i.ok.L) hf.1 (by rw [i.g3]; omega) (by omega)
 rw [i.r,i.g2,i.g3] at cc
 refine cc.mono fun e w' ⟨q1,s',q2,q3,q4⟩=>⟨q1,?_⟩
 obtain ⟨ch,F',hF,hk⟩:=q2.allf
 have ok:=(Rm.ok_com (x:=x) i.ok hf.1 g.2.1).1
 have sz:(comR m.r m.L ws x m.quota m.most).size=m.r.size∧(comE m.r m.L ws x m.quota m.most=0->(comR m.r m.L ws x m.quota m.most).l.length=m.r.l.length+1)∧m.r.l.length<=(comR m.r m.L ws x m.quota m.most).l.length:=by
  by_cases z:comE m.r m.L ws x m.quota m.most=0
  ·have n0:=(Rm.com_yes (m:=m) z).2.2.2.1
   unfold comR
   rw [if_pos z]
   unfold Rg.push
   rw [if_pos n0]
   exact ⟨rfl,fun _=>List.length_append,by rw [List.length_append]; omega⟩
  ·unfold comR
   rw [if_neg z]
   exact ⟨rfl,fun e=>absurd e z,Nat.le_refl _⟩
 refine ⟨ch,F',⟨s',_,hF,q4,?_,q3.2.2.2.2.2.2.trans i.zs,?_,q3.2.2.1.trans i.g2,q3.2.2.2.1.trans i.g3,q3.2.2.2.2.2.1,ok⟩,hk⟩
 ·show _<=16 * (comR m.r m.L ws x m.quota m.most).l.length+3900
  by_cases z:comE m.r m.L ws x m.quota m.most=0
  ·have:=sz.2.1 z
   rw [if_pos z]; omega
  ·have:=sz.2.2
   rw [if_neg z]; omega
 ·show _=((comR m.r m.L ws x m.quota m.most).size:Int)
  rw [sz.1]
  exact q3.2.1.trans i.g1
theorem ok {w:World} {b:Nat} {F:Nat->Prop} {m:Rm} (h:theR11 w b F m):m.Ok:=by
 obtain ⟨s,P,h,i⟩:=h
 exact i.ok
end R11
end Go.Proofs.YtomjlopcifafpaaGreat

namespace Go.Proofs.YtomjlopcifafpaaGreat
open Go.RowKit

def Ch.swp (L:Ch) (f:Int) (i:Nat):Ch:=Ch.swept (L.take i) f++L.drop i
theorem Ch.swp_all (L:Ch) (f:Int):L.swp f L.length=L.swept f:=by unfold Ch.swp; rw [List.take_length,List.drop_length,List.append_nil]
theorem Ch.swept_snoc (A:Ch) (f:Int) (x:ByteArray × List Ver):Ch.swept (A++[x]) f=Ch.swept A f++(if (sweepL x.2 f).isEmpty then [] else [(x.1,sweepL x.2 f)]):=by
 unfold Ch.swept
 rw [List.map_append,List.filter_append]
 congr 1
 cases z:(sweepL x.2 f).isEmpty with
 | true=>simp [z]
 | false=>simp [z]
theorem Ch.swp_succ {L:Ch} {f:Int} {i:Nat} (hi:i<L.length):L.swp f (i+1)=Ch.swept (L.take i) f++(if (sweepL (L.chn i) f).isEmpty then [] else [(L.key i,sweepL (L.chn i) f)])++L.drop (i+1):=by
 have e:L.take (i+1)=L.take i++[(L.key i,L.chn i)]:=by
  rw [List.take_succ_eq_append_getElem hi]
  unfold Ch.key Ch.chn
  rw [List.getD_eq_getElem?_getD,List.getElem?_eq_getElem hi]; rfl
 unfold Ch.swp
 rw [e,Ch.swept_snoc]
theorem Ch.swp_here {L:Ch} {f:Int} {i:Nat} (hi:i<L.length):L.swp f i=Ch.swept (L.take i) f++(L.key i,L.chn i) :: L.drop (i+1):=by
 have e:L.drop i=(L.key i,L.chn i) :: L.drop (i+1):=by
  rw [List.drop_eq_getElem_cons hi]
  unfold Ch.key Ch.chn
  rw [List.getD_eq_getElem?_getD,List.getElem?_eq_getElem hi]; rfl
 unfold Ch.swp
 rw [e]
theorem Ch.swept_keys {A:Ch} {f:Int} {x:ByteArray × List Ver} (h:x ∈ Ch.swept A f):∃ y,y ∈ A∧y.1=x.1:=by
 unfold Ch.swept at h
 obtain ⟨h,_⟩:=List.mem_filter.1 h
 obtain ⟨y,hy,rfl⟩:=List.mem_map.1 h
 exact ⟨y,hy,rfl⟩
theorem Ch.swp_pos {L:Ch} {f:Int} {i:Nat} (hr:L.Rise) (hi:i<L.length):(L.swp f i).pos (L.key i)=(Ch.swept (L.take i) f).length∧(L.swp f i).has (L.key i)=true:=by
 have e:=Ch.swp_here (f:=f) hi
 have ln:(Ch.swept (L.take i) f).length<(L.swp f i).length:=by rw [e,List.length_append,List.length_cons]; omega
 have ek:(L.swp f i).key (Ch.swept (L.take i) f).length=L.key i:=(Ch.key_front (front:=Ch.swept (L.take i) f) hi).2.1
 have p:(L.swp f i).pos (L.key i)=(Ch.swept (L.take i) f).length:=by
  refine Ch.pos_is (Nat.le_of_lt ln) (fun j hj=>?_) fun _=>by rw [ek]; exact ltB_irr _
  obtain ⟨x,hx,ex⟩:=Ch.front_key (L:=L.drop i) hj
  obtain ⟨y,hy,ey⟩:=Ch.swept_keys hx
  obtain ⟨m,hm,rfl⟩:=List.mem_iff_getElem.1 hy
  rw [List.length_take] at hm
  have e2:(L.take i)[m].1=L.key m:=by
   rw [List.getElem_take]
   unfold Ch.key
   rw [List.getD_eq_getElem?_getD,List.getElem?_eq_getElem (by omega)]; rfl
  show ltB (Ch.key (Ch.swept (L.take i) f++L.drop i) j) (L.key i)=true
  rw [ex,<-ey,e2]
  exact Ch.rise_lt hr (by omega) hi
 exact ⟨p,(Ch.has_iff _ _).2 ⟨by rw [p]; exact ln,by rw [p]; exact ek⟩⟩
theorem Ch.swp_give {L:Ch} {f:Int} {i:Nat} (hr:L.Rise) (hi:i<L.length) (hn:sweepL (L.chn i) f≠[]):(L.swp f i).give (L.key i) (sweepL (L.chn i) f)=L.swp f (i+1):=by
 obtain ⟨p,h⟩:=Ch.swp_pos (f:=f) hr hi
 unfold Ch.give
 rw [h,if_pos rfl,p,Ch.swp_succ hi,Ch.swp_here hi,if_neg (by rw [List.isEmpty_iff]; exact hn),List.set_append_right _ _ (Nat.le_refl _),Nat.sub_self,List.append_assoc]; rfl
theorem Ch.swp_cut {L:Ch} {f:Int} {i:Nat} (hr:L.Rise) (hi:i<L.length) (hn:sweepL (L.chn i) f=[]):(L.swp f i).cut (L.key i)=L.swp f (i+1):=by
 obtain ⟨p,h⟩:=Ch.swp_pos (f:=f) hr hi
 unfold Ch.cut
 rw [p,Ch.swp_succ hi,Ch.swp_here hi,if_pos (by rw [List.isEmpty_iff]; exact hn),List.append_nil]
 simp
theorem Ch.swp_same {L:Ch} {f:Int} {i:Nat} (hi:i<L.length) (hn:L.chn i≠[]) (h:sweepL (L.chn i) f=L.chn i):L.swp f i=L.swp f (i+1):=by
 rw [Ch.swp_succ hi,Ch.swp_here hi,h,if_neg (by rw [List.isEmpty_iff]; exact hn),List.append_assoc]; rfl

end Go.Proofs.YtomjlopcifafpaaGreat

namespace Go.Proofs.YtomjlopcifafpaaGreat
open Go.RowKit

namespace R11
theorem after (b:Nat) (F:Nat->Prop) (m:Rm) (k:ByteArray) (q:Int) (w:World) (h:theR11 w b F m) (_:m.Few) (_:k.size<=1000) :
  Calls Tryz.prog 17 #[PtrM b,.string k,.int .i64 q] w fun e w'=>e=.returned (.tuple #[.string (aftV m.L k true q).1,(aftV m.L k true q).2.1.v,.bool (aftV m.L k true q).2.2])∧LeftM theR11 b F w m w':=by
 have hh:=h
 obtain ⟨s,P,h,i⟩:=h
 exact reads hh (xAfterR (side h) i.at_.f k q)
theorem right (A:Option Addr) (c:Nat) (zs:List Int) (g1 g2 g3:Int) (w:World) (h:Sl w A zs) (hm:zs.length<=1000) (_:La.U64 zs) :
  Calls Tryz.prog 76 #[.agg #[.slice A zs.length c,.int .i64 g1,.int .i64 g2,.int .i64 g3]] w fun e w'=>e=.returned (.bool (stOk zs g1 g2 g3))∧Below w.heap.size w w' :=
 xRightR A c zs g1 g2 g3 w h (Nat.le_trans hm (by decide))
end R11
end Go.Proofs.YtomjlopcifafpaaGreat
