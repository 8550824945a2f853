/- Proved parts: T9m T9a T9hn. Conditions: each theorem's own. -/
import Derived.Test.YtoljhoabbaigdaaGreatM33
import Derived.Test.YtoljhoabbaigdaaGreatM18
import Derived.Test.YtoljhoabbaigdaaGreatQ2
set_option maxRecDepth 100000
set_option maxHeartbeats 8000000
namespace Go.Proofs.YtoljhoabbaigdaaGreat
open Go.RowKit

def OkT (s:Tab) (l:KV):Prop:=(l=[]∧s=Tab.bare)∨∃ L,Whole s L l∧RiseL l∧s.count=l.length
def Rep (w:World) (T:Nat) (E:Nat->Prop) (l:KV) (b:Nat):Prop:=∃ s,TabG w T E s∧OkT s l∧s.nds.length+s.free.length<=b
def RepP (w:World) (T:Nat) (E:Nat->Prop) (l:KV) (b:Nat) (w':World):Prop:=∃ E':Nat->Prop,Rep w' T E' l b∧(∀ k,E' k->E k∨w.heap.size<=k)∧Chg E w w'
theorem Rep.below {w w':World} {T:Nat} {E:Nat->Prop} {l:KV} {b:Nat} (h:Rep w T E l b) (hb:Below w.heap.size w w'):Rep w' T E l b:=by
 obtain ⟨s,h1,h2⟩:=h
 exact ⟨s,h1.below hb,h2⟩
theorem OkT.deep {s:Tab} {l:KV} (h:OkT s l) (hl:l.length<=4000):s.depth<=12:=by
 rcases h with ⟨_,rfl⟩ | ⟨L,m,_,_⟩
 ·exact Nat.zero_le _
 ·have:=m.depth_le
  by_cases c:s.depth<=12
  ·exact c
  ·have:2 ^ 12<=2 ^ (s.depth-1):=Nat.pow_le_pow_right (by decide) (by omega)
   omega
theorem OkT.rise {s:Tab} {l:KV} (h:OkT s l):RiseL l:=by
 rcases h with ⟨rfl,_⟩ | ⟨_,_,h,_⟩
 ·exact List.Pairwise.nil
 ·exact h
theorem OkT.len {s:Tab} {l:KV} (h:OkT s l):s.count=l.length:=by
 rcases h with ⟨rfl,rfl⟩ | ⟨_,_,_,h⟩
 ·rfl
 ·exact h
theorem OkT.walks {s:Tab} {l:KV} (h:OkT s l) (k:ByteArray):s.Walks k s.depth s.root:=by
 rcases h with ⟨_,rfl⟩ | ⟨L,m,h0,_⟩
 ·trivial
 ·obtain ⟨_,_,_,_,w,_⟩:=m.get h0 k
  exact w
theorem has_nil (k:ByteArray):KV.has k []=false:=rfl
theorem split_last {ws:List (Nat × Nat)} {e:Nat} {x:Nat × Nat} (h:ws.length=e+1) (hx:ws.getD e (0,0)=x):ws=ws.take e++[x]:=by
 have hl:e<ws.length:=by omega
 have e1:ws[e]=x:=by rw [<-hx,List.getD_eq_getElem?_getD,List.getElem?_eq_getElem hl]; rfl
 have e2:ws=ws.take e++ws.drop e:=(List.take_append_drop e ws).symm
 rw [List.drop_eq_getElem_cons hl,List.drop_of_length_le (by omega),e1] at e2
 exact e2
theorem xFind (w:World) (T:Nat) (E:Nat->Prop) (s:Tab) (rv fv:Value) (vs:List Value) (v:Value) (k:ByteArray) (l:KV) (h:TabV w T E s rv fv vs) (ok:OkT s l) (hv:SlW w v (s.down k s.depth s.root)) (hl:l.length<=4000) :
  Calls Tryz.prog 133 #[Ptr T,v,.string k] w fun x w'=>∃ r,x=.returned r∧Below w.heap.size w w'∧(l.has k=false->r=.pointer none) ∧
   (l.has k=true->∃ P a b o c,r=.pointer (some ⟨b,o+a * 2,none⟩)∧P<vs.length∧tnv vs P=.slice (some ⟨b,o,none⟩) (s.nd P).length c∧a<(s.nd P).length∧(s.nd P).key a=k∧(s.nd P).num a=l.num (l.pos k)∧(s.down k s.depth s.root).getD (s.depth-1) (0,0)=(P,a)):=by
 have dp:=ok.deep hl
 rcases ok with ⟨rfl,rfl⟩ | ⟨L,m,h0,_⟩
 ·exact (xFind0 w T v k hv).mono fun x w' ⟨h1,h2⟩=>⟨_,h1,by rw [h2]; exact Below.refl _ _,fun _=>rfl,fun t=>by rw [has_nil] at t; cases t⟩
 ·obtain ⟨e,P,a,he,_,hw,hx,hP,h4,hy,hn⟩:=m.get h0 k
  have es:=split_last hw hx
  rw [es] at hv
  have pl:P<vs.length:=by rw [h.len]; exact hP
  refine (xFind1 w T E s rv fv vs v _ P a k h pl hv (by rw [List.length_take]; omega)).mono fun x w' ⟨r,h1,h2,h3⟩=>⟨r,h1,h3,fun t=>?_,fun t=>?_⟩
  ·unfold FindR at h2
   rw [List.getLast?_concat] at h2
   simp only at h2
   rw [if_neg (hn t)] at h2
   exact h2
  ·obtain ⟨y1,y2,y3⟩:=hy t
   unfold FindR at h2
   rw [List.getLast?_concat] at h2
   simp only at h2
   rw [if_pos ⟨y1,y2⟩] at h2
   obtain ⟨b,o,c,q1,q2⟩:=h2
   exact ⟨P,a,b,o,c,q2,pl,q1,y1,y2,y3,by rw [show s.depth-1=e by omega]; exact hx⟩

theorem xGet (w:World) (T:Nat) (E:Nat->Prop) (l:KV) (b:Nat) (k:ByteArray) (h:Rep w T E l b) (hl:l.length<=4000) :
  Calls Tryz.prog 129 #[Ptr T,.string k] w fun x w'=>x=.returned (.tuple #[.int .i64 (if l.has k then l.num (l.pos k) else 0),.bool (l.has k)])∧Below w.heap.size w w':=by
 obtain ⟨s,⟨rv,fv,vs,h⟩,ok,_⟩:=h
 have WC:=qh (xWay w T E s k ⟨rv,fv,vs,h⟩ (ok.walks k) (by have:=ok.deep hl; omega))
 have FC:=qh (show ∀ w1 v,OwnW w1 w.heap.size v (s.down k s.depth s.root)->Below w.heap.size w w1->Calls Tryz.prog 133 #[Ptr T,v,.string k] w1 fun x w'=>∃ r,x=.returned r∧Below w.heap.size w w'∧(l.has k=false->r=.pointer none)∧(l.has k=true->∃ b o,r=.pointer (some ⟨b,o,none⟩)∧w'.cell? ⟨b,o+1,none⟩=some (.int .i64 (l.num (l.pos k)))) from fun w1 v ho hb=>by
  refine (xFind w1 T E s rv fv vs v k l (h.below hb) ok ho.sl hl).mono fun x w' ⟨r,h1,h2,h3,h4⟩=>?_
  have hb2:Below w.heap.size w w':=⟨h2.os.trans hb.os,h2.tape.trans hb.tape,h2.output.trans hb.output,Nat.le_trans hb.size h2.size,fun i hi=>(h2.block i (Nat.lt_of_lt_of_le hi hb.size)).trans (hb.block i hi)⟩
  refine ⟨r,h1,hb2,h3,fun t=>?_⟩
  obtain ⟨P,a,b,o,c,q1,q2,q3,q4,q5,q6,_⟩:=h4 t
  obtain ⟨b',o',c',e,W⟩:=(h.below hb2).win q2 (by omega)
  rw [q3] at e
  injection e with e1 _ e3
  injection e1 with e1
  injection e1 with e1 e4 _
  subst e1; subst e4; subst e3
  exact ⟨b,_,q1,by rw [<-q6]; exact (W.cells a q4).2⟩)
 clear h ok
 cases hk:l.has k with
 | false =>
  have HK:=qh hk
  clear hk
  go_enter Tryz.func129,Tryz.ntmps129
  go_wp2_with (first | (go_at_call 132; refine WC.out.mono ?_; rintro x w1 ⟨v,rfl,ho,hb⟩; have FC1:=qh (FC.out w1 v ho hb); clear ho hb) | (go_at_call 133; refine FC1.out.mono ?_; rintro x w2 ⟨r,rfl,hb,h3,_⟩; obtain rfl:=h3 HK.out; have HB:=qh hb; clear hb h3))
  go_ret2
  exact ⟨rfl,HB.out⟩
 | true =>
  have HK:=qh hk
  clear hk
  go_enter Tryz.func129,Tryz.ntmps129
  go_wp2_with (first | (go_at_call 132; refine WC.out.mono ?_; rintro x w1 ⟨v,rfl,ho,hb⟩; have FC1:=qh (FC.out w1 v ho hb); clear ho hb) | (go_at_call 133; refine FC1.out.mono ?_; rintro x w2 ⟨r,rfl,hb,_,h4⟩; obtain ⟨b2,o2,rfl,c2⟩:=h4 HK.out; have HB:=qh hb; clear hb h4))
  go_ret2
  exact ⟨rfl,HB.out⟩

def Tab.putX (s:Tab) (k:ByteArray) (n:Int):Tab :=
 if s.down k s.depth s.root=[] then { s.take [(k,n)] with root:=s.place,depth:=1,count:=s.count+1 }
 else { (Tab.ups (s.down k s.depth s.root) ((s.down k s.depth s.root).length-1) (s.put ((s.down k s.depth s.root).getD ((s.down k s.depth s.root).length-1) (0,0)).1 (ins (s.nd ((s.down k s.depth s.root).getD ((s.down k s.depth s.root).length-1) (0,0)).1) ((s.down k s.depth s.root).getD ((s.down k s.depth s.root).length-1) (0,0)).2 (k,n)))).top with count:=s.count+1 }
theorem Below.then2 {B:Nat} {a b c:World} (h:Below B a b) (k:Below b.heap.size b c) (hB:B<=b.heap.size):Below B a c :=
 ⟨k.os.trans h.os,k.tape.trans h.tape,k.output.trans h.output,Nat.le_trans h.size k.size,fun i hi=>(k.block i (Nat.lt_of_lt_of_le hi hB)).trans (h.block i hi)⟩
theorem SlW.below {w w':World} {v:Value} {ws:List (Nat × Nat)} (h:SlW w v ws) (hb:Below w.heap.size w w'):SlW w' v ws:=by
 obtain ⟨A,c,e,hc⟩:=h
 refine ⟨A,c,e,fun j hj=>?_⟩
 obtain ⟨g,e1,a1,a2⟩:=hc j hj
 exact ⟨g,e1,(hb.cell (p:=⟨g,j * 2,none⟩) (block_lt_of_cell a1)).trans a1,(hb.cell (p:=⟨g,j * 2+1,none⟩) (block_lt_of_cell a2)).trans a2⟩
theorem Whole.count {s:Tab} {L:Nat->List Nat} {l:KV} (m:Whole s L l) (c:Nat):Whole { s with count:=c } L l:=Mid.count m c
theorem rise_one (x:ByteArray × Int):RiseL [x]:=List.pairwise_singleton _ _
theorem put_nil (k:ByteArray) (n:Int):KV.put [] k n=[(k,n)]:=rfl
theorem put_length {l:KV} {k:ByteArray} {n:Int} (hn:l.has k=false):(l.put k n).length=l.length+1:=by
 rw [tput_new hn,ins_len _ _ _ (KV.pos_le k l)]
theorem OkT.putX {s:Tab} {l:KV} (ok:OkT s l) (k:ByteArray) (n:Int) (hn:l.has k=false) (hl:l.length<=4000) (hb:s.nds.length+s.free.length<=800000):OkT (s.putX k n) (l.put k n)∧(s.putX k n).nds.length+(s.putX k n).free.length<=s.nds.length+s.free.length+29:=by
 have dp:=ok.deep hl
 have len:=ok.len
 rcases ok with ⟨rfl,rfl⟩ | ⟨L,m,h0,hc⟩
 ·have e:Tab.bare.putX k n=⟨[[(k,n)]],[],0,1,1⟩:=rfl
  rw [e,put_nil]
  refine ⟨.inr ⟨fun _=>[0],?_,rise_one _,rfl⟩,by show 1+0<=0+0+29; omega⟩
  refine ⟨Nat.one_pos,rfl,fun j _=>(by simp),fun i j r hi hj _ _=>?_,fun j r hj hr=>?_,List.nodup_nil,fun f hf=>(by cases hf),fun j r hj hr _=>?_,fun j hj=>?_,rfl⟩
  ·have hi:i<1:=hi
   have hj:j<1:=hj
   omega
  ·simp at hr; rw [hr]; show 0<1; decide
  ·simp at hr
   rw [hr,if_pos rfl]
   show 1<=[(k,n)].length∧[(k,n)].length<=4
   simp
  ·have hj:j+1<1:=hj
   omega
 ·obtain ⟨e,P,a,he,_,hw,hx,_,_,_,_,_,_,_,_,L',t1,t2,t3⟩:=m.putNew h0 k n hn (by omega)
  have ne:s.down k s.depth s.root≠[]:=fun t=>by rw [t] at hw; simp at hw
  have eq:s.putX k n={ (Tab.ups (s.down k s.depth s.root) e (s.put P (ins (s.nd P) a (k,n)))).top with count:=s.count+1 }:=by
   unfold Tab.putX
   rw [if_neg ne,hw,Nat.add_sub_cancel,hx]
  rw [eq]
  refine ⟨.inr ⟨L',t1.count _,put_rise h0,?_⟩,?_⟩
  ·show s.count+1=_
   rw [put_length hn,hc]
  ·show (Tab.ups (s.down k s.depth s.root) e (s.put P (ins (s.nd P) a (k,n)))).top.nds.length+(Tab.ups (s.down k s.depth s.root) e (s.put P (ins (s.nd P) a (k,n)))).top.free.length<=_
   omega

theorem xPutNew (w:World) (T:Nat) (E:Nat->Prop) (s:Tab) (l:KV) (k:ByteArray) (n:Int) (h:TabG w T E s) (ok:OkT s l) (hn:l.has k=false) (hl:l.length<=4000) (hb:s.nds.length+s.free.length<=800000) (hk:k.size<=1000000) :
  Calls Tryz.prog 130 #[Ptr T,.string k,.int .i64 n] w fun x w'=>x=.returned (.tuple #[.int .i64 0,.bool false,.int .i64 0])∧LeftP w T E (s.putX k n) w':=by
 obtain ⟨rv,fv,vs,h⟩:=h
 have dp:=ok.deep hl
 have WC:=qh (xWay w T E s k ⟨rv,fv,vs,h⟩ (ok.walks k) (by omega))
 have H:=qh h
 have FC:=qh (show ∀ w1 v,OwnW w1 w.heap.size v (s.down k s.depth s.root)->Below w.heap.size w w1->Calls Tryz.prog 133 #[Ptr T,v,.string k] w1 fun x w'=>x=.returned (.pointer none)∧Below w.heap.size w w'∧SlW w' v (s.down k s.depth s.root) from fun w1 v ho hb=>by
  refine (xFind w1 T E s rv fv vs v k l (h.below hb) ok ho.sl hl).mono fun x w' ⟨r,h1,h2,h3,_⟩=>?_
  rw [h3 hn] at h1
  exact ⟨h1,Below.then2 hb h2 hb.size,ho.sl.below h2⟩)
 obtain ⟨C,hC⟩:=nmq (s.count)
 have CC:=qh (show ∀ w',Below w.heap.size w w'->w'.cell? ⟨T,4,none⟩=some (.int .i64 C) from fun w' hb'=>by rw [hC]; exact (h.below hb').row.cell 4)
 have cb:C<=4000:=by rw [hC,ok.len]; exact hl
 have KC:=qh (fun w'=>lclone k w' (by omega))
 have IC:=qh (show ∀ w1 w2 v,OwnW w1 w.heap.size v (s.down k s.depth s.root)->Below w.heap.size w w2->SlW w2 v (s.down k s.depth s.root)->Calls Tryz.prog 144 #[Ptr T,v,.agg #[.string k,.int .i64 n]] w2 fun r w'=>r=.returned (.tuple #[])∧w'.cell? ⟨T,4,none⟩=some (.int .i64 C)∧w'.frozen? ⟨T,4,none⟩=false∧LeftP w T E (s.putX k n) (w'.setCell ⟨T,4,none⟩ (.int .i64 ((C:Int)+1))) from fun w1 w2 v ho hb2 sl=>by
  have fin:∀ s' w',LeftP w2 T E s' w'->s'.count=C->{ s' with count:=s.count+1 }=s.putX k n->w'.cell? ⟨T,4,none⟩=some (.int .i64 C)∧w'.frozen? ⟨T,4,none⟩=false∧LeftP w T E (s.putX k n) (w'.setCell ⟨T,4,none⟩ (.int .i64 ((C:Int)+1))):=fun s' w' ⟨E3,⟨r3,f3,v3,h3⟩,a3,c3⟩ hs he=>by
   refine ⟨by rw [<-hs]; exact h3.row.cell 4,h3.row.frozen 4,?_⟩
   rw [<-he]
   have h4:=h3.field (s':={ s' with count:=s.count+1 }) (u:=.int .i64 ((C:Int)+1)) 4 rfl rfl (by rw [hC]; rfl)
   refine ⟨E3,⟨r3,f3,v3,h4⟩,fun i e=>?_,Chg.setCell ((Chg.of_below hb2).then c3) (.inl h.eT) _⟩
   rcases a3 i e with q | q
   ·exact .inl q
   ·exact .inr (Nat.le_trans hb2.size q)
  rcases ok with ⟨rfl,rfl⟩ | ⟨L,m,h0,_⟩
  ·refine (xInsert0 w2 T E Tab.bare v k n ⟨rv,fv,vs,h.below hb2⟩ sl (fun p hp=>by cases hp) (by decide) (by decide)).mono fun r w' ⟨h1,h2⟩=>⟨h1,fin _ w' h2 hC.symm rfl⟩
  ·obtain ⟨e,P,a,he,_,hw,hx,hP,ap,a0,a4,_,_,fu,ft,L',t1,t2,t3⟩:=m.putNew h0 k n hn (by omega)
   have ne:s.down k s.depth s.root≠[]:=fun t=>by rw [t] at hw; simp at hw
   have eq:s.putX k n={ (Tab.ups (s.down k s.depth s.root) e (s.put P (ins (s.nd P) a (k,n)))).top with count:=s.count+1 }:=by
    unfold Tab.putX
    rw [if_neg ne,hw,Nat.add_sub_cancel,hx]
   have I1:=xInsert1 w2 T E s v (s.down k s.depth s.root) e (k,n) ⟨rv,fv,vs,h.below hb2⟩ sl (fun i q t=>by have:=ho.block i q; have:=h.lt i t; omega) hw (by omega) (by rw [hx]; exact hP) (by rw [hx]; exact ap) (by rw [hx]; exact a0) (by rw [hx]; show (s.nd P).length<=_; omega) (by rw [hx]; exact fu) (by rw [hx]; exact ft)
   rw [hx] at I1
   exact I1.mono fun r w' ⟨h1,h2⟩=>⟨h1,fin _ w' h2 (by rw [t2,hC]) eq.symm⟩)
 have cm:decide ((100000:Int)<=(C:Int))=false:=decide_eq_false (by omega)
 have wc:IntKind.i64.wrap ((C:Int)+1)=(C:Int)+1:=by rw [IntKind.wrap_i64]; omega
 clear h ok hn hl hb hk dp hC cb
 go_enter Tryz.func130,Tryz.ntmps130
 go_wp2_with (first | (go_at_call 132; refine WC.out.mono ?_; rintro x w1 ⟨v,rfl,ho,hb⟩; have HO:=qh ho; have FC1:=qh (FC.out w1 v ho hb); clear ho hb) | (go_at_call 133; refine FC1.out.mono ?_; rintro x w2 ⟨rfl,hb,hs⟩; have HB:=qh hb; have HS:=qh hs; have c4:=CC.out w2 hb; clear hb hs) | (go_at_call 34; refine (KC.out _).mono ?_; rintro x w3 ⟨rfl,hb⟩; have HB3:=qh hb; have IC3:=qh (IC.out _ w3 _ HO.out (Below.then2 HB.out hb HB.out.size) (HS.out.below hb)); clear hb) | (go_at_call 144; refine IC3.out.mono ?_; rintro x w4 ⟨rfl,c5,f5,hl⟩; have HL:=qh hl; clear hl))
 go_ret3
 exact ⟨rfl,HL.out⟩

theorem xPutOld (w:World) (T:Nat) (E:Nat->Prop) (l:KV) (b:Nat) (k:ByteArray) (n:Int) (h:Rep w T E l b) (hn:l.has k=true) (hl:l.length<=4000) :
  Calls Tryz.prog 130 #[Ptr T,.string k,.int .i64 n] w fun x w'=>x=.returned (.tuple #[.int .i64 (l.num (l.pos k)),.bool true,.int .i64 0])∧RepP w T E (l.put k n) b w':=by
 obtain ⟨s,⟨rv,fv,vs,h⟩,ok,hs⟩:=h
 have dp:=ok.deep hl
 have WC:=qh (xWay w T E s k ⟨rv,fv,vs,h⟩ (ok.walks k) (by omega))
 have FC:=qh (show ∀ w1 v,OwnW w1 w.heap.size v (s.down k s.depth s.root)->Below w.heap.size w w1->Calls Tryz.prog 133 #[Ptr T,v,.string k] w1 fun x w'=>∃ b2 o2,x=.returned (.pointer (some ⟨b2,o2,none⟩))∧w'.cell? ⟨b2,o2+1,none⟩=some (.int .i64 (l.num (l.pos k)))∧w'.frozen? ⟨b2,o2+1,none⟩=false∧RepP w T E (l.put k n) b (w'.setCell ⟨b2,o2+1,none⟩ (.int .i64 n)) from fun w1 v ho hb=>by
  refine (xFind w1 T E s rv fv vs v k l (h.below hb) ok ho.sl hl).mono fun x w' ⟨r,h1,h2,_,h4⟩=>?_
  obtain ⟨P,a,b2,o,c,q1,q2,q3,q4,q5,q6,q7⟩:=h4 hn
  have hb2:=Below.then2 hb h2 hb.size
  have h':=h.below hb2
  obtain ⟨b',o',c',e,W⟩:=h'.win q2 (by omega)
  rw [q3] at e
  injection e with e1 _ e3
  injection e1 with e1
  injection e1 with e1 e4 _
  subst e1; subst e4; subst e3
  refine ⟨b2,o+a * 2,by rw [h1,q1],by rw [<-q6]; exact (W.cells a q4).2,W.plain.frozen _,?_⟩
  have hV:=h'.item (j:=1) (u:=.int .i64 n) (k,n) q2 q3 q4 (by decide) (by rw [KV.getE _ _ q4,q5]; rfl)
  rw [<-Nat.add_assoc] at hV
  have hW:=h'.eW P b2 o q2 (by rw [q3]; exact ⟨o,_,c,rfl,Nat.le_refl _,by have:=W.pos; omega⟩)
  rcases ok with ⟨rfl,_⟩ | ⟨L,m,h0,hc⟩
  ·rw [has_nil] at hn; cases hn
  ·obtain ⟨e,P',a',he,_,_,hx,_,_,_,_,L',t1⟩:=m.putOld h0 k n hn
   rw [show s.depth-1=e by omega,hx] at q7
   injection q7 with z1 z2
   subst z1; subst z2
   refine ⟨E,⟨_,⟨_,_,_,hV⟩,.inr ⟨L',t1,put_rise h0,?_⟩,?_⟩,fun _ e=>.inl e,Chg.setCell (Chg.of_below hb2) (.inl hW.1) _⟩
   ·show s.count=_
    have e:l.put k n=l.set (l.pos k) (k,n):=if_pos hn
    rw [e,List.length_set]; exact hc
   ·show (s.nds.set _ _).length+s.free.length<=b
    rw [List.length_set]; exact hs)
 clear h ok hn hl dp hs
 go_enter Tryz.func130,Tryz.ntmps130
 go_wp2_with (first | (go_at_call 132; refine WC.out.mono ?_; rintro x w1 ⟨v,rfl,ho,hb⟩; have FC1:=qh (FC.out w1 v ho hb); clear ho hb) | (go_at_call 133; refine FC1.out.mono ?_; rintro x w2 ⟨b2,o2,rfl,c2,f2,hr⟩; have HR:=qh hr; clear hr))
 go_ret3
 exact ⟨rfl,HR.out⟩
theorem xPut (w:World) (T:Nat) (E:Nat->Prop) (l:KV) (b:Nat) (k:ByteArray) (n:Int) (h:Rep w T E l b) (hl:l.length<=4000) (hb:b<=800000) (hk:k.size<=1000000) :
  Calls Tryz.prog 130 #[Ptr T,.string k,.int .i64 n] w fun x w'=>x=.returned (.tuple #[.int .i64 (if l.has k then l.num (l.pos k) else 0),.bool (l.has k),.int .i64 0])∧RepP w T E (l.put k n) (b+29) w':=by
 cases hn:l.has k with
 | true =>
  refine (xPutOld w T E l b k n h hn hl).mono fun x w' ⟨h1,E',⟨s',t1,t2,t3⟩,h3,h4⟩=>⟨h1,E',⟨s',t1,t2,by omega⟩,h3,h4⟩
 | false =>
  obtain ⟨s,h1,ok,hs⟩:=h
  obtain ⟨o1,o2⟩:=ok.putX k n hn hl (by omega)
  refine (xPutNew w T E s l k n h1 ok hn hl (by omega) hk).mono fun x w' ⟨h1,E',t1,h3,h4⟩=>⟨h1,E',⟨_,t1,o1,by omega⟩,h3,h4⟩
theorem xNew (w:World):Calls Tryz.prog 131 #[] w fun x w'=>x=.returned (Ptr w.heap.size)∧TabG w' w.heap.size (fun k=>k=w.heap.size) Tab.bare∧Below w.heap.size w w':=by
 have hb:Below w.heap.size w (w.alloc (.cells #[.slice none 0 0,.slice none 0 0,.int .i64 0,.int .i64 0,.int .i64 0] 224)):=(Below.refl _ _).alloc (Nat.le_refl _) _
 have r:RowAt (w.alloc (.cells #[.slice none 0 0,.slice none 0 0,.int .i64 0,.int .i64 0,.int .i64 0] 224)) w.heap.size [.slice none 0 0,.slice none 0 0,.int .i64 0,.int .i64 0,.int .i64 0] 224:=RowAt.new w _ _
 have R:=qh r
 have HB:=qh hb
 clear hb r
 go_enter Tryz.func131,Tryz.ntmps131
 go_wp2_with fail
 go_ret
 refine ⟨rfl,⟨.slice none 0 0,.slice none 0 0,[],R.out,⟨rfl,.inl ⟨rfl,rfl⟩⟩,⟨rfl,.inl ⟨rfl,rfl⟩⟩,rfl,fun i hi=>absurd hi (by simp),fun i _ _ _ hi=>absurd hi (by simp),rfl,fun k e=>(by cases e),fun k e=>(by cases e),fun i _ _ hi=>absurd hi (by simp),fun k e=>?_⟩,HB.out⟩
 rw [show k=w.heap.size from e]
 exact RowAt.lt R.out
end Go.Proofs.YtoljhoabbaigdaaGreat
