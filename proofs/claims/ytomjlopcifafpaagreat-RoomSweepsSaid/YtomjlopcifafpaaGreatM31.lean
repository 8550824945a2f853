/- Proved parts: T8z. Conditions: each theorem's own. -/
import Derived.Test.YtomjlopcifafpaaGreatM29
import Derived.Test.YtomjlopcifafpaaGreatQ0
set_option maxRecDepth 100000
set_option maxHeartbeats 8000000
namespace Go.Proofs.YtomjlopcifafpaaGreat
open Go.RowKit

section
variable {s:Tab} {L:Nat->List Nat} {l:KV}
theorem Path.root {s:Tab} {L:Nat->List Nat} {k:ByteArray} {h p:Nat} {ws:List (Nat × Nat)} (h1:Path s L k h p ws):(ws.getD 0 (0,0)).1=p:=h1.top
theorem Whole.putNew (m:Whole s L l) (h0:RiseL l) (k:ByteArray) (n:Int) (hn:l.has k=false) (hb:s.nds.length+s.free.length+s.depth+4<=850000) :
  ∃ e P a,s.depth=e+1∧s.Walks k s.depth s.root∧(s.down k s.depth s.root).length=e+1∧(s.down k s.depth s.root).getD e (0,0)=(P,a)∧P<s.nds.length∧a<=(s.nd P).length∧0<(s.nd P).length∧(s.nd P).length<=4∧a=(s.nd P).pos k∧(s.nd P).has k=false ∧
   FineUps (s.down k s.depth s.root) e (s.put P (ins (s.nd P) a (k,n)))∧FineTop (Tab.ups (s.down k s.depth s.root) e (s.put P (ins (s.nd P) a (k,n)))) ∧
   ∃ L',Whole (Tab.ups (s.down k s.depth s.root) e (s.put P (ins (s.nd P) a (k,n)))).top L' (l.put k n)∧(Tab.ups (s.down k s.depth s.root) e (s.put P (ins (s.nd P) a (k,n)))).top.count=s.count ∧
    (Tab.ups (s.down k s.depth s.root) e (s.put P (ins (s.nd P) a (k,n)))).top.nds.length+(Tab.ups (s.down k s.depth s.root) e (s.put P (ins (s.nd P) a (k,n)))).top.free.length<=s.nds.length+s.free.length+s.depth+2:=by
 obtain ⟨e,P,a,A,B,he,w,p,hl,ha,f,hP,h1,h4,h2⟩:=m.way h0 k
 have ap:a<=(s.nd P).length:=by rw [ha]; exact KV.pos_le k _
 have m1:=m.leafset f.cut (ins (s.nd P) a (k,n))
 rw [ha,<-f.put n hn,<-ha] at m1
 have n1:∀ r,(s.put P (ins (s.nd P) a (k,n))).nd r=if r=P then ins (s.nd P) a (k,n) else s.nd r:=fun r=>Tab.put_nd hP r
 have pm:P ∈ L 0:=by rw [f.cut]; simp
 have il:=ins_len (s.nd P) a (k,n) ap
 have lw:((s.down k s.depth s.root).getD e (0,0)).1=P:=by rw [hl]
 obtain ⟨u1,L2,K2,u2,u3,u4,u5,u6,u7,u8⟩:=ups_ok (ws:=s.down k s.depth s.root) (e:=e) (l:=l.put k n) e (Nat.le_refl _) (s.put P (ins (s.nd P) a (k,n))) L ((s.nd P).key 0) (by rw [Nat.sub_self,lw]; exact m1) (by show e+1=s.depth; omega) (fun j hj=>by
  obtain ⟨j1,j2⟩:=p.next j hj
  have jm:=p.mem j (by omega)
  have jn:((s.down k s.depth s.root).getD j (0,0)).1≠P:=fun t=>by
   have:=m.lev (e-j) 0 _ (by omega) m.d1 jm (by rw [t]; exact pm); omega
  rw [n1,if_neg jn]
  exact ⟨jm,j1,j2⟩) (by rw [lw,n1,if_pos rfl]; omega) (by rw [lw,n1,if_pos rfl]; omega) (by rw [Tab.put_len]; show s.nds.length+s.free.length+e<=_; omega)
 have sd:(s.put P (ins (s.nd P) a (k,n))).depth=s.depth:=rfl
 have sc:(s.put P (ins (s.nd P) a (k,n))).count=s.count:=rfl
 have sl:(s.put P (ins (s.nd P) a (k,n))).nds.length+(s.put P (ins (s.nd P) a (k,n))).free.length=s.nds.length+s.free.length:=by rw [Tab.put_len]; rfl
 have e0:((s.down k s.depth s.root).getD 0 (0,0)).1=(Tab.ups (s.down k s.depth s.root) e (s.put P (ins (s.nd P) a (k,n)))).root:=by rw [p.root,u6]; rfl
 rw [e0] at u2 u3 u4
 have hd:e+1=(Tab.ups (s.down k s.depth s.root) e (s.put P (ins (s.nd P) a (k,n)))).depth:=by rw [u5,sd,he]
 have ft:=u2.fineTop hd (by omega) u4 (by omega) (by omega)
 obtain ⟨L',t1,t2,t3,_⟩:=u2.top_ok hd u3 u4
 exact ⟨e,P,a,he,w,p.len,hl,hP,ap,h1,h4,ha,by rw [<-f.has]; exact hn,u1,ft,L',t1,by rw [t2,u7,sc],by omega⟩
theorem Whole.putOld (m:Whole s L l) (h0:RiseL l) (k:ByteArray) (n:Int) (hn:l.has k=true) :
  ∃ e P a,s.depth=e+1∧s.Walks k s.depth s.root∧(s.down k s.depth s.root).length=e+1∧(s.down k s.depth s.root).getD e (0,0)=(P,a)∧P<s.nds.length∧a<(s.nd P).length∧(s.nd P).key a=k∧(s.nd P).num a=l.num (l.pos k) ∧
   ∃ L',Whole (s.put P ((s.nd P).set a (k,n))) L' (l.put k n):=by
 obtain ⟨e,P,a,A,B,he,w,p,hl,ha,f,hP,h1,h4,h2⟩:=m.way h0 k
 have hs:(s.nd P).has k=true:=by rw [<-f.has]; exact hn
 obtain ⟨ap,ak⟩:=(KV.has_iff _ _).1 hs
 rw [<-ha] at ap ak
 have m1:=m.leafset f.cut ((s.nd P).set a (k,n))
 rw [ha,<-f.put_old n hn,<-ha] at m1
 refine ⟨e,P,a,he,w,p.len,hl,hP,ap,ak,?_,L,?_⟩
 ·rw [f.pos,<-ha]
  obtain ⟨U,hU⟩:=nmq (A.flatMap s.nd)
  have fa:=f.all
  rw [<-hU] at fa ⊢
  rw [fa]
  unfold KV.num
  rw [List.getD_eq_getElem?_getD,List.getD_eq_getElem?_getD,List.append_assoc,List.getElem?_append_right (by omega),Nat.add_sub_cancel_left,List.getElem?_append_left ap]
 ·refine m1.clean (fun _ _=>?_) (fun _=>?_)
  ·rw [Tab.put_nd hP,if_pos rfl,List.length_set]
   have pm:P ∈ L 0:=by rw [f.cut]; simp
   exact m.size 0 P m.d1 pm (fun t=>by have:=t.1; have:=m.d1; omega)
  ·rw [Tab.put_nd hP,if_pos rfl]
   by_cases c:a=0
   ·subst c
    unfold KV.key at ak ⊢
    rw [List.getD_eq_getElem?_getD] at ak ⊢
    rw [List.getD_eq_getElem?_getD,List.getElem?_set,if_pos rfl,if_pos ap,ak]; rfl
   ·unfold KV.key
    rw [List.getD_eq_getElem?_getD,List.getD_eq_getElem?_getD,List.getElem?_set,if_neg (fun t=>c t)]
theorem Whole.get (m:Whole s L l) (h0:RiseL l) (k:ByteArray) :
  ∃ e P a,s.depth=e+1∧s.Walks k s.depth s.root∧(s.down k s.depth s.root).length=e+1∧(s.down k s.depth s.root).getD e (0,0)=(P,a)∧P<s.nds.length∧(s.nd P).length<=4∧(l.has k=true->a<(s.nd P).length∧(s.nd P).key a=k∧(s.nd P).num a=l.num (l.pos k))∧(l.has k=false->¬ (a<(s.nd P).length∧(s.nd P).key a=k)):=by
 obtain ⟨e,P,a,A,B,he,w,p,hl,ha,f,hP,h1,h4,h2⟩:=m.way h0 k
 refine ⟨e,P,a,he,w,p.len,hl,hP,h4,fun h=>?_,fun h t=>?_⟩
 ·obtain ⟨e',P',a',he',_,_,hl',_,b1,b2,b3,_⟩:=m.putOld h0 k 0 h
  have:e=e':=by omega
  subst this
  rw [hl] at hl'
  injection hl' with q1 q2
  subst q1; subst q2
  exact ⟨b1,b2,b3⟩
 ·rw [f.has] at h
  have:=(KV.has_iff (s.nd P) k).2 (by rw [<-ha]; exact t)
  rw [h] at this; cases this
theorem Whole.del (m:Whole s L l) (h0:RiseL l) (k:ByteArray) (c:Nat) (hc:c=(l.del k).length) (hn:l.has k=true) (hb:s.nds.length+s.free.length+2 * s.depth+4<=850000) :
  ∃ e P a,s.depth=e+1∧s.Walks k s.depth s.root∧(s.down k s.depth s.root).length=e+1∧(s.down k s.depth s.root).getD e (0,0)=(P,a)∧P<s.nds.length∧a<(s.nd P).length∧(s.nd P).length<=4∧(s.nd P).key a=k∧(s.nd P).num a=l.num (l.pos k) ∧
   FineFills (s.down k s.depth s.root) e (({ s with count:=c }:Tab).cutK P a)∧FineShut (Tab.fills (s.down k s.depth s.root) e (({ s with count:=c }:Tab).cutK P a)) ∧
   ((l.del k=[]∧(Tab.fills (s.down k s.depth s.root) e (({ s with count:=c }:Tab).cutK P a)).shut=Tab.bare)∨∃ L',Whole (Tab.fills (s.down k s.depth s.root) e (({ s with count:=c }:Tab).cutK P a)).shut L' (l.del k)∧(Tab.fills (s.down k s.depth s.root) e (({ s with count:=c }:Tab).cutK P a)).shut.count=(l.del k).length ∧
    (Tab.fills (s.down k s.depth s.root) e (({ s with count:=c }:Tab).cutK P a)).shut.nds.length+(Tab.fills (s.down k s.depth s.root) e (({ s with count:=c }:Tab).cutK P a)).shut.free.length<=s.nds.length+s.free.length+2 * s.depth+1):=by
 obtain ⟨e,P,a,A,B,he,w,p,hl,ha,f,hP,h1,h4,h2⟩:=m.way h0 k
 obtain ⟨e',P',a',he',_,_,hl',_,b1,b2,b3,_⟩:=m.putOld h0 k 0 hn
 have:e=e':=by omega
 subst this
 have hl2:=hl'
 rw [hl] at hl2
 injection hl2 with q1 q2
 subst q1; subst q2
 obtain ⟨S,hS⟩:=nmq ((({ s with count:=c }:Tab).cutK P a))
 have m1:=(m.leafset f.cut ((s.nd P).take a++(s.nd P).drop (a+1))).count c
 rw [ha,<-f.del hn,<-ha] at m1
 have es:S={ s.put P ((s.nd P).take a++(s.nd P).drop (a+1)) with count:=c }:=by rw [hS]; rfl
 rw [<-es] at m1
 have n1:∀ r,S.nd r=if r=P then (s.nd P).take a++(s.nd P).drop (a+1) else s.nd r:=fun r=>by rw [es]; exact Tab.put_nd hP r
 have pm:P ∈ L 0:=by rw [f.cut]; simp
 have lw:((s.down k s.depth s.root).getD e (0,0)).1=P:=by rw [hl]
 have ll:((s.nd P).take a++(s.nd P).drop (a+1)).length=(s.nd P).length-1:=by simp; omega
 have sd:S.depth=s.depth:=by rw [es]; rfl
 have sr:S.root=s.root:=by rw [es]; rfl
 have sc:S.count=c:=by rw [es]
 have sl:S.nds.length+S.free.length=s.nds.length+s.free.length:=by rw [es]; show (s.put _ _).nds.length+s.free.length=_; rw [Tab.put_len]
 obtain ⟨u1,L2,K2,u2,u3,u4,u5,u6,u7,u8⟩:=fills_ok (ws:=s.down k s.depth s.root) (e:=e) (l:=l.del k) e (Nat.le_refl _) S L ((s.nd P).key 0) (by rw [Nat.sub_self,lw]; exact m1) (by rw [sd]; omega) (fun j hj=>by
  obtain ⟨j1,j2⟩:=p.next j hj
  have jm:=p.mem j (by omega)
  have jn:((s.down k s.depth s.root).getD j (0,0)).1≠P:=fun t=>by
   have:=m.lev (e-j) 0 _ (by omega) m.d1 jm (by rw [t]; exact pm); omega
  rw [n1,if_neg jn]
  exact ⟨jm,j1,j2⟩) (fun h=>by rw [lw,n1,if_pos rfl,ll]; have:=h2 h; omega) (by rw [lw,n1,if_pos rfl,ll]; omega) (by omega)
 have e0:((s.down k s.depth s.root).getD 0 (0,0)).1=(Tab.fills (s.down k s.depth s.root) e S).root:=by rw [p.root,u6,sr]
 rw [e0] at u2 u3 u4
 have hd:e+1=(Tab.fills (s.down k s.depth s.root) e S).depth:=by rw [u5,sd,he]
 obtain ⟨t1,t2⟩:=u2.shut_ok hd u3 u4 (by rw [u7,sc,hc]) (by omega) (by omega)
 refine ⟨e,P,a,he,w,p.len,hl,hP,b1,h4,b2,b3,?_⟩
 rw [<-hS]
 refine ⟨u1,t1,?_⟩
 rcases t2 with t2 | ⟨L',t2,t3,t4⟩
 ·exact .inl t2
 ·exact .inr ⟨L',t2,t3,by omega⟩
end

end Go.Proofs.YtomjlopcifafpaaGreat
