/- Proved parts: B2s B2f B3o B3p B3d B3f B3a B3c B3q. Conditions: each theorem's own. -/
import Derived.Test.YtbfgpdgiaclphaaGreatM20
import Derived.Test.YtbfgpdgiaclphaaGreatM2
import Derived.Test.YtbfgpdgiaclphaaGreatM8
import Derived.Test.YtbfgpdgiaclphaaGreatQ1
import Derived.Test.YtbfgpdgiaclphaaGreatQ2
set_option maxRecDepth 100000
set_option maxHeartbeats 8000000
namespace Go.Proofs.YtbfgpdgiaclphaaGreat
open Go.RowKit

theorem cnt_snoc {f:Int} {v:Ver} (h:f<v.seq):∀ l:List Ver,cnt f (l++[v])=cnt f l
 | []=>by show (if v.seq<=f then _ else _)=_; rw [if_neg (by omega)]; rfl
 | x :: l=>by
  show (if x.seq<=f then cnt f (l++[v])+1 else 0)=(if x.seq<=f then cnt f l+1 else 0)
  rw [cnt_snoc h l]
theorem sweep_snoc {f:Int} {v:Ver} (h:f<v.seq) (l:List Ver):sweepL (l++[v]) f=sweepL l f++[v]:=by
 have hc:=cnt_le f l
 have ho:=oldL_le l f
 have e:oldL (l++[v]) f=oldL l f:=by
  unfold oldL
  rw [cnt_snoc h]
  by_cases z:cnt f l=0
  ·rw [if_pos z,if_pos z]
  ·rw [if_neg z,if_neg z,snoc_get (by omega)]
 unfold sweepL
 rw [e,List.drop_append_of_le_length (by omega)]
def Sim (La Lb:Ch) (F:Int):Prop:=∀ k,∃ f,f<=F∧Lb.of k=sweepL (La.of k) f
namespace Sim
variable {La Lb:Ch} {F q q':Int} {k:ByteArray} {v:Ver}
theorem nil (F:Int):Sim [] [] F:=fun _=>⟨F,Int.le_refl _,rfl⟩
theorem mono (h:Sim La Lb F) {F':Int} (hF:F<=F'):Sim La Lb F':=fun k=>by
 obtain ⟨f,hf,e⟩:=h k
 exact ⟨f,by omega,e⟩
theorem swept (h:Sim La Lb F) (oa:OkL La q) (ob:OkL Lb q'):Sim La (Lb.swept F) F:=fun k=>by
 obtain ⟨f,hf,e⟩:=h k
 refine ⟨F,Int.le_refl _,?_⟩
 rw [Ch.of_swept ob.rise,e,sweep_twice (rise_of_right (oa.of_right k)),show max f F=F by omega]
theorem put (h:Sim La Lb F) (ha:La.Rise) (hb:Lb.Rise) (hv:F<v.seq):Sim (La.put k v) (Lb.put k v) F:=fun k'=>by
 rw [Ch.of_put ha,Ch.of_put hb]
 by_cases z:k'=k
 ·rw [if_pos z,if_pos z]
  obtain ⟨f,hf,e⟩:=h k
  exact ⟨f,hf,by rw [e,sweep_snoc (by omega)]⟩
 ·rw [if_neg z,if_neg z]; exact h k'
theorem rise_with (ha:La.Rise) (ws:List Wr) (s:Int):(La.withW ws s).Rise:=by
 unfold Ch.withW
 induction ws generalizing La with
 | nil=>exact ha
 | cons x ws ih=>rw [List.foldl_cons]; exact ih (Ch.rise_put ha)
theorem at_ (h:Sim La Lb F) (oa:OkL La q) {s:Int} (hs:F<=s) (k:ByteArray):atOk (La.of k) s=atOk (Lb.of k) s∧atL (La.of k) s=atL (Lb.of k) s:=by
 obtain ⟨f,hf,e⟩:=h k
 have:=sweep_at (rise_of_right (oa.of_right k)) (show f<=s by omega)
 rw [e]
 exact ⟨this.1.symm,this.2.symm⟩
theorem ents (h:Sim La Lb F) (oa:OkL La q) (ob:OkL Lb q') {s:Int} (hs:F<=s):La.ents s=Lb.ents s:=ents_eq oa.rise ob.rise s (h.at_ oa hs)
theorem live (h:Sim La Lb F) (oa:OkL La q) (ob:OkL Lb q) (hF:F<=q):La.live=Lb.live:=by
 rw [live_ents oa.le,live_ents ob.le,h.ents oa ob hF]
theorem since (h:Sim La Lb F) (oa:OkL La q) {s:Int} (hs:F<=s) (k:ByteArray):since La k s=since Lb k s:=by
 obtain ⟨f,hf,e⟩:=h k
 obtain ⟨l,hl⟩:=nmq (La.of k)
 have hr:=rise_of_right (oa.of_right k)
 unfold Go.Proofs.YtbfgpdgiaclphaaGreat.since
 rw [e]
 rw [<-hl] at hr ⊢
 have ho:oldL l f=(if cnt f l=0 then 0 else if (l.getD (cnt f l-1) Ver.Z).gone then cnt f l else cnt f l-1):=rfl
 have hc:=cnt_le f l
 have hle:=oldL_le l f
 by_cases z:oldL l f<l.length
 ·unfold sweepL
  rw [lastL_drop z,List.length_drop,decide_eq_true (show 0<l.length by omega),decide_eq_true (show 0<l.length-oldL l f by omega)]
 ·unfold sweepL
  rw [List.length_drop,decide_eq_false (show ¬ 0<l.length-oldL l f by omega),Bool.false_and]
  by_cases y:0<l.length
  ·have:=(cnt_iff (f:=f) hr (l.length-1) (by omega)).1 (by omega)
   rw [decide_eq_false (show ¬ s<(lastL l).seq by unfold lastL; omega),Bool.and_false]
  ·rw [decide_eq_false y,Bool.false_and]
end Sim
def aftV (L:Ch) (k:ByteArray) (ab:Bool) (s:Int):ByteArray × (Val × Bool) :=
 if L.frm k ab s<L.length then (L.key (L.frm k ab s),((atL (L.chn (L.frm k ab s)) s).val,true)) else (⟨#[]⟩,(Val.V0,false))
theorem vers_le:∀ {La Lb:Ch},La.Rise->Lb.Rise->(∀ y,y ∈ Lb->∃ l,(y.1,l) ∈ La∧y.2.length<=l.length)->Lb.vers<=La.vers
 | _,[],_,_,_=>Nat.zero_le _
 | [],y :: Lb,_,_,h=>by
  obtain ⟨l,hl,_⟩:=h y (by simp)
  cases hl
 | x :: La,y :: Lb,ha,hb,h=>by
  obtain ⟨hx,pa⟩:=List.pairwise_cons.1 ha
  obtain ⟨hy,pb⟩:=List.pairwise_cons.1 hb
  obtain ⟨l,hl,hle⟩:=h y (by simp)
  have tl:∀ z,z ∈ Lb->∃ l,(z.1,l) ∈ La∧z.2.length<=l.length:=fun z hz=>by
   obtain ⟨l2,hl2,hle2⟩:=h z (List.mem_cons_of_mem _ hz)
   rcases List.mem_cons.1 hl2 with e | e
   ·have h1:=hy z hz
    have e1:z.1=x.1:=by rw [<-e]
    rcases List.mem_cons.1 hl with e2 | e2
    ·have e3:y.1=x.1:=by rw [<-e2]
     rw [e3,e1,ltB_irr] at h1; cases h1
    ·have h2:=hx _ e2
     have h2:ltB x.1 y.1=true:=h2
     rw [<-e1,ltB_asym h1] at h2; cases h2
   ·exact ⟨l2,e,hle2⟩
  rcases List.mem_cons.1 hl with e | e
  ·have:=vers_le (La:=La) (Lb:=Lb) pa pb tl
   have e2:l=x.2:=by rw [<-e]
   unfold Ch.vers at this ⊢
   rw [List.map_cons,List.sum_cons,List.map_cons,List.sum_cons]
   rw [e2] at hle
   omega
  ·have:=vers_le (La:=La) (Lb:=y :: Lb) pa hb (fun z hz=>by
    rcases List.mem_cons.1 hz with q | q
    ·rw [q]; exact ⟨l,e,hle⟩
    ·exact tl z q)
   unfold Ch.vers at this ⊢
   rw [List.map_cons (l:=La),List.sum_cons]
   omega
theorem Sim.vers {La Lb:Ch} {F q:Int} (h:Sim La Lb F) (oa:La.Rise) (ob:OkL Lb q):Lb.vers<=La.vers :=
 vers_le oa ob.rise fun y hy=>by
  obtain ⟨a,b⟩:=y
  obtain ⟨f,_,e⟩:=h a
  have eb:=Ch.of_mem ob.rise hy
  rw [eb] at e
  have hn:b≠[]:=ob.ne _ hy
  have hk:La.has a=true:=by
   cases p:La.has a with
   | true=>rfl
   | false=>rw [Ch.of_no p] at e; exact absurd (e.trans (by unfold sweepL; rw [List.drop_nil])) hn
  refine ⟨La.of a,Ch.mem_has hk,?_⟩
  show b.length<=_
  rw [e]; unfold sweepL; rw [List.length_drop]; omega

end Go.Proofs.YtbfgpdgiaclphaaGreat

namespace Go.Proofs.YtbfgpdgiaclphaaGreat
open Go.RowKit

def lateL (f:Int) (l:List Ver):Nat:=l.countP fun y=>decide (f<y.seq)
def late (f:Int) (L:Ch):Nat:=(L.map fun x=>lateL f x.2).sum
theorem sweep_len {l:List Ver} {f q:Int} (hr:RiseV l) (hq:∀ y,y ∈ l->y.seq<=q):(sweepL l f).length<=(if atOk l q=true then 1 else 0)+2 * lateL f l:=by
 have hc:=cnt_le f l
 have late_eq:lateL f l=l.length-cnt f l:=by
  have h1:lateL f (l.take (cnt f l))=0:=by
   unfold lateL
   rw [List.countP_eq_zero]
   intro y hy
   obtain ⟨i,hi,rfl⟩:=List.mem_iff_getElem.1 hy
   rw [List.length_take] at hi
   have:=(cnt_iff (f:=f) hr i (by omega)).1 (by omega)
   rw [List.getD_eq_getElem?_getD,List.getElem?_eq_getElem (by omega)] at this
   rw [List.getElem_take]
   simp only [decide_eq_true_eq]
   have t:l[i].seq<=f:=this
   omega
  have h2:lateL f (l.drop (cnt f l))=(l.drop (cnt f l)).length:=by
   unfold lateL
   rw [List.countP_eq_length]
   intro y hy
   obtain ⟨i,hi,rfl⟩:=List.mem_iff_getElem.1 hy
   rw [List.length_drop] at hi
   have:=cnt_iff (f:=f) hr (cnt f l+i) (by omega)
   rw [List.getD_eq_getElem?_getD,List.getElem?_eq_getElem (by omega)] at this
   rw [List.getElem_drop]
   simp only [decide_eq_true_eq]
   by_cases z:l[cnt f l+i].seq<=f
   ·have:=this.2 z; omega
   ·omega
  have e:lateL f l=lateL f (l.take (cnt f l))+lateL f (l.drop (cnt f l)):=by
   unfold lateL
   rw [<-List.countP_append,List.take_append_drop]
  rw [e,h1,h2,List.length_drop]; omega
 rw [late_eq]
 unfold sweepL
 rw [List.length_drop]
 have ho:oldL l f=(if cnt f l=0 then 0 else if (l.getD (cnt f l-1) Ver.Z).gone then cnt f l else cnt f l-1):=rfl
 by_cases z:cnt f l=0
 ·rw [if_pos z] at ho; omega
 ·rw [if_neg z] at ho
  cases g:(l.getD (cnt f l-1) Ver.Z).gone with
  | true=>rw [g,if_pos rfl] at ho; omega
  | false =>
   rw [g] at ho
   simp only [Bool.false_eq_true,if_false] at ho
   by_cases y:cnt f l=l.length
   ·have e:atOk l q=true:=by
     unfold atOk
     rw [cnt_all hq,decide_eq_true (by omega),Bool.true_and,<-y,g]; rfl
    rw [if_pos e]; omega
   ·omega
theorem vers_swept {f q:Int}:∀ {L:Ch},(∀ x,x ∈ L->RiseV x.2∧∀ y,y ∈ x.2->y.seq<=q)->(L.swept f).vers<=(L.ents q).length+2 * late f L
 | [],_=>Nat.zero_le _
 | x :: L,h=>by
  have ih:=vers_swept (f:=f) (L:=L) fun y hy=>h y (List.mem_cons_of_mem _ hy)
  obtain ⟨h1,h2⟩:=h x (by simp)
  have hl:=sweep_len (f:=f) h1 h2
  have el:(Ch.ents (x :: L) q).length=(if atOk x.2 q=true then 1 else 0)+(Ch.ents L q).length:=by
   unfold Ch.ents
   rw [List.filterMap_cons]
   cases z:atOk x.2 q with
   | false=>simp
   | true=>simp; omega
  have ev:(Ch.swept (x :: L) f).vers<=(sweepL x.2 f).length+(Ch.swept L f).vers:=by
   unfold Ch.swept Ch.vers
   rw [List.map_cons,List.filter_cons]
   split
   ·rw [List.map_cons,List.sum_cons]; exact Nat.le_refl _
   ·omega
  have et:late f (x :: L)=lateL f x.2+late f L:=by unfold late; rw [List.map_cons,List.sum_cons]
  rw [el,et]
  omega
theorem sum_take_drop {α:Type} (g:α->Nat) (l:List α) (i:Nat):(l.map g).sum=((l.take i).map g).sum+((l.drop i).map g).sum:=by
 rw [<-List.sum_append,<-List.map_append,List.take_append_drop]
theorem sum_put {L:Ch} {k:ByteArray} {v:Ver} (g:List Ver->Nat) (n:Nat) (h1:∀ l,g (l++[v])=g l+n) (h0:g [v]=n):((L.put k v).map fun x=>g x.2).sum=(L.map fun x=>g x.2).sum+n:=by
 cases q:L.has k with
 | true =>
  obtain ⟨p,e⟩:=(Ch.has_iff L k).1 q
  have ep:L.put k v=L.take (L.pos k)++(k,L.chn (L.pos k)++[v]) :: L.drop (L.pos k+1):=by
   unfold Ch.put
   rw [if_pos q,List.set_eq_take_append_cons_drop,if_pos p]
  have el:L=L.take (L.pos k)++(L.key (L.pos k),L.chn (L.pos k)) :: L.drop (L.pos k+1):=by
   rw [<-Ch.getE L p,List.getElem_cons_drop,List.take_append_drop]
  rw [ep]
  conv=>rhs; rw [el]
  rw [List.map_append,List.map_append,List.sum_append,List.sum_append,List.map_cons,List.map_cons,List.sum_cons,List.sum_cons]
  show _+(g (L.chn (L.pos k)++[v])+_)=_+(g (L.chn (L.pos k))+_)+n
  rw [h1]; omega
 | false =>
  have ep:L.put k v=L.take (L.pos k)++(k,[v]) :: L.drop (L.pos k):=by unfold Ch.put; rw [q]; rfl
  rw [ep,List.map_append,List.sum_append,List.map_cons,List.sum_cons,sum_take_drop (fun x:ByteArray × List Ver=>g x.2) L (L.pos k)]
  show _+(g [v]+_)=_
  rw [h0]; omega
theorem vers_put {L:Ch} {k:ByteArray} {v:Ver}:(L.put k v).vers=L.vers+1:=sum_put (fun l=>l.length) 1 (fun l=>by simp) rfl
theorem late_put {L:Ch} {k:ByteArray} {v:Ver} {f:Int} (h:f<v.seq):late f (L.put k v)=late f L+1 :=
 sum_put (lateL f) 1 (fun l=>by unfold lateL; rw [List.countP_append]; simp [h]) (by unfold lateL; simp [h])
theorem vers_with (L:Ch) (ws:List Wr) (s:Int):(L.withW ws s).vers=L.vers+ws.length:=by
 unfold Ch.withW
 induction ws generalizing L with
 | nil=>rfl
 | cons x ws ih=>rw [List.foldl_cons,ih,vers_put,List.length_cons]; omega
theorem late_with (L:Ch) (ws:List Wr) {s f:Int} (h:f<s):late f (L.withW ws s)=late f L+ws.length:=by
 unfold Ch.withW
 induction ws generalizing L with
 | nil=>rfl
 | cons x ws ih=>rw [List.foldl_cons,ih,late_put h,List.length_cons]; omega
theorem late_swept (L:Ch) (f g:Int):late f (L.swept g)<=late f L:=by
 unfold late Ch.swept
 induction L with
 | nil=>exact Nat.le_refl _
 | cons x L ih =>
  rw [List.map_cons,List.filter_cons]
  have e1:lateL f (sweepL x.2 g)<=lateL f x.2:=(List.drop_sublist _ _).countP_le
  split
  ·rw [List.map_cons,List.sum_cons,List.map_cons,List.sum_cons]; exact Nat.add_le_add e1 ih
  ·rw [List.map_cons,List.sum_cons]; exact Nat.le_trans ih (Nat.le_add_left _ _)

theorem ents_may {L:Ch} {q:Int} (h:OkL L q):mayE (L.ents q) q=true∧FitsE (L.ents q)∧(L.ents q).length<=L.length:=by
 have hr:=ents_rise h.rise q
 have el:∀ e,e ∈ L.ents q->keyOk e.key=true∧e.val.ok=true∧1<=e.seq∧e.seq<=q∧e.val.Fits∧e.key.size<=1000∧e.val.txt.size<=1000:=fun e he=>by
  obtain ⟨h1,h2,h3⟩:=(ents_mem h.rise q).1 he
  have hk:L.has e.key=true:=by
   cases p:L.has e.key with
   | true=>rfl
   | false=>rw [Ch.of_no p] at h1; cases h1
  have hm:=Ch.mem_has hk
  have c:=cnt_all (h.le _ hm)
  have ea:atL (L.of e.key) q=lastL (L.of e.key):=by unfold atL; rw [h1,if_pos rfl,c]; rfl
  have ne:0<(L.of e.key).length:=Nat.pos_of_ne_zero fun z=>h.ne _ hm (List.eq_nil_of_length_eq_zero z)
  have lm:lastL (L.of e.key) ∈ L.of e.key:=by
   unfold lastL
   rw [List.getD_eq_getElem?_getD,List.getElem?_eq_getElem (by omega)]
   exact List.getElem_mem _
  have vo:=right_ok (h.right _ hm) lm
  have sp:=seq_pos (h.right _ hm) (i:=(L.of e.key).length-1) (by show _<(L.of e.key).length; omega)
  have kk:keyOk e.key=true:=h.key _ hm
  have k32:e.key.size<=32:=by
   unfold keyOk at kk
   simp only [Bool.and_eq_true,decide_eq_true_eq] at kk
   exact kk.2
  rw [ea] at h2 h3
  have t64:=Val.ok_txt vo
  exact ⟨kk,by rw [h3]; exact vo,by rw [h2]; exact sp,by rw [h2]; exact h.le _ hm _ lm,by rw [h3]; exact h.fits _ hm _ lm,by omega,by rw [h3]; omega⟩
 refine ⟨mayE_yes fun j hj=>?_,fun e he=>(el e he).2.2.2.2,ents_len L q⟩
 have he:(L.ents q).getD j En.Z ∈ L.ents q:=by
  rw [List.getD_eq_getElem?_getD,List.getElem?_eq_getElem hj]
  exact List.getElem_mem _
 obtain ⟨a,b,c,d,_⟩:=el _ he
 unfold enOk
 rw [a,b,decide_eq_true c,decide_eq_true d,Bool.true_and,Bool.true_and,Bool.true_and,Bool.true_and]
 unfold prevE
 by_cases z:j=0
 ·rw [if_pos z]
 ·rw [if_neg z]
  have:=List.pairwise_iff_getElem.1 hr (j-1) j (by omega) hj (by omega)
  show ltB ((L.ents q).getD (j-1) En.Z).key ((L.ents q).getD j En.Z).key=true
  rw [List.getD_eq_getElem?_getD,List.getD_eq_getElem?_getD,List.getElem?_eq_getElem (by omega),List.getElem?_eq_getElem hj]
  exact this
theorem loadL_of {l:List En} {sq:Int} (h:mayE l sq=true) (hf:FitsE l) (hs:sq<=1073741824) (k:ByteArray):∀ e,e ∈ l->e.key=k->(loadL l).of k=[e.ver]:=fun e he hk=>by
 refine Ch.of_mem (OkL.load h hf hs).1.rise ?_
 rw [<-hk]
 exact List.mem_map.2 ⟨e,he,rfl⟩
theorem at_one (e:En) {q:Int} (h:e.seq<=q):atOk [e.ver] q=true∧atL [e.ver] q=e.ver:=by
 have c1:cnt q [e.ver]=1:=cnt_all (fun y hy=>by rw [List.mem_singleton.1 hy]; exact h)
 have ok:atOk [e.ver] q=true:=by unfold atOk; rw [c1]; rfl
 refine ⟨ok,?_⟩
 unfold atL
 rw [ok,if_pos rfl,c1]; rfl
theorem load_at {L:Ch} {q:Int} (h:OkL L q) (hq:q<=1073741824) (k:ByteArray):atOk ((loadL (L.ents q)).of k) q=atOk (L.of k) q∧atL ((loadL (L.ents q)).of k) q=⟨(atL (L.of k) q).seq,false,(atL (L.of k) q).val⟩:=by
 obtain ⟨h1,h2,_⟩:=ents_may h
 cases z:atOk (L.of k) q with
 | true =>
  have hm:(⟨k,(atL (L.of k) q).seq,(atL (L.of k) q).val⟩:En) ∈ L.ents q:=(ents_mem h.rise q).2 ⟨z,rfl,rfl⟩
  rw [loadL_of h1 h2 hq k _ hm rfl]
  have le:(atL (L.of k) q).seq<=q:=by
   have:=(loadL_of h1 h2 hq k _ hm rfl)
   have o:=(OkL.load h1 h2 hq).1.of_le k
   rw [this] at o
   exact o (En.ver ⟨k,(atL (L.of k) q).seq,(atL (L.of k) q).val⟩) (List.mem_singleton.2 rfl)
  exact at_one ⟨k,(atL (L.of k) q).seq,(atL (L.of k) q).val⟩ le
 | false =>
  have hn:(loadL (L.ents q)).has k=false:=by
   cases p:(loadL (L.ents q)).has k with
   | false=>rfl
   | true =>
    obtain ⟨e,he,ee⟩:=List.mem_map.1 (Ch.mem_has p)
    injection ee with e1 _
    have:=((ents_mem h.rise q).1 he).1
    rw [e1,z] at this; cases this
  rw [Ch.of_no hn]
  refine ⟨rfl,?_⟩
  have e:atL (L.of k) q=Ver.Z:=by unfold atL; rw [z]; rfl
  rw [e]; rfl
theorem load_ents {L:Ch} {q:Int} (h:OkL L q) (hq:q<=1073741824):(loadL (L.ents q)).ents q=L.ents q:=by
 obtain ⟨h1,h2,_⟩:=ents_may h
 have o:=(OkL.load h1 h2 hq).1
 refine eq_of_mem (ents_rise o.rise q) (ents_rise h.rise q) fun e=>?_
 rw [ents_mem o.rise,ents_mem h.rise,(load_at h hq e.key).1,(load_at h hq e.key).2]
theorem load_live {L:Ch} {q:Int} (h:OkL L q) (hq:q<=1073741824):(loadL (L.ents q)).live=L.live:=by
 obtain ⟨h1,h2,_⟩:=ents_may h
 rw [live_ents (OkL.load h1 h2 hq).1.le,live_ents h.le,load_ents h hq]
theorem load_vers (l:List En):(loadL l).vers=l.length:=by
 unfold Ch.vers loadL
 rw [List.map_map]
 induction l with
 | nil=>rfl
 | cons x l ih=>rw [List.map_cons,List.sum_cons,ih,List.length_cons]; show 1+_=_; omega

end Go.Proofs.YtbfgpdgiaclphaaGreat

namespace Go.Proofs.YtbfgpdgiaclphaaGreat
open Go.RowKit

structure Rm where
 zs:List Int
 quota:Int
 most:Int
 r:Rg
 L:Ch
namespace Rm
structure Ok (m:Rm):Prop where
 st:stOk m.zs m.r.size m.quota m.most=true
 r:m.r.Ok
 L:OkL m.L (m.r.seq:Int)
 seq:(m.r.seq:Int)<=m.most
 live:(m.L.live:Int)<=m.quota
def Few (m:Rm):Prop:=Bnd m.L 3900 500∧m.r.l.length<=500
def floor (m:Rm):Int:=(m.r.floor:Int)
def seq (m:Rm):Int:=(m.r.seq:Int)
def chk (m:Rm) (ws:List Wr) (s:Int):Int:=chkE m.r m.L ws s m.quota m.most
def comE (m:Rm) (ws:List Wr) (x:Int):Int:=Go.Proofs.YtbfgpdgiaclphaaGreat.comE m.r m.L ws x m.quota m.most
def comN (m:Rm) (ws:List Wr) (x:Int):Int:=Go.Proofs.YtbfgpdgiaclphaaGreat.comN m.r m.L ws x m.quota m.most
def com (m:Rm) (ws:List Wr) (x:Int):Rm:=⟨m.zs,m.quota,m.most,comR m.r m.L ws x m.quota m.most,comL m.r m.L ws x m.quota m.most⟩
def sw (m:Rm):Rm:=⟨m.zs,m.quota,m.most,m.r,m.L.swept m.floor⟩
def gone (m:Rm):Int:=(m.L.vers:Int)-((m.L.swept m.floor).vers:Int)
def ents (m:Rm):List En:=m.L.ents m.seq
def new (zs:List Int) (g1 g2 g3 sq:Int) (L:Ch):Rm:=⟨zs,g2,g3,⟨g1.toNat,sq.toNat,[]⟩,L⟩
end Rm
abbrev RelM:=World->Nat->(Nat->Prop)->Rm->Prop
def LeftM (R:RelM) (b:Nat) (F:Nat->Prop) (w:World) (m:Rm) (w':World):Prop:=Chg F w w'∧∃ F',R w' b F' m∧∀ k,F' k->F k∨w.heap.size<=k
abbrev PtrM (b:Nat):Value:=.pointer (some ⟨b,0,none⟩)
def GoodW (w:World) (F:Nat->Prop) (A:Option Addr) (ws:List Wr):Prop:=SlWr w A ws∧FitsW ws∧ws.length<=1000∧(0<ws.length->∀ a,A=some a->¬ F a.block)∧∀ x,x ∈ ws->x.key.size<=1000∧x.val.txt.size<=1000
structure RoomLo (R:RelM):Prop where
 keep:∀ {w w':World} {b:Nat} {F:Nat->Prop} {m:Rm},R w b F m->(∀ k,F k->w'.heap[k]?=w.heap[k]?)->w.heap.size<=w'.heap.size->R w' b F m
 lt:∀ {w:World} {b:Nat} {F:Nat->Prop} {m:Rm} {k:Nat},R w b F m->F k->k<w.heap.size
 ok:∀ {w:World} {b:Nat} {F:Nat->Prop} {m:Rm},R w b F m->m.Ok
 new:∀ (A:Option Addr) (c:Nat) (zs:List Int) (g1 g2 g3:Int) (w:World),Sl w A zs->zs.length<=1000->La.U64 zs →
  Calls Tryz.prog 11 #[.agg #[.slice A zs.length c,.int .i64 g1,.int .i64 g2,.int .i64 g3]] w fun e w'=>Below w.heap.size w w' ∧
   ((stOk zs g1 g2 g3=true∧∃ b F,e=.returned (.tuple #[PtrM b,.int .i64 0])∧R w' b F (Rm.new zs g1 g2 g3 0 [])∧∀ k,F k->w.heap.size<=k) ∨
    (stOk zs g1 g2 g3=false∧e=.returned (.tuple #[.pointer none,.int .i64 1])))
 load:∀ (A:Option Addr) (c:Nat) (zs:List Int) (g1 g2 g3 sq:Int) (l:List En) (A2:Option Addr) (c2:Nat) (w:World),Sl w A zs->zs.length<=1000->La.U64 zs->SlEn w A2 l->FitsE l->l.length<=3900 →
  Calls Tryz.prog 38 #[.agg #[.slice A zs.length c,.int .i64 g1,.int .i64 g2,.int .i64 g3],.int .i64 sq,.slice A2 l.length c2] w fun e w'=>Below w.heap.size w w' ∧
   ((ldE zs g1 g2 g3 sq l≠0∧e=.returned (.tuple #[.pointer none,.int .i64 (ldE zs g1 g2 g3 sq l)])) ∨
    (ldE zs g1 g2 g3 sq l=0∧∃ b F,e=.returned (.tuple #[PtrM b,.int .i64 0])∧R w' b F (Rm.new zs g1 g2 g3 sq (loadL l))∧∀ k,F k->w.heap.size<=k))
 seq:∀ (b:Nat) (F:Nat->Prop) (m:Rm) (w:World),R w b F m->Calls Tryz.prog 27 #[PtrM b] w fun e w'=>e=.returned (.int .i64 m.seq)∧LeftM R b F w m w'
 floor:∀ (b:Nat) (F:Nat->Prop) (m:Rm) (w:World),R w b F m->Calls Tryz.prog 29 #[PtrM b] w fun e w'=>e=.returned (.int .i64 m.floor)∧LeftM R b F w m w'
 get:∀ (b:Nat) (F:Nat->Prop) (m:Rm) (k:ByteArray) (s:Int) (w:World),R w b F m->m.Few->k.size<=1000 →
  Calls Tryz.prog 30 #[PtrM b,.string k,.int .i64 s] w fun e w'=>e=.returned (.tuple #[(atL (m.L.of k) s).val.v,.bool (atOk (m.L.of k) s)])∧LeftM R b F w m w'
 check:∀ (b:Nat) (F:Nat->Prop) (m:Rm) (ws:List Wr) (A:Option Addr) (c:Nat) (s:Int) (w:World),R w b F m->m.Few->GoodW w F A ws →
  Calls Tryz.prog 32 #[PtrM b,.slice A ws.length c,.int .i64 s] w fun e w'=>e=.returned (.int .i64 (m.chk ws s))∧LeftM R b F w m w'
 commit:∀ (b:Nat) (F:Nat->Prop) (m:Rm) (ws:List Wr) (A:Option Addr) (c:Nat) (x:Int) (w:World),R w b F m->m.Few->GoodW w F A ws->0<=x->x<=18446744073709551615 →
  Calls Tryz.prog 26 #[PtrM b,.slice A ws.length c,.int .u64 x] w fun e w'=>e=.returned (.tuple #[.int .i64 (m.comN ws x),.int .i64 (m.comE ws x)])∧LeftM R b F w (m.com ws x) w'
 sweep:∀ (b:Nat) (F:Nat->Prop) (m:Rm) (w:World),R w b F m->m.Few->Calls Tryz.prog 28 #[PtrM b] w fun e w'=>e=.returned (.int .i64 m.gone)∧LeftM R b F w m.sw w'
 live:∀ (b:Nat) (F:Nat->Prop) (m:Rm) (w:World),R w b F m->m.Few->Calls Tryz.prog 33 #[PtrM b] w fun e w'=>e=.returned (.int .i64 (m.L.live:Nat))∧LeftM R b F w m w'
 keys:∀ (b:Nat) (F:Nat->Prop) (m:Rm) (w:World),R w b F m->m.Few->Calls Tryz.prog 34 #[PtrM b] w fun e w'=>e=.returned (.int .i64 (m.ents.length:Nat))∧LeftM R b F w m w'
 vers:∀ (b:Nat) (F:Nat->Prop) (m:Rm) (w:World),R w b F m->m.Few->Calls Tryz.prog 35 #[PtrM b] w fun e w'=>e=.returned (.int .i64 (m.L.vers:Nat))∧LeftM R b F w m w'
 entries:∀ (b:Nat) (F:Nat->Prop) (m:Rm) (w:World),R w b F m->m.Few →
  Calls Tryz.prog 37 #[PtrM b] w fun e w'=>(∃ A c,e=.returned (.slice A m.ents.length c)∧SlEn w' A m.ents∧(0<m.ents.length->∃ g o,A=some ⟨g,o,none⟩∧w.heap.size<=g))∧Below w.heap.size w w'
structure RoomSw (R:RelM):Prop extends RoomLo R where
 after:∀ (b:Nat) (F:Nat->Prop) (m:Rm) (k:ByteArray) (s:Int) (w:World),R w b F m->m.Few->k.size<=1000 →
  Calls Tryz.prog 31 #[PtrM b,.string k,.int .i64 s] w fun e w'=>e=.returned (.tuple #[.string (aftV m.L k true s).1,(aftV m.L k true s).2.1.v,.bool (aftV m.L k true s).2.2])∧LeftM R b F w m w'
structure RoomAt (R:RelM):Prop extends RoomSw R where
 right:∀ (A:Option Addr) (c:Nat) (zs:List Int) (g1 g2 g3:Int) (w:World),Sl w A zs->zs.length<=1000->La.U64 zs →
  Calls Tryz.prog 12 #[.agg #[.slice A zs.length c,.int .i64 g1,.int .i64 g2,.int .i64 g3]] w fun e w'=>e=.returned (.bool (stOk zs g1 g2 g3))∧Below w.heap.size w w'
 may:∀ (ws:List Wr) (A:Option Addr) (c:Nat) (w:World),GoodW w (fun _=>False) A ws->Calls Tryz.prog 18 #[.slice A ws.length c] w fun e w'=>e=.returned (.bool (mayW ws))∧Below w.heap.size w w'
 setting:∀ (b:Nat) (F:Nat->Prop) (m:Rm) (w:World),R w b F m →
  Calls Tryz.prog 24 #[PtrM b] w fun e w'=>(∃ A c,e=.returned (.agg #[.slice A m.zs.length c,.int .i64 (m.r.size:Nat),.int .i64 m.quota,.int .i64 m.most])∧Sl w' A m.zs)∧LeftM R b F w m w'
 asOf:∀ (b:Nat) (F:Nat->Prop) (m:Rm) (x:Int) (w:World),R w b F m->m.Few->0<=x->x<=18446744073709551615 →
  Calls Tryz.prog 16 #[PtrM b,.int .u64 x] w fun e w'=>e=.returned (.tuple #[.int .i64 (m.r.asOf x:Nat),.int .i64 (m.r.asNo x)])∧LeftM R b F w m w'
 seek:∀ (b:Nat) (F:Nat->Prop) (m:Rm) (k:ByteArray) (s:Int) (w:World),R w b F m->m.Few->k.size<=1000 →
  Calls Tryz.prog 40 #[PtrM b,.string k,.int .i64 s] w fun e w'=>e=.returned (.tuple #[.string (aftV m.L k false s).1,(aftV m.L k false s).2.1.v,.bool (aftV m.L k false s).2.2])∧LeftM R b F w m w'
 nil_:∀ (ws:List Wr) (A:Option Addr) (c:Nat) (k:ByteArray) (s x:Int) (w:World),
  (Calls Tryz.prog 24 #[.pointer none] w fun e w'=>(∃ A c,e=.returned (.agg #[.slice A 0 c,.int .i64 0,.int .i64 0,.int .i64 0]))∧Below w.heap.size w w') ∧
  (Calls Tryz.prog 27 #[.pointer none] w fun e w'=>e=.returned (.int .i64 0)∧Below w.heap.size w w') ∧
  (Calls Tryz.prog 29 #[.pointer none] w fun e w'=>e=.returned (.int .i64 0)∧Below w.heap.size w w') ∧
  (Calls Tryz.prog 16 #[.pointer none,.int .u64 x] w fun e w'=>e=.returned (.tuple #[.int .i64 0,.int .i64 2])∧Below w.heap.size w w') ∧
  (Calls Tryz.prog 30 #[.pointer none,.string k,.int .i64 s] w fun e w'=>e=.returned (.tuple #[Val.V0.v,.bool false])∧Below w.heap.size w w') ∧
  (Calls Tryz.prog 31 #[.pointer none,.string k,.int .i64 s] w fun e w'=>e=.returned (.tuple #[.string ⟨#[]⟩,Val.V0.v,.bool false])∧Below w.heap.size w w') ∧
  (Calls Tryz.prog 40 #[.pointer none,.string k,.int .i64 s] w fun e w'=>e=.returned (.tuple #[.string ⟨#[]⟩,Val.V0.v,.bool false])∧Below w.heap.size w w') ∧
  (Calls Tryz.prog 32 #[.pointer none,.slice A ws.length c,.int .i64 s] w fun e w'=>e=.returned (.int .i64 2)∧Below w.heap.size w w') ∧
  (Calls Tryz.prog 26 #[.pointer none,.slice A ws.length c,.int .u64 x] w fun e w'=>e=.returned (.tuple #[.int .i64 0,.int .i64 2])∧Below w.heap.size w w') ∧
  (Calls Tryz.prog 28 #[.pointer none] w fun e w'=>e=.returned (.int .i64 0)∧Below w.heap.size w w') ∧
  (Calls Tryz.prog 33 #[.pointer none] w fun e w'=>e=.returned (.int .i64 0)∧Below w.heap.size w w') ∧
  (Calls Tryz.prog 34 #[.pointer none] w fun e w'=>e=.returned (.int .i64 0)∧Below w.heap.size w w') ∧
  (Calls Tryz.prog 35 #[.pointer none] w fun e w'=>e=.returned (.int .i64 0)∧Below w.heap.size w w') ∧
  (Calls Tryz.prog 37 #[.pointer none] w fun e w'=>(∃ A c,e=.returned (.slice A 0 c))∧Below w.heap.size w w')
theorem RoomAt.lo {R:RelM} (X:RoomAt R):RoomLo R:=X.toRoomSw.toRoomLo
instance {R:RelM}:Coe (RoomSw R) (RoomLo R):=⟨fun X=>X.toRoomLo⟩
instance {R:RelM}:Coe (RoomAt R) (RoomLo R):=⟨fun X=>X.lo⟩

theorem RoomLo.entriesL {R:RelM} (X:RoomLo R) (b:Nat) (F:Nat->Prop) (m:Rm) (w:World) (h:R w b F m) (hf:m.Few) :
  Calls Tryz.prog 37 #[PtrM b] w fun e w'=>(∃ A c,e=.returned (.slice A m.ents.length c)∧SlEn w' A m.ents∧(0<m.ents.length->∃ g o,A=some ⟨g,o,none⟩∧w.heap.size<=g))∧LeftM R b F w m w' :=
 (X.entries b F m w h hf).mono fun _ _ ⟨h1,hb⟩=>⟨h1,Chg.of_below hb,F,X.keep h (fun k e=>hb.block k (X.lt h e)) hb.size,fun _ e=>.inl e⟩
def obP {R:RelM} (X:RoomLo R) (b:Nat) (m:Rm):Ob:=⟨fun w F=>R w b F m,fun h hk hs=>X.keep h hk hs,fun h e=>X.lt h e⟩
def RefM (w:World) (p:Nat) (F:Nat->Prop) (m:Rm):Prop :=
 ∃ q v lb G A c,(∀ k,F k↔(k=p∨rfoot q v k∨G k))∧RoomG w p q v lb m.quota m.most m.r G A c m.L∧SepR p q v G
theorem RefM.keep {w w':World} {p:Nat} {F:Nat->Prop} {m:Rm} (h:RefM w p F m) (hk:∀ k,F k->w'.heap[k]?=w.heap[k]?) (hs:w.heap.size<=w'.heap.size):RefM w' p F m:=by
 obtain ⟨q,v,lb,G,A,c,hF,hr,sp⟩:=h
 exact ⟨q,v,lb,G,A,c,hF,⟨(hk p ((hF p).2 (.inl rfl))).trans hr.row,hr.ring.keep fun k e=>hk k ((hF k).2 (.inr (.inl e))),hr.sl.keep (fun k e=>hk k ((hF k).2 (.inr (.inr e)))) hs,fun x e=>Nat.lt_of_lt_of_le (hr.lt x e) hs⟩,sp⟩
theorem RefM.lt {w:World} {p:Nat} {F:Nat->Prop} {m:Rm} {k:Nat} (h:RefM w p F m) (e:F k):k<w.heap.size:=by
 obtain ⟨q,v,lb,G,A,c,hF,hr,sp⟩:=h
 rcases (hF k).1 e with e | e | e
 ·rw [e]; exact hr.row.lt
 ·exact hr.ring.lt k e
 ·exact hr.lt k e
def obM (p:Nat) (m:Rm):Ob:=⟨fun w F=>RefM w p F m,fun h hk hs=>h.keep hk hs,fun h e=>h.lt e⟩
theorem LeftR1.leftM {w w':World} {p q:Nat} {v lb:Value} {m:Rm} {G:Nat->Prop} {r:Rg} {L:Ch} {F:Nat->Prop} (hF:∀ k,F k↔(k=p∨rfoot q v k∨G k)) (h:LeftR1 w p q v lb m.quota m.most G r L w') :
  LeftM RefM p F w ⟨m.zs,m.quota,m.most,r,L⟩ w':=by
 obtain ⟨c,v',G',A',c',hr,sp,h1,h2⟩:=h
 refine ⟨c.mono fun k e=>(hF k).2 (e.imp id fun e=>.inl e),fun k=>k=p∨rfoot q v' k∨G' k,⟨q,v',lb,G',A',c',fun k=>Iff.rfl,hr,sp⟩,fun k e=>?_⟩
 rcases e with e | e | e
 ·exact .inl ((hF k).2 (.inl e))
 ·rcases h1 k e with z | z
  ·exact .inl ((hF k).2 (.inr (.inl z)))
  ·exact .inr z
 ·rcases h2 k e with z | z
  ·exact .inl ((hF k).2 (.inr (.inr z)))
  ·exact .inr z
theorem RefM.same {w w':World} {p:Nat} {F:Nat->Prop} {m:Rm} (h:RefM w p F m) (hb:Below w.heap.size w w'):LeftM RefM p F w m w' :=
 ⟨Chg.of_below hb,F,h.keep (fun k e=>hb.block k (h.lt e)) hb.size,fun _ e=>.inl e⟩

end Go.Proofs.YtbfgpdgiaclphaaGreat

namespace Go.Proofs.YtbfgpdgiaclphaaGreat
open Go.RowKit

theorem bool_yes {b:Bool} (h:¬ b=false):b=true:=by cases b<;>simp at h ⊢
namespace Rm
variable {m:Rm} {ws:List Wr} {x:Int} {K N:Nat}
theorem st_parts {zs:List Int} {g1 g2 g3:Int} (h:stOk zs g1 g2 g3=true):1<=g1∧g1<=16∧0<=g2∧1<=g3∧g3<=1073741824:=by
 unfold stOk at h
 simp only [Bool.and_eq_true,decide_eq_true_eq] at h
 omega
theorem new_r {g1 sq:Int} (h1:1<=g1) (h2:g1<=16) (h3:0<=sq) (h4:sq<=1073741824):Rg.Ok ⟨g1.toNat,sq.toNat,[]⟩ :=
 ⟨by show 1<=g1.toNat; omega,by show g1.toNat<=16; omega,by show sq.toNat+0<=_; omega,fun i j _ hj=>(by cases hj),fun i hi=>(by cases hi)⟩
theorem ok_new {zs:List Int} {g1 g2 g3:Int} (h:stOk zs g1 g2 g3=true):(Rm.new zs g1 g2 g3 0 []).Ok:=by
 obtain ⟨h1,h2,h3,h4,h5⟩:=st_parts h
 refine ⟨?_,new_r h1 h2 (Int.le_refl _) (by decide),OkL.nil _,?_,?_⟩
 ·show stOk zs ((g1.toNat:Nat):Int) g2 g3=true
  rw [Int.toNat_of_nonneg (by omega)]; exact h
 ·show ((0:Nat):Int)<=g3; omega
 ·show ((0:Nat):Int)<=g2; omega
theorem few_new (zs:List Int) (g1 g2 g3:Int):Bnd (Rm.new zs g1 g2 g3 0 []).L 0 0:=⟨Nat.le_refl _,fun _=>Nat.le_refl _⟩
theorem ld_parts {zs:List Int} {g1 g2 g3 sq:Int} {l:List En} (h:ldE zs g1 g2 g3 sq l=0):stOk zs g1 g2 g3=true∧0<=sq∧sq<=g3∧mayE l sq=true∧((loadL l).live:Int)<=g2:=by
 unfold ldE at h
 split at h
 ·cases h
 ·rename_i z
  split at h
  ·cases h
  ·rename_i y
   split at h
   ·cases h
   ·rename_i u
    have z:=bool_yes z
    simp only [Bool.and_eq_true,decide_eq_true_eq] at z
    exact ⟨z.1,z.2.1,z.2.2,bool_yes y,by omega⟩
theorem ok_load {zs:List Int} {g1 g2 g3 sq:Int} {l:List En} (h:ldE zs g1 g2 g3 sq l=0) (hf:FitsE l):(Rm.new zs g1 g2 g3 sq (loadL l)).Ok∧Bnd (loadL l) l.length 1:=by
 obtain ⟨h0,q0,q1,hm,hl⟩:=ld_parts h
 obtain ⟨h1,h2,h3,h4,h5⟩:=st_parts h0
 obtain ⟨o,b⟩:=OkL.load hm hf (by omega)
 refine ⟨⟨?_,new_r h1 h2 q0 (by omega),?_,?_,hl⟩,b⟩
 ·show stOk zs ((g1.toNat:Nat):Int) g2 g3=true
  rw [Int.toNat_of_nonneg (by omega)]; exact h0
 ·show OkL (loadL l) (((sq.toNat+0:Nat)):Int)
  rw [show (((sq.toNat+0:Nat)):Int)=sq by omega]; exact o
 ·show (((sq.toNat+0:Nat)):Int)<=g3; omega
theorem com_yes (h:m.comE ws x=0):mayW ws=true∧(m.r.seq:Int)<m.most∧((m.L.withW ws ((m.r.seq:Int)+1)).live:Int)<=m.quota∧m.r.no x=0 ∧
  m.com ws x=⟨m.zs,m.quota,m.most,m.r.push x,m.L.withW ws ((m.r.seq:Int)+1)⟩∧m.comN ws x=(m.r.seq:Int)+1:=by
 have e:=h
 unfold Rm.comE at e
 have ec:m.com ws x=⟨m.zs,m.quota,m.most,m.r.push x,m.L.withW ws ((m.r.seq:Int)+1)⟩:=by unfold Rm.com comR comL; rw [if_pos e,if_pos e]
 have en:m.comN ws x=(m.r.seq:Int)+1:=by unfold Rm.comN Go.Proofs.YtbfgpdgiaclphaaGreat.comN; rw [if_pos e]
 unfold Go.Proofs.YtbfgpdgiaclphaaGreat.comE at e
 split at e
 ·cases e
 ·rename_i z
  split at e
  ·rename_i y; exact absurd e y
  ·rename_i y
   have y:spcE m.r m.L ws m.quota m.most=0:=Classical.byContradiction y
   unfold spcE at y
   split at y
   ·cases y
   ·rename_i u
    split at y
    ·cases y
    ·rename_i t
     exact ⟨bool_yes z,by omega,by omega,e,ec,en⟩
theorem com_no (h:m.comE ws x≠0):m.com ws x=m∧m.comN ws x=0:=by
 unfold Rm.comE at h
 constructor
 ·unfold Rm.com comR comL; rw [if_neg h,if_neg h]
 ·unfold Rm.comN Go.Proofs.YtbfgpdgiaclphaaGreat.comN; rw [if_neg h]
theorem push_seq {r:Rg} (h:r.no x=0):(r.push x).seq=r.seq+1:=by
 unfold Rg.push
 rw [if_pos h]
 show r.beg+(r.l++[x]).length=r.beg+r.l.length+1
 rw [List.length_append,List.length_singleton]; omega
theorem ok_com (h:m.Ok) (hb:Bnd m.L K N) (hf:FitsW ws):(m.com ws x).Ok∧Bnd (m.com ws x).L (K+16) (N+1)∧(m.com ws x).r.l.length<=m.r.l.length+1:=by
 by_cases e:m.comE ws x=0
 ·obtain ⟨h1,h2,h3,h4,h5,_⟩:=com_yes e
  have sq:=h.r.sq
  have st:=st_parts h.st
  obtain ⟨o,b⟩:=OkL.with (ws:=ws) h.L hb (by omega) (by omega) h1 hf
  rw [h5]
  refine ⟨⟨?_,Rg.push_ok h.r x,?_,?_,h3⟩,b,Rg.push_len m.r x⟩
  ·show stOk m.zs ((m.r.push x).size:Int) m.quota m.most=true
   rw [Rg.push_size]; exact h.st
  ·show OkL _ (((m.r.push x).seq:Nat):Int)
   rw [push_seq h4]; exact o
  ·show (((m.r.push x).seq:Nat):Int)<=m.most
   rw [push_seq h4]; omega
 ·rw [(com_no e).1]
  exact ⟨h,hb.mono (by omega) (by omega),by omega⟩
theorem floor_seq (h:m.r.Ok):m.floor<=m.seq:=by
 have:=h.s1
 unfold Rm.floor Rm.seq Rg.floor Rg.seq
 omega
theorem sw_live (h:m.Ok):m.sw.L.live=m.L.live:=by
 show (m.L.swept m.floor).live=_
 have hs:Sim m.L (m.L.swept m.floor) m.floor:=fun k=>⟨m.floor,Int.le_refl _,Ch.of_swept h.L.rise m.floor⟩
 exact (hs.live h.L (h.L.swept m.floor) (floor_seq h.r)).symm
theorem ok_sw (h:m.Ok) (hb:Bnd m.L K N):m.sw.Ok∧Bnd m.sw.L K N :=
 ⟨⟨h.st,h.r,h.L.swept m.floor,h.seq,by rw [sw_live h]; exact h.live⟩,hb.swept h.L.rise m.floor⟩
theorem good (h:m.Ok) (hb:m.Few):GoodC m.L:=h.L.good hb.1 (by decide) (by decide)
theorem goods (h:m.Ok) (hb:m.Few) (hf:FitsW ws):mayW ws=true->(m.r.seq:Int)<m.most->∀ i,i<=ws.length->GoodC (m.L.withW (ws.take i) ((m.r.seq:Int)+1))∧(m.L.withW (ws.take i) ((m.r.seq:Int)+1)).length<=10000:=fun hm hs=>by
 have st:=st_parts h.st
 exact h.L.goods hb.1 (by omega) (by omega) hm hf (by decide) (by decide)
end Rm

section
variable {w0 w:World} {N:Nat->Prop} {os:List Ob} {i:Nat} {p:Nat} {m:Rm} {T:Ending->World->Prop}
theorem mSeq (h:Side w0 N w os) (hi:os[i]?=some (obM p m)) (ok:m.Ok):Calls Tryz.prog 22 #[PtrM p] w fun e w'=>e=.returned (.int .i64 m.seq)∧Side w0 N w' os:=by
 obtain ⟨F,q,v,lb,G,A,c,hF,hr,sp⟩:=h.get hi
 exact (rSeq1 p q v lb _ _ _ _ m.r w hr.row hr.ring ok.r).mono fun e w' ⟨he,n,hw⟩=>⟨he,by rw [hw]; exact h.below (below_drewN (Below.refl _ _) n)⟩
theorem mFloor (h:Side w0 N w os) (hi:os[i]?=some (obM p m)) (ok:m.Ok):Calls Tryz.prog 72 #[PtrM p] w fun e w'=>e=.returned (.int .i64 m.floor)∧Side w0 N w' os:=by
 obtain ⟨F,q,v,lb,G,A,c,hF,hr,sp⟩:=h.get hi
 exact (rFloor1 p q v lb _ _ _ m.r w hr.row hr.ring ok.r).mono fun e w' ⟨he,n,hw⟩=>⟨he,by rw [hw]; exact h.below (below_drewN (Below.refl _ _) n)⟩
theorem mVers (h:Side w0 N w os) (hi:os[i]?=some (obM p m)) (ok:m.Ok) (hb:m.Few):Calls Tryz.prog 74 #[PtrM p] w fun e w'=>e=.returned (.int .i64 (m.L.vers:Nat))∧Side w0 N w' os:=by
 obtain ⟨F,q,v,lb,G,A,c,hF,hr,sp⟩:=h.get hi
 exact (rVers1 p G A c m.L w hr.c5 hr.sl (Rm.good ok hb)).mono fun e w' ⟨he,hw⟩=>⟨he,by rw [hw]; exact h⟩
theorem mLive (h:Side w0 N w os) (hi:os[i]?=some (obM p m)) (ok:m.Ok) (hb:m.Few):Calls Tryz.prog 73 #[PtrM p] w fun e w'=>e=.returned (.int .i64 (m.L.live:Nat))∧Side w0 N w' os:=by
 obtain ⟨F,q,v,lb,G,A,c,hF,hr,sp⟩:=h.get hi
 exact (rLive1 p G A c m.L w hr.c5 hr.sl (Rm.good ok hb)).mono fun e w' ⟨he,hw⟩=>⟨he,h.below hw⟩
theorem mEntries (h:Side w0 N w os) (hi:os[i]?=some (obM p m)) (ok:m.Ok) (hb:m.Few):Calls Tryz.prog 75 #[PtrM p] w fun e w'=>(∃ A c,e=.returned (.slice A m.ents.length c)∧SlEn w' A m.ents∧Below w.heap.size w w')∧Side w0 N w' os:=by
 obtain ⟨F,q,v,lb,G,A,c,hF,hr,sp⟩:=h.get hi
 exact (rEntries1 p q v lb _ _ m.r G A c m.L w hr ok.r (Rm.good ok hb) (Nat.le_trans hb.1.1 (by decide))).mono fun e w' ⟨A',c',he,hs,hw⟩=>⟨⟨A',c',he,hs,hw⟩,h.below hw⟩
theorem mCheck (h:Side w0 N w os) (hi:os[i]?=some (obM p m)) (ok:m.Ok) (hb:m.Few) (ws:List Wr) (A:Option Addr) (c:Nat) (s:Int) (hw:SlWr w A ws) (hf:FitsW ws) (hl:ws.length<=1000) :
  Calls Tryz.prog 67 #[PtrM p,.slice A ws.length c,.int .i64 s] w fun e w'=>e=.returned (.int .i64 (m.chk ws s))∧Side w0 N w' os:=by
 obtain ⟨F,q,v,lb,G,A',c',hF,hr,sp⟩:=h.get hi
 exact (rCheck1 p q v lb _ _ m.r G A' c' m.L A c ws s w hr ok.r hw hf (Rm.good ok hb) hl (Rm.goods ok hb hf)).mono fun e w' ⟨he,hw⟩=>⟨he,h.below hw⟩
theorem mCommit (h:Side w0 N w os) (hi:os[i]?=some (obM p m)) (ok:m.Ok) (hb:m.Few) (ws:List Wr) (A:Option Addr) (c:Nat) (x:Int) (hw:SlWr w A ws) (hf:FitsW ws) (hl:ws.length<=1000) (hA:0<ws.length->∀ a,A=some a->N a.block) :
  Calls Tryz.prog 65 #[PtrM p,.slice A ws.length c,.int .u64 x] w fun e w'=>e=.returned (.tuple #[.int .i64 (m.comN ws x),.int .i64 (m.comE ws x)])∧Side w0 N w' (os.set i (obM p (m.com ws x))) :=
 h.call hi fun F hP hn=>by
  obtain ⟨q,v,lb,G,A',c',hF,hr,sp⟩:=hP
  exact (rCommit1 p q v lb _ _ m.r G A' c' m.L A c ws x w hr sp ok.r (by have:=hb.2; omega) hw (fun hp a e f=>hn _ ((hF _).2 (.inr (.inl f))) (hA hp a e)) hf hl (Rm.goods ok hb hf)).mono fun e w' ⟨he,hl⟩=>⟨he,LeftR1.leftM hF hl⟩
theorem mSweep (h:Side w0 N w os) (hi:os[i]?=some (obM p m)) (ok:m.Ok) (hb:m.Few) (hv:m.L.vers<=1000000) :
  Calls Tryz.prog 66 #[PtrM p] w fun e w'=>e=.returned (.int .i64 m.gone)∧Side w0 N w' (os.set i (obM p m.sw)) :=
 h.call hi fun F hP hn=>by
  obtain ⟨q,v,lb,G,A',c',hF,hr,sp⟩:=hP
  exact (rSweep1 p q v lb _ _ m.r G A' c' m.L w hr sp ok.r (Rm.good ok hb) hv (Nat.le_trans hb.1.1 (by decide))).mono fun e w' ⟨he,hl⟩=>⟨he,LeftR1.leftM hF hl⟩
theorem pCall {R:RelM} (X:RoomLo R) {f:FuncId} {args:Array Value} {b:Nat} {m':Rm} (h:Side w0 N w os) (hi:os[i]?=some (obP X b m))
  (hc:∀ F,R w b F m->(∀ k,F k->¬ N k)->Calls Tryz.prog f args w fun e w'=>T e w'∧LeftM R b F w m' w'):Calls Tryz.prog f args w fun e w'=>T e w'∧Side w0 N w' (os.set i (obP X b m')) :=
 h.call hi fun F hP hn=>(hc F hP hn).mono fun _ _ ⟨t,c,F',hr,hk⟩=>⟨t,c,F',hr,hk⟩
theorem pAsk {R:RelM} (X:RoomLo R) {f:FuncId} {args:Array Value} {b:Nat} (h:Side w0 N w os) (hi:os[i]?=some (obP X b m))
  (hc:∀ F,R w b F m->(∀ k,F k->¬ N k)->Calls Tryz.prog f args w fun e w'=>T e w'∧LeftM R b F w m w'):Calls Tryz.prog f args w fun e w'=>T e w'∧Side w0 N w' os:=by
 have:=pCall X h hi hc
 rwa [set_same hi] at this
theorem pOk {R:RelM} (X:RoomLo R) {b:Nat} (h:Side w0 N w os) (hi:os[i]?=some (obP X b m)):m.Ok:=by
 obtain ⟨F,hP⟩:=h.get hi
 exact X.ok hP
end

end Go.Proofs.YtbfgpdgiaclphaaGreat

namespace Go.Proofs.YtbfgpdgiaclphaaGreat
open Go.RowKit

structure Ac where
 kind:Int
 ws:List Wr
 by_:Int
 seq:Int
 key:ByteArray
def stepM (m:Rm) (a:Ac) (x:Int):Rm:=if a.kind=1 then m.com a.ws (x+a.by_) else if a.kind=2 then m.sw else m
def stepX (m:Rm) (a:Ac) (x:Int):Int:=if a.kind=1 then (if m.comE a.ws (x+a.by_)=0 then x+a.by_ else x) else x

theorem set_back {os:List Ob} {r A B C:Ob} {i j l:Nat} (hi:i<os.length) (hj:j<os.length) (hl:l<os.length):(((os++[r]).set i A).set j B).set l C=(((os.set i A).set j B).set l C)++[r]:=by
 rw [List.set_append_left _ _ hi,List.set_append_left _ _ (by rw [List.length_set]; exact hj),List.set_append_left _ _ (by rw [List.length_set,List.length_set]; exact hl)]
theorem set_get {os:List Ob} {o u:Ob} {i j:Nat} (h:os[j]?=some o) (ij:i≠j):(os.set i u)[j]?=some o:=by rw [List.getElem?_set_ne ij]; exact h
theorem stepM_1 (m:Rm) (a:Ac) (x:Int) (h:a.kind=1):stepM m a x=m.com a.ws (x+a.by_):=by unfold stepM; rw [if_pos h]
theorem stepM_2 (m:Rm) (a:Ac) (x:Int) (h:a.kind=2):stepM m a x=m.sw:=by unfold stepM; rw [if_neg (by omega),if_pos h]
theorem stepM_0 (m:Rm) (a:Ac) (x:Int) (h:a.kind≠1) (h2:a.kind≠2):stepM m a x=m:=by unfold stepM; rw [if_neg h,if_neg h2]
theorem stepX_0 (m:Rm) (a:Ac) (x:Int) (h:a.kind≠1):stepX m a x=x:=by unfold stepX; rw [if_neg h]

theorem lDoes {R:RelM} (X:RoomLo R) {w0 w:World} {N:Nat->Prop} {os:List Ob} {i j l b p g:Nat} {m:Rm} {x:Int} (h:Side w0 N w os) (hi:os[i]?=some (obP X b m)) (hj:os[j]?=some (obM p m)) (hl:os[l]?=some (Ob.row g [.int .u64 x] 26))
  (ij:i≠j) (il:i≠l) (jl:j≠l) (hb:m.Few) (hv:m.L.vers<=1000000) (a:Ac) (A:Option Addr) (c:Nat) (hN:∀ k,k<w0.heap.size->N k)
  (hw:SlWr w0 A a.ws) (hf:FitsW a.ws) (hn:a.ws.length<=1000) (hk:∀ y,y ∈ a.ws->y.key.size<=1000∧y.val.txt.size<=1000) (hA:0<a.ws.length->∀ q,A=some q->q.block<w0.heap.size) (x0:0<=x) (y0:0<=a.by_) (y1:a.by_<=255) (x1:x<=1000000) :
  Calls Tryz.prog 20 #[PtrM b,PtrM p,.agg #[.int .i64 a.kind,.slice A a.ws.length c,.int .u8 a.by_,.int .i64 a.seq,.string a.key],.pointer (some ⟨g,0,none⟩)] w fun e w'=>e=.returned (.bool true) ∧
   Side w0 N w' (((os.set i (obP X b (stepM m a x))).set j (obM p (stepM m a x))).set l (Ob.row g [.int .u64 (stepX m a x)] 26)):=by
 have ok:=pOk X h hi
 have li:=(List.getElem?_eq_some_iff.1 hi).1
 have lj:=(List.getElem?_eq_some_iff.1 hj).1
 have ll:=(List.getElem?_eq_some_iff.1 hl).1
 have SW:=qh (fun W os' (h:Side w0 N W os')=>show SlWr W A a.ws from hw.below (h.base (Nat.le_refl _) hN))
 have NA:=qh (fun hp q (e:A=some q)=>hN q.block (hA hp q e))
 have GW:=qh (fun W os' (h:Side w0 N W os') F (hn':∀ k,F k->¬ N k)=>show GoodW W F A a.ws from ⟨SW.out W os' h,hf,hn,fun hp q e f=>hn' _ f (NA.out hp q e),hk⟩)
 obtain ⟨B,hB⟩:=nmq (w.heap.size)
 have h0:=h.rowNew [.int .i64 a.kind,.slice A a.ws.length c,.int .u8 a.by_,.int .i64 a.seq,.string a.key] 37
 rw [<-hB] at h0
 obtain ⟨os1,ho1⟩:=nmq (os++[Ob.row B [.int .i64 a.kind,.slice A a.ws.length c,.int .u8 a.by_,.int .i64 a.seq,.string a.key] 37])
 rw [<-ho1] at h0
 have I1:=qh (show os1[i]?=some (obP X b m) from by rw [ho1]; exact Side.idx hi)
 have J1:=qh (show os1[j]?=some (obM p m) from by rw [ho1]; exact Side.idx hj)
 have L1:=qh (show os1[l]?=some (Ob.row g [.int .u64 x] 26) from by rw [ho1]; exact Side.idx hl)
 have R1:=qh (show os1[os.length]?=some (Ob.row B [.int .i64 a.kind,.slice A a.ws.length c,.int .u8 a.by_,.int .i64 a.seq,.string a.key] 37) from by rw [ho1]; exact Side.last)
 have BK:=qh (fun W A B C (h:Side w0 N W (((os1.set i A).set j B).set l C))=>show Side w0 N W (((os.set i A).set j B).set l C) from by
  rw [ho1,set_back li lj ll] at h
  exact h.drop)
 have KC:=qh (fun W s (h:Side w0 N W os1) (s0:0<=s) (s1:s<=18446744073709551615)=>pCall X (T:=fun e _=>e=.returned (.tuple #[.int .i64 (m.comN a.ws s),.int .i64 (m.comE a.ws s)])) h I1.out fun F hP hn'=>X.commit b F m a.ws A c s W hP hb (GW.out W os1 h F hn') s0 s1)
 have KM:=qh (fun W s o (h:Side w0 N W (os1.set i o))=>mCommit h (set_get J1.out ij) ok hb a.ws A c s (SW.out W _ h) hf hn NA.out)
 have KS:=qh (fun W (h:Side w0 N W os1)=>pCall X (T:=fun e _=>e=.returned (.int .i64 m.gone)) (m':=m.sw) h I1.out fun F hP _=>X.sweep b F m W hP hb)
 have KT:=qh (fun W o (h:Side w0 N W (os1.set i o))=>mSweep h (set_get J1.out ij) ok hb hv)
 have KK:=qh (fun W (h:Side w0 N W os1)=>pAsk X (T:=fun e _=>e=.returned (.int .i64 (m.chk a.ws a.seq))) h I1.out fun F hP hn'=>X.check b F m a.ws A c a.seq W hP hb (GW.out W os1 h F hn'))
 have KL:=qh (fun W (h:Side w0 N W os1)=>mCheck h J1.out ok hb a.ws A c a.seq (SW.out W _ h) hf hn)
 have SM:=qh (fun W (h:Side w0 N W os1)=>show Side w0 N W (((os1.set i (obP X b m)).set j (obM p m)).set l (Ob.row g [.int .u64 x] 26)) from by
  rw [set_same I1.out,set_same J1.out,set_same L1.out]; exact h)
 have S2:=qh (fun W A B (h:Side w0 N W ((os1.set i A).set j B))=>show Side w0 N W (((os1.set i A).set j B).set l (Ob.row g [.int .u64 x] 26)) from by
  rw [set_same (set_get (set_get L1.out il) jl)]; exact h)
 have S3:=qh (fun W A B W' s (h:Side w0 N W ((os1.set i A).set j B)) (hc:Chg (fun k=>k=g) W W') (hr:RowAt W' g [.int .u64 s] 26)=>h.rowSet (set_get (set_get L1.out il) jl) hc hr)
 have RG:=qh (fun W A B (h:Side w0 N W ((os1.set i A).set j B))=>h.rowAt (set_get (set_get L1.out il) jl))
 have RB:=qh (fun W o (h:Side w0 N W (os1.set i o))=>h.rowAt (set_get R1.out (by omega)))
 have RI:=qh I1.out
 have H0:=qh h0
 have HB:=qh hB
 have M1:=qh (stepM_1 m a x)
 have M2:=qh (stepM_2 m a x)
 have M0:=qh (stepM_0 m a x)
 have X0:=qh (stepX_0 m a x)
 have X1:=qh (show a.kind=1->stepX m a x=if m.comE a.ws (x+a.by_)=0 then x+a.by_ else x from fun e=>by unfold stepX; rw [if_pos e])
 obtain ⟨m',hm'⟩:=nmq (stepM m a x)
 obtain ⟨x',hx'⟩:=nmq (stepX m a x)
 rw [<-hm',<-hx']
 simp only [<-hm'] at M1 M2 M0
 simp only [<-hx'] at X0 X1
 have ra:=H0.out.rowAt R1.out
 have rg:=H0.out.rowAt L1.out
 obtain ⟨kd,ws,by_,sq,key⟩:=a
 have y0:0<=by_:=y0
 have y1:by_<=255:=y1
 obtain ⟨n,hn2⟩:=nmq (ws.length)
 have ra:RowAt (w.alloc (.cells #[.int .i64 kd,.slice A ws.length c,.int .u8 by_,.int .i64 sq,.string key] 37)) B [.int .i64 kd,.slice A ws.length c,.int .u8 by_,.int .i64 sq,.string key] 37:=ra
 have rg:RowAt (w.alloc (.cells #[.int .i64 kd,.slice A ws.length c,.int .u8 by_,.int .i64 sq,.string key] 37)) g [.int .u64 x] 26:=rg
 show Calls Tryz.prog 20 #[PtrM b,PtrM p,.agg #[.int .i64 kd,.slice A ws.length c,.int .u8 by_,.int .i64 sq,.string key],.pointer (some ⟨g,0,none⟩)] w _
 have QC:Hid (∀ W s,Side w0 N W os1->0<=s->s<=18446744073709551615->Calls Tryz.prog 26 #[PtrM b,.slice A n c,.int .u64 s] W fun e w'=>e=.returned (.tuple #[.int .i64 (m.comN ws s),.int .i64 (m.comE ws s)])∧Side w0 N w' (os1.set i (obP X b (m.com ws s)))):=by rw [hn2]; exact KC
 have QB:Hid (∀ W o,Side w0 N W (os1.set i o)->RowAt W B [.int .i64 kd,.slice A n c,.int .u8 by_,.int .i64 sq,.string key] 37):=by rw [hn2]; exact RB
 have QM:Hid (∀ W s o,Side w0 N W (os1.set i o)->Calls Tryz.prog 65 #[PtrM p,.slice A n c,.int .u64 s] W fun e w'=>e=.returned (.tuple #[.int .i64 (m.comN ws s),.int .i64 (m.comE ws s)])∧Side w0 N w' ((os1.set i o).set j (obM p (m.com ws s)))):=by rw [hn2]; exact KM
 have QK:Hid (∀ W,Side w0 N W os1->Calls Tryz.prog 32 #[PtrM b,.slice A n c,.int .i64 sq] W fun e w'=>e=.returned (.int .i64 (m.chk ws sq))∧Side w0 N w' os1):=by rw [hn2]; exact KK
 have QL:Hid (∀ W,Side w0 N W os1->Calls Tryz.prog 67 #[PtrM p,.slice A n c,.int .i64 sq] W fun e w'=>e=.returned (.int .i64 (m.chk ws sq))∧Side w0 N w' os1):=by rw [hn2]; exact KL
 have E1:Hid (kd=1->m'=m.com ws (x+by_)):=M1
 have E2:Hid (kd=2->m'=m.sw):=M2
 have E0:Hid (kd≠1->kd≠2->m'=m):=M0
 have Y0:Hid (kd≠1->x'=x):=X0
 have Y1:Hid (kd=1->x'=if m.comE ws (x+by_)=0 then x+by_ else x):=X1
 clear KC RB KM KK KL M1 M2 M0 X0 X1
 rw [<-hn2] at ra rg ⊢
 have a0:=ra.cell 0
 have a1:=ra.cell 1
 have a2:=ra.cell 2
 have a3:=ra.cell 3
 have g0:=rg.cell 0
 simp only [geS] at a0 a1 a2 a3 g0
 have H0:Hid (Side w0 N (w.alloc (.cells #[.int .i64 kd,.slice A ws.length c,.int .u8 by_,.int .i64 sq,.string key] 37)) os1):=H0
 rw [<-hn2] at H0
 clear h hi hj hl hb hv hN hw hf hn hk hA ok li lj ll hB h0 ho1 hm' hx' ra rg SW NA GW I1 J1 L1 R1 hn2
 have hBe:=HB.out
 clear HB
 subst hBe
 go_enter Tryz.func20,Tryz.ntmps20
 by_cases k1:kd=1
 ·subst k1
  have em:=qh (E1.out rfl)
  have ex:=qh (Y1.out rfl)
  obtain ⟨s,hs⟩:=nmq (x+by_)
  rw [<-hs] at em ex
  have QC1:=qh (fun W h=>QC.out W s h (by omega) (by omega))
  have KM2:=qh (fun W o h=>QM.out W s o h)
  obtain ⟨Nn,hNn⟩:=nmq (m.comN ws s)
  obtain ⟨E,hE⟩:=nmq (m.comE ws s)
  simp only [<-hNn,<-hE] at QC1 KM2
  rw [<-hE] at ex
  have u1:IntKind.u64.wrap by_=by_:=by rw [IntKind.wrap_u64]; omega
  have u2:IntKind.u64.wrap (x+by_)=s:=by rw [IntKind.wrap_u64]; omega
  clear hNn hE hs QM KS KT QK QL SM E1 E2 E0 Y0 Y1
  go_wp2_with fail
  go_quiet (fail)
  go_wp2_with fail
  refine Calls.mono (by with_reducible exact QC1.out _ (H0.out.below (below_drewN (Below.refl _ _) _))) ?_
  rintro e w1 ⟨rfl,h1⟩
  have b1:=(QB.out w1 _ h1).cell 1
  simp only [geS] at b1
  have H1:=qh h1
  clear h1 a0 a1 a2 a3 g0 QC QC1 u1 u2
  go_wp2_with fail
  refine (KM2.out _ _ H1.out).mono ?_
  rintro e w2 ⟨rfl,h2⟩
  have H2:=qh h2
  clear h2 b1 KM2
  by_cases e0:E=0
  ·subst e0
   have r2:=RG.out _ _ _ H2.out
   have g2:=r2.cell 0
   have f2:=r2.frozen 0
   simp only [List.getElem?_cons_zero] at g2
   have H3:=qh (BK.out _ _ _ _ (S3.out w2 _ _ (w2.setCell ⟨g,0,none⟩ (.int .u64 s)) s H2.out (Chg.setCell (F:=fun k=>k=g) (Chg.refl _ _) (.inl rfl) _) (r2.set 0 (.int .u64 s))))
   have ex:=qh (ex.out.trans (if_pos rfl))
   clear r2
   go_wp2_with fail
   go_ret
   exact ⟨by first | rfl | simp,by rw [em.out,ex.out]; exact H3.out⟩
  ·have H3:=qh (BK.out _ _ _ _ (S2.out w2 _ _ H2.out))
   have ex:=qh (ex.out.trans (if_neg e0))
   go_wp2_with fail
   go_ret
   exact ⟨by first | rfl | simp,by rw [em.out,ex.out]; exact H3.out⟩
 by_cases k2:kd=2
 ·subst k2
  have em:=qh (E2.out rfl)
  have ex:=qh (Y0.out (by decide))
  obtain ⟨V,hV⟩:=nmq (m.gone)
  simp only [<-hV] at KS KT
  clear hV QC QM QK QL SM E1 E2 E0 Y0 Y1 k1
  go_wp2_with fail
  refine (KS.out _ H0.out).mono ?_
  rintro e w1 ⟨rfl,h1⟩
  have H1:=qh h1
  clear h1 a0 a1 a2 a3 g0 KS
  go_wp2_with fail
  refine (KT.out _ _ H1.out).mono ?_
  rintro e w2 ⟨rfl,h2⟩
  have H3:=qh (BK.out _ _ _ _ (S2.out w2 _ _ h2))
  clear h2 KT
  go_wp2_with fail
  go_ret
  exact ⟨by first | rfl | simp,by rw [em.out,ex.out]; exact H3.out⟩
 have em:=qh (E0.out k1 k2)
 have ex:=qh (Y0.out k1)
 by_cases k3:kd=3
 ·subst k3
  obtain ⟨V,hV⟩:=nmq (m.chk ws sq)
  simp only [<-hV] at QK QL
  have a1H:=qh a1
  have a3H:=qh a3
  have RA:=qh (fun W (h:Side w0 N W os1)=>show W.cell? ⟨w.heap.size,1,none⟩=some (.slice A n c)∧W.cell? ⟨w.heap.size,3,none⟩=some (.int .i64 sq) from by
   have r:=QB.out W (obP X b m) (by rw [set_same RI.out]; exact h)
   exact ⟨r.cell 1,r.cell 3⟩)
  clear hV QC QM KS KT E1 E2 E0 Y0 Y1 k1 k2
  go_wp2_with fail
  clear a0 a1 a2 a3 g0
  refine wp_region_held_drew (S:=(fun w'=>w'.cell? ⟨w.heap.size,1,none⟩=some (.slice A n c)∧w'.cell? ⟨w.heap.size,3,none⟩=some (.int .i64 sq))) (by kernel_rfl) (⟨a1H.out,a3H.out⟩) (fun gH=>?_)
  refine rgT 0 (v:=?v1) ?y1 gH ?_
  case y1=>(intro v hSw; go_simp<;>rfl)
  refine rgT 1 (v:=?v2) ?y2 gH ?_
  case y2=>(intro v hSw; go_simp<;>rfl)
  refine rgT 2 (v:=?v3) ?y3 gH ?_
  case y3=>(intro v hSw; go_simp<;>rfl)
  try simp only [putS]
  refine rgT 3 (v:=?v4) ?y4 gH ?_
  case y4=>(intro v hSw; go_simp<;>rfl)
  refine rgT 4 (v:=?v5) ?y5 gH ?_
  case y5=>(intro v hSw; go_simp<;>rfl)
  refine rgT 6 (v:=?v6) ?y6 gH ?_
  case y6=>(intro v hSw; go_simp<;>rfl)
  try simp only [putS]
  refine rgT 7 (v:=?v7) ?y7 gH ?_
  case y7=>(intro v hSw; go_simp<;>rfl)
  refine rgT 8 (v:=?v8) ?y8 gH ?_
  case y8=>(intro v hSw; go_simp<;>rfl)
  refine rgT 9 (v:=?v9) ?y9 gH ?_
  case y9=>(intro v hSw; go_simp<;>rfl)
  try simp only [putS]
  refine rgT 10 (v:=?v10) ?y10 gH ?_
  case y10=>(intro v hSw; go_simp<;>rfl)
  try simp only [putS]
  refine rgO 5 fun K hK=>?_
  go_simp
  refine Calls.mono (by with_reducible exact QK.out _ (H0.out.below (below_drew (Below.refl _ _)))) ?_
  rintro e w1 ⟨rfl,h1⟩
  have H1:=qh h1
  clear h1
  refine hK.out _ _ (RA.out _ H1.out) (fun gH=>?_)
  clear hK K
  try simp only [putS]
  refine rgO 11 fun K hK=>?_
  go_simp
  refine (QL.out _ H1.out).mono ?_
  rintro e w2 ⟨rfl,h2⟩
  have H2:=qh h2
  clear h2
  refine hK.out _ _ (RA.out _ H2.out) (fun gH=>?_)
  clear hK K
  refine rgT 12 (v:=?v11) ?y11 gH ?_
  case y11=>(intro v hSw; go_simp<;>rfl)
  refine rgT 13 (v:=?v12) ?y12 gH ?_
  case y12=>(intro v hSw; go_simp<;>rfl)
  try simp only [putS]
  refine rgD ?_
  have H3:=qh (BK.out _ _ _ _ (SM.out w2 H2.out))
  go_wp2_with fail
  go_ret
  exact ⟨by first | rfl | simp,by rw [em.out,ex.out]; exact H3.out⟩
 ·have H3:=qh (BK.out _ _ _ _ (SM.out _ H0.out))
  clear QC QM KS KT QK QL E1 E2 E0 Y0 Y1
  go_wp2_with fail
  go_ret
  exact ⟨rfl,by rw [em.out,ex.out]; exact H3.out⟩

def bigW (x:Wr):Bool:=decide (200<x.key.size) || decide (200<x.val.txt.size)
def farW (ws:List Wr):Bool:=decide (30<ws.length) || ws.any bigW
theorem farW_no {ws:List Wr} (h:farW ws=false):ws.length<=30∧∀ x,x ∈ ws->x.key.size<=200∧x.val.txt.size<=200:=by
 unfold farW at h
 simp only [Bool.or_eq_false_iff,decide_eq_false_iff_not,List.any_eq_false] at h
 refine ⟨by omega,fun x hx=>?_⟩
 have:=h.2 x hx
 unfold bigW at this
 simp only [Bool.or_eq_true,decide_eq_true_eq,not_or] at this
 omega
def InW (ws:List Wr):Prop:=∀ x,x ∈ ws->x.key.size<=maxLen∧x.val.Fits
theorem InW.fits {ws:List Wr} (h:InW ws) (hf:farW ws=false):FitsW ws∧∀ x,x ∈ ws->x.key.size<=1000∧x.val.txt.size<=1000:=by
 have f:=(farW_no hf).2
 exact ⟨fun x hx=>⟨(h x hx).2,by have:=(f x hx).1; omega⟩,fun x hx=>by have:=f x hx; omega⟩

theorem lFar (ws:List Wr) (A:Option Addr) (c:Nat) (w:World) (h:SlWr w A ws) :
  Calls Tryz.prog 15 #[.slice A ws.length c] w fun e w'=>e=.returned (.bool (farW ws))∧Below w.heap.size w w':=by
 obtain ⟨n,hn⟩:=nmq (ws.length)
 obtain ⟨T,hT⟩:=nmq (farW ws)
 rw [<-hn]
 rw [<-hT]
 by_cases z:30<n
 ·have e:T=true:=by rw [hT]; unfold farW; rw [decide_eq_true (by omega)]; rfl
  subst e
  have B0:=qh (Below.refl w.heap.size w)
  clear h hn hT
  go_enter Tryz.func15,Tryz.ntmps15
  go_wp2_with fail
  go_ret
  exact ⟨rfl,B0.out⟩
 have FY:=qh (fun i (hi:i<n) (h:bigW (ws.getD i Wr.Z)=true)=>show T=true from by
  rw [hT]; unfold farW
  rw [show ws.any bigW=true from List.any_eq_true.2 ⟨ws.getD i Wr.Z,by rw [List.getD_eq_getElem?_getD,List.getElem?_eq_getElem (by omega)]; exact List.getElem_mem _,h⟩,Bool.or_true])
 have FN:=qh (fun (h:∀ i,i<n->bigW (ws.getD i Wr.Z)=false)=>show T=false from by
  rw [hT]; unfold farW
  rw [decide_eq_false (by omega),Bool.false_or,List.any_eq_false]
  intro x hx
  obtain ⟨i,hi,rfl⟩:=List.mem_iff_getElem.1 hx
  have:=h i (by omega)
  rw [List.getD_eq_getElem?_getD,List.getElem?_eq_getElem hi] at this
  exact Bool.eq_false_iff.1 this)
 have HS:=qh h
 have HN:=qh hn
 clear h hn hT
 go_enter Tryz.func15,Tryz.ntmps15
 go_wp2_with fail
 go_loopw [3] (fun vi wr=>∃ i:Nat,i<=n∧vi=.int .i64 i∧Hid (∀ j,j<i->bigW (ws.getD j Wr.Z)=false)∧wr=w) (fun vi _=>n-(intOf vi).toNat)
 case atStart=>exact ⟨0,Nat.zero_le _,rfl,qh (fun j hj=>by cases hj),rfl⟩
 case round =>
  obtain ⟨i,hi,rfl,HM,rfl⟩:=hrel
  by_cases q:i<n
  ·obtain ⟨b,o,rfl,hb,c0,c1,c2,c3,c4⟩:=HS.out.at (j:=i) (by rw [<-HN.out]; exact q)
   have i0:(0:Int)<=(i:Int):=by omega
   have i1:(i:Int)<(n:Int):=by omega
   have FY:=qh (FY.out i q)
   have ST:=qh (fun (h:bigW (ws.getD i Wr.Z)=false)=>show ∀ j,j<i+1->bigW (ws.getD j Wr.Z)=false from fun j hj=>by
    by_cases e:j=i
    ·rw [e]; exact h
    ·exact HM.out j (by omega))
   obtain ⟨x,hx⟩:=nmq (ws.getD i Wr.Z)
   rw [<-hx] at c0 c3 FY ST
   obtain ⟨k,g,v⟩:=x
   obtain ⟨mm,t,u⟩:=v
   have c0:wr.cell? ⟨b,o+i * 5,none⟩=some (.string k):=c0
   have c3:wr.cell? ⟨b,o+i * 5+3,none⟩=some (.string t):=c3
   have eb:bigW ⟨k,g,⟨mm,t,u⟩⟩=(decide (200<k.size) || decide (200<t.size)):=rfl
   have EB:=qh eb
   clear hx eb c1 c2 c4 hb
   by_cases z1:200<k.size
   ·have ET:=qh (FY.out (by rw [EB.out,decide_eq_true z1]; rfl))
    go_wp2_with fail
    go_ret
    exact ⟨by rw [ET.out]; rfl,Below.refl _ _⟩
   ·by_cases z2:200<t.size
    ·have ET:=qh (FY.out (by rw [EB.out,decide_eq_true z2,Bool.or_true]))
     go_wp2_with fail
     go_ret
     exact ⟨by rw [ET.out]; rfl,Below.refl _ _⟩
    ·have SS:=qh (ST.out (by rw [EB.out,decide_eq_false z1,decide_eq_false z2]; rfl))
     go_wp2_with fail
     go_roundw
     case rel=>exact ⟨i+1,by omega,by go_num,SS,by first | trivial | rfl⟩
     case measure=>simp [intOf]; omega
  ·obtain rfl:i=n:=by omega
   have ET:=qh (FN.out HM.out)
   go_wp2_with fail
   go_ret
   exact ⟨by rw [ET.out]; rfl,Below.refl _ _⟩
structure RoomAw (R:RelM):Prop where
 keep:∀ {w w':World} {b:Nat} {F:Nat->Prop} {m:Rm},R w b F m->(∀ k,F k->w'.heap[k]?=w.heap[k]?)->w.heap.size<=w'.heap.size->R w' b F m
 lt:∀ {w:World} {b:Nat} {F:Nat->Prop} {m:Rm} {k:Nat},R w b F m->F k->k<w.heap.size
 new:∀ (A:Option Addr) (c:Nat) (zs:List Int) (g1 g2 g3:Int) (w:World),Sl w A zs->zs.length<=1000->La.U64 zs →
  Calls Tryz.prog 11 #[.agg #[.slice A zs.length c,.int .i64 g1,.int .i64 g2,.int .i64 g3]] w fun e w'=>Below w.heap.size w w' ∧
   ((stOk zs g1 g2 g3=true∧∃ b F,e=.returned (.tuple #[PtrM b,.int .i64 0])∧R w' b F (Rm.new zs g1 g2 g3 0 [])∧∀ k,F k->w.heap.size<=k) ∨
    (stOk zs g1 g2 g3=false∧e=.returned (.tuple #[.pointer none,.int .i64 1])))
 check:∀ (b:Nat) (F:Nat->Prop) (m:Rm) (ws:List Wr) (A:Option Addr) (c:Nat) (s:Int) (w:World),R w b F m->m.Few->GoodW w F A ws →
  Calls Tryz.prog 32 #[PtrM b,.slice A ws.length c,.int .i64 s] w fun e w'=>e=.returned (.int .i64 (m.chk ws s))∧LeftM R b F w m w'
 nil_:∀ (ws:List Wr) (A:Option Addr) (c:Nat) (k:ByteArray) (s x:Int) (w:World),
  (Calls Tryz.prog 24 #[.pointer none] w fun e w'=>(∃ A c,e=.returned (.agg #[.slice A 0 c,.int .i64 0,.int .i64 0,.int .i64 0]))∧Below w.heap.size w w') ∧
  (Calls Tryz.prog 27 #[.pointer none] w fun e w'=>e=.returned (.int .i64 0)∧Below w.heap.size w w') ∧
  (Calls Tryz.prog 29 #[.pointer none] w fun e w'=>e=.returned (.int .i64 0)∧Below w.heap.size w w') ∧
  (Calls Tryz.prog 16 #[.pointer none,.int .u64 x] w fun e w'=>e=.returned (.tuple #[.int .i64 0,.int .i64 2])∧Below w.heap.size w w') ∧
  (Calls Tryz.prog 30 #[.pointer none,.string k,.int .i64 s] w fun e w'=>e=.returned (.tuple #[Val.V0.v,.bool false])∧Below w.heap.size w w') ∧
  (Calls Tryz.prog 31 #[.pointer none,.string k,.int .i64 s] w fun e w'=>e=.returned (.tuple #[.string ⟨#[]⟩,Val.V0.v,.bool false])∧Below w.heap.size w w') ∧
  (Calls Tryz.prog 40 #[.pointer none,.string k,.int .i64 s] w fun e w'=>e=.returned (.tuple #[.string ⟨#[]⟩,Val.V0.v,.bool false])∧Below w.heap.size w w') ∧
  (Calls Tryz.prog 32 #[.pointer none,.slice A ws.length c,.int .i64 s] w fun e w'=>e=.returned (.int .i64 2)∧Below w.heap.size w w') ∧
  (Calls Tryz.prog 26 #[.pointer none,.slice A ws.length c,.int .u64 x] w fun e w'=>e=.returned (.tuple #[.int .i64 0,.int .i64 2])∧Below w.heap.size w w') ∧
  (Calls Tryz.prog 28 #[.pointer none] w fun e w'=>e=.returned (.int .i64 0)∧Below w.heap.size w w') ∧
  (Calls Tryz.prog 33 #[.pointer none] w fun e w'=>e=.returned (.int .i64 0)∧Below w.heap.size w w') ∧
  (Calls Tryz.prog 34 #[.pointer none] w fun e w'=>e=.returned (.int .i64 0)∧Below w.heap.size w w') ∧
  (Calls Tryz.prog 35 #[.pointer none] w fun e w'=>e=.returned (.int .i64 0)∧Below w.heap.size w w') ∧
  (Calls Tryz.prog 37 #[.pointer none] w fun e w'=>(∃ A c,e=.returned (.slice A 0 c))∧Below w.heap.size w w')
structure RoomA0 (R:RelM):Prop where
 keep:∀ {w w':World} {b:Nat} {F:Nat->Prop} {m:Rm},R w b F m->(∀ k,F k->w'.heap[k]?=w.heap[k]?)->w.heap.size<=w'.heap.size->R w' b F m
 lt:∀ {w:World} {b:Nat} {F:Nat->Prop} {m:Rm} {k:Nat},R w b F m->F k->k<w.heap.size
 new:∀ (A:Option Addr) (c:Nat) (zs:List Int) (g1 g2 g3:Int) (w:World),Sl w A zs->zs.length<=1000->La.U64 zs →
  Calls Tryz.prog 11 #[.agg #[.slice A zs.length c,.int .i64 g1,.int .i64 g2,.int .i64 g3]] w fun e w'=>Below w.heap.size w w' ∧
   ((stOk zs g1 g2 g3=true∧∃ b F,e=.returned (.tuple #[PtrM b,.int .i64 0])∧R w' b F (Rm.new zs g1 g2 g3 0 [])∧∀ k,F k->w.heap.size<=k) ∨
    (stOk zs g1 g2 g3=false∧e=.returned (.tuple #[.pointer none,.int .i64 1])))
 check:∀ (b:Nat) (F:Nat->Prop) (m:Rm) (ws:List Wr) (A:Option Addr) (c:Nat) (s:Int) (w:World),R w b F m->m.Few->GoodW w F A ws →
  Calls Tryz.prog 32 #[PtrM b,.slice A ws.length c,.int .i64 s] w fun e w'=>e=.returned (.int .i64 (m.chk ws s))∧LeftM R b F w m w'
theorem RoomLo.a0 {R:RelM} (X:RoomLo R):RoomA0 R:=⟨X.keep,X.lt,X.new,X.check⟩
theorem RoomAw.a0 {R:RelM} (X:RoomAw R):RoomA0 R:=⟨X.keep,X.lt,X.new,X.check⟩
def wK (t:ByteArray):List Wr:=[⟨⟨#[107]⟩,false,⟨false,t,0⟩⟩]
theorem wK_sl (w:World) (t:ByteArray) (ty:TypeId):SlWr (w.alloc (.cells #[.string ⟨#[107]⟩,.bool false,.bool false,.string t,.int .u64 0] ty)) (some ⟨w.heap.size,0,none⟩) (wK t):=fun _=>by
 have r:=RowAt.new w [.string ⟨#[107]⟩,.bool false,.bool false,.string t,.int .u64 0] ty
 refine ⟨w.heap.size,0,rfl,r.lt,fun j hj=>?_⟩
 have e:j=0:=by simp [wK] at hj; exact hj
 subst e
 exact ⟨r.cell 0,r.cell 1,r.cell 2,r.cell 3,r.cell 4⟩
theorem wK_good {R:RelM} (X:RoomA0 R) {w:World} {b:Nat} {F:Nat->Prop} {m:Rm} (h:R w b F m) (t:ByteArray) (ht:t.size<=64) (ty:TypeId) :
  GoodW (w.alloc (.cells #[.string ⟨#[107]⟩,.bool false,.bool false,.string t,.int .u64 0] ty)) F (some ⟨w.heap.size,0,none⟩) (wK t) :=
 ⟨wK_sl w t ty,fun x hx=>by
  simp only [wK,List.mem_singleton] at hx
  subst hx
  exact ⟨⟨(show (0:Nat)<18446744073709551616 by decide),Nat.le_trans ht (by decide)⟩,(show (1:Nat)<=1000000 by decide)⟩,by simp [wK],fun _ a e f=>by
  injection e with e
  subst e
  have:=X.lt h f
  simp at this,fun x hx=>by
  simp only [wK,List.mem_singleton] at hx
  subst hx
  exact ⟨(show (1:Nat)<=1000 by decide),Nat.le_trans ht (by decide)⟩⟩

theorem lAwake {R:RelM} (X:RoomA0 R) (w:World):Calls Tryz.prog 10 #[] w fun e w'=>e=.returned (.bool true)∧Below w.heap.size w w':=by
 have st:stOk [] 1 3 9=true:=by kernel_rfl
 have CN:=qh (X.new none 0 [] 1 3 9 w (Sl.nil _ _) (by decide) (fun _ h=>by cases h))
 obtain ⟨m,hm⟩:=nmq (Rm.new [] 1 3 9 0 [])
 have c1:m.chk (wK ⟨#[120]⟩) 0=0:=by rw [hm]; kernel_rfl
 have c2:m.chk (wK ⟨#[120,121]⟩) 0=15:=by rw [hm]; kernel_rfl
 have fw:m.Few:=by rw [hm]; exact ⟨⟨by decide,fun _=>Nat.zero_le _⟩,by decide⟩
 have C1:=qh (fun W b F (h:R W b F m)=>X.check b F m (wK ⟨#[120]⟩) (some ⟨W.heap.size,0,none⟩) 1 0 _ (X.keep h (fun k e=>Below.heap_alloc _ _ _ (X.lt h e)) (by simp)) fw (wK_good X h ⟨#[120]⟩ (by decide) 104))
 have C2:=qh (fun W b F (h:R W b F m)=>X.check b F m (wK ⟨#[120,121]⟩) (some ⟨W.heap.size,0,none⟩) 1 0 _ (X.keep h (fun k e=>Below.heap_alloc _ _ _ (X.lt h e)) (by simp)) fw (wK_good X h ⟨#[120,121]⟩ (by decide) 104))
 rw [<-hm,st] at CN
 simp only [c1] at C1
 simp only [c2] at C2
 have LT:=qh (fun W b F (h:R W b F m) k (e:F k)=>X.lt h e)
 clear X c1 c2 fw hm st
 go_enter Tryz.func10,Tryz.ntmps10
 go_wp2_with fail
 refine CN.out.mono ?_
 rintro e w1 ⟨hb1,⟨_,b,F,rfl,hr,hF⟩ | ⟨hf,_⟩⟩
 case inr=>cases hf
 have CC:=qh (C1.out w1 b F hr)
 have B1:=qh hb1
 have HF:=qh hF
 clear hb1 hr hF CN C1
 go_wp2_with fail
 refine CC.out.mono ?_
 rintro e w2 ⟨rfl,hc,F',hr',hk⟩
 have CD:=qh (C2.out w2 b F' hr')
 have B2:=qh (show Below w.heap.size w w2 from by
  have b0:Below w.heap.size w (w1.alloc (.cells #[.string ⟨#[107]⟩,.bool false,.bool false,.string ⟨#[120]⟩,.int .u64 0] 104)):=B1.out.alloc B1.out.size _
  exact b0.trans (hc.below (fun k e=>HF.out k e) b0.size))
 have HF2:=qh (show ∀ k,F' k->w.heap.size<=k from fun k e=>by
  rcases hk k e with q | q
  ·exact HF.out k q
  ·have:=B1.out.size; simp at q; omega)
 clear hc hr' hk CC C2 B1
 go_wp2_with fail
 refine CD.out.mono ?_
 rintro e w3 ⟨rfl,hc,F3,hr3,hk⟩
 have B3:=qh (show Below w.heap.size w w3 from by
  have b0:Below w.heap.size w (w2.alloc (.cells #[.string ⟨#[107]⟩,.bool false,.bool false,.string ⟨#[120,121]⟩,.int .u64 0] 104)):=B2.out.alloc B2.out.size _
  exact b0.trans (hc.below (fun k e=>HF2.out k e) b0.size))
 clear hc hr3 hk CD
 go_wp2_with fail
 go_ret
 exact ⟨rfl,B3.out⟩
theorem lCounts {R:RelM} (X:RoomLo R) {w0 w:World} {N:Nat->Prop} {os:List Ob} {i j b p:Nat} {m:Rm} (h:Side w0 N w os) (hi:os[i]?=some (obP X b m)) (hj:os[j]?=some (obM p m)) (hb:m.Few) :
  Calls Tryz.prog 23 #[PtrM b,PtrM p] w fun e w'=>e=.returned (.bool true)∧Side w0 N w' os:=by
 have ok:=pOk X h hi
 have sq:=ok.r.sq
 have fl:=Rm.floor_seq ok.r
 have K1:=qh (fun W (h:Side w0 N W os)=>pAsk X (T:=fun e _=>e=.returned (.int .i64 m.seq)) h hi fun F hP _=>X.seq b F m W hP)
 have K2:=qh (fun W (h:Side w0 N W os)=>mSeq h hj ok)
 have K3:=qh (fun W (h:Side w0 N W os)=>pAsk X (T:=fun e _=>e=.returned (.int .i64 m.floor)) h hi fun F hP _=>X.floor b F m W hP)
 have K4:=qh (fun W (h:Side w0 N W os)=>mFloor h hj ok)
 have K5:=qh (fun W (h:Side w0 N W os)=>pAsk X (T:=fun e _=>e=.returned (.int .i64 (m.L.live:Nat))) h hi fun F hP _=>X.live b F m W hP hb)
 have K6:=qh (fun W (h:Side w0 N W os)=>mLive h hj ok hb)
 have K7:=qh (fun W (h:Side w0 N W os)=>pAsk X (T:=fun e _=>e=.returned (.int .i64 (m.L.vers:Nat))) h hi fun F hP _=>X.vers b F m W hP hb)
 have K8:=qh (fun W (h:Side w0 N W os)=>mVers h hj ok hb)
 have K9:=qh (fun W (h:Side w0 N W os)=>pAsk X (T:=fun e _=>e=.returned (.int .i64 (m.ents.length:Nat))) h hi fun F hP _=>X.keys b F m W hP hb)
 have KA:=qh (fun W (h:Side w0 N W os)=>mEntries h hj ok hb)
 have KB:=qh (fun W (h:Side w0 N W os)=>pAsk X (T:=fun e w'=>∃ A c,e=.returned (.slice A m.ents.length c)∧SlEn w' A m.ents∧(0<m.ents.length->∃ g o,A=some ⟨g,o,none⟩∧W.heap.size<=g)) h hi fun F hP _=>X.entriesL b F m W hP hb)
 have LE:=qh (show m.ents.length<=10000 from Nat.le_trans (ents_len _ _) (Nat.le_trans hb.1.1 (by decide)))
 have KS:=qh (fun W A1 A2 c1 c2 (h1:SlEn W A1 m.ents) (h2:SlEn W A2 m.ents)=>rSame1 m.ents m.ents A1 A2 c1 c2 W h1 h2 LE.out LE.out)
 have H:=qh h
 obtain ⟨s,hs⟩:=nmq (m.seq)
 obtain ⟨f,hf⟩:=nmq (m.floor)
 obtain ⟨v,hv⟩:=nmq (m.L.live)
 obtain ⟨u,hu⟩:=nmq (m.L.vers)
 obtain ⟨E,hE⟩:=nmq (m.ents)
 obtain ⟨n,hn⟩:=nmq (E.length)
 simp only [<-hs] at K1 K2
 simp only [<-hf] at K3 K4
 simp only [<-hv] at K5 K6
 simp only [<-hu] at K7 K8
 simp only [<-hE] at K9 KA KB KS
 simp only [<-hn] at K9 KA KB KS
 clear h hi hj hb ok sq fl hs hf hv hu hE hn LE
 go_enter Tryz.func23,Tryz.ntmps23
 go_wp2_with fail
 refine (K1.out _ H.out).mono ?_
 rintro e w1 ⟨rfl,h1⟩
 have H1:=qh h1
 clear h1 K1
 go_wp2_with fail
 refine (K2.out _ H1.out).mono ?_
 rintro e w2 ⟨rfl,h2⟩
 have H2:=qh h2
 clear h2 K2 H1
 go_wp2_with fail
 refine (K3.out _ H2.out).mono ?_
 rintro e w3 ⟨rfl,h3⟩
 have H3:=qh h3
 clear h3 K3 H2
 go_wp2_with fail
 refine (K4.out _ H3.out).mono ?_
 rintro e w4 ⟨rfl,h4⟩
 have H4:=qh h4
 clear h4 K4 H3
 go_wp2_with fail
 refine (K5.out _ H4.out).mono ?_
 rintro e w5 ⟨rfl,h5⟩
 have H5:=qh h5
 clear h5 K5 H4
 go_wp2_with fail
 refine (K6.out _ H5.out).mono ?_
 rintro e w6 ⟨rfl,h6⟩
 have H6:=qh h6
 clear h6 K6 H5
 go_wp2_with fail
 refine (K7.out _ H6.out).mono ?_
 rintro e w7 ⟨rfl,h7⟩
 have H7:=qh h7
 clear h7 K7 H6
 go_wp2_with fail
 refine (K8.out _ H7.out).mono ?_
 rintro e w8 ⟨rfl,h8⟩
 have H8:=qh h8
 clear h8 K8 H7
 go_wp2_with fail
 refine (K9.out _ H8.out).mono ?_
 rintro e w9 ⟨rfl,h9⟩
 have H9:=qh h9
 clear h9 K9 H8
 go_wp2_with fail
 refine (KA.out _ H9.out).mono ?_
 rintro e wa ⟨⟨A1,c1,rfl,_,_⟩,ha⟩
 have HA:=qh ha
 clear ha H9
 go_wp2_with fail
 refine (KB.out _ HA.out).mono ?_
 rintro e wb ⟨⟨A2,c2,rfl,s2,_⟩,hb⟩
 have HB:=qh hb
 have S2:=qh s2
 clear hb s2 KB HA
 go_wp2_with fail
 refine (KA.out _ HB.out).mono ?_
 rintro e wc ⟨⟨A3,c3,rfl,s3,b3⟩,hc⟩
 have HC:=qh hc
 have CS:=qh (KS.out wc A2 A3 c2 c3 (fun hp=>by
  obtain ⟨b,o,e,hl,hd⟩:=S2.out hp
  exact ⟨b,o,e,Nat.lt_of_lt_of_le hl b3.size,fun j hj=>sw5 b3 (hd j hj)⟩) s3)
 clear hc s3 b3 KA KS HB
 go_wp2_with fail
 refine CS.out.mono ?_
 rintro e wd ⟨rfl,k,hk⟩
 have HD:=qh (show Side w0 N wd os by rw [hk]; exact HC.out.below (below_drewN (Below.refl _ _) k))
 clear hk
 go_wp2_with fail
 go_ret
 exact ⟨by simp,HD.out⟩
end Go.Proofs.YtbfgpdgiaclphaaGreat

namespace Go.Proofs.YtbfgpdgiaclphaaGreat
open Go.RowKit

theorem swept_vers {L:Ch} {q:Int} (h:OkL L q) (f:Int):(L.swept f).vers<=L.vers :=
 Sim.vers (F:=f) (fun _=>⟨f,Int.le_refl _,Ch.of_swept h.rise f⟩) h.rise (h.swept f)
structure Along (K0 i:Nat) (m:Rm) (x:Int):Prop where
 ok:m.Ok
 bnd:Bnd m.L (K0+16 * i) (i+1)
 len:m.r.l.length<=i
 vers:m.L.vers<=K0+16 * i
 x0:0<=x
 x1:x<=256 * i
namespace Along
variable {K0 i:Nat} {m:Rm} {x:Int}
theorem few (h:Along K0 i m x) (hi:i<=120) (hK:K0<=100):m.Few:=⟨h.bnd.mono (by omega) (by omega),Nat.le_trans h.len (by omega)⟩
theorem many (h:Along K0 i m x) (hi:i<=120) (hK:K0<=100):m.L.vers<=1000000:=Nat.le_trans h.vers (by omega)
theorem stamp (h:Along K0 i m x) (hi:i<=120):x<=1000000:=by have:=h.x1; omega
theorem new {zs:List Int} {g1 g2 g3:Int} (h:stOk zs g1 g2 g3=true):Along 0 0 (Rm.new zs g1 g2 g3 0 []) 0 :=
 ⟨Rm.ok_new h,(Rm.few_new zs g1 g2 g3).mono (Nat.le_refl _) (Nat.zero_le _),Nat.le_refl _,Nat.le_refl _,Int.le_refl _,Int.le_refl _⟩
theorem load {zs:List Int} {g1 g2 g3 sq:Int} {l:List En} (h:ldE zs g1 g2 g3 sq l=0) (hf:FitsE l):Along l.length 0 (Rm.new zs g1 g2 g3 sq (loadL l)) 0:=by
 obtain ⟨o,b⟩:=Rm.ok_load h hf
 exact ⟨o,b,Nat.le_refl _,Nat.le_of_eq (load_vers l),Int.le_refl _,Int.le_refl _⟩
theorem more (h:Along K0 i m x):Along K0 (i+1) m x :=
 ⟨h.ok,h.bnd.mono (by omega) (by omega),by have:=h.len; omega,by have:=h.vers; omega,h.x0,by have:=h.x1; omega⟩
theorem com (h:Along K0 i m x) {ws:List Wr} (hf:FitsW ws) (y:Int) {x':Int} (h0:0<=x') (h1:x'<=256 * (i+1)):Along K0 (i+1) (m.com ws y) x':=by
 obtain ⟨o,b,l⟩:=Rm.ok_com (x:=y) h.ok h.bnd hf
 refine ⟨o,b.mono (by omega) (by omega),by have:=h.len; omega,?_,h0,by omega⟩
 by_cases e:m.comE ws y=0
 ·obtain ⟨e1,_,_,_,e5,_⟩:=Rm.com_yes e
  rw [e5]
  show (m.L.withW ws ((m.r.seq:Int)+1)).vers<=_
  rw [vers_with]
  have:=h.vers
  have:=mayW_size e1
  omega
 ·rw [(Rm.com_no e).1]
  have:=h.vers; omega
theorem sw (h:Along K0 i m x):Along K0 (i+1) m.sw x:=by
 obtain ⟨o,b⟩:=Rm.ok_sw h.ok h.bnd
 refine ⟨o,b.mono (by omega) (by omega),by have:=h.len; show m.r.l.length<=_; omega,?_,h.x0,by have:=h.x1; omega⟩
 have:=h.vers
 have:=swept_vers h.ok.L m.floor
 show (m.L.swept m.floor).vers<=_
 omega
theorem step (h:Along K0 i m x) (a:Ac) (hf:FitsW a.ws) (y0:0<=a.by_) (y1:a.by_<=255):Along K0 (i+1) (stepM m a x) (stepX m a x):=by
 have h0:=h.x0
 have h1:=h.x1
 by_cases k1:a.kind=1
 ·rw [stepM_1 m a x k1]
  unfold stepX
  rw [if_pos k1]
  split
  ·exact h.com hf _ (by omega) (by omega)
  ·exact h.com hf _ h0 (by omega)
 ·rw [stepX_0 m a x k1]
  by_cases k2:a.kind=2
  ·rw [stepM_2 m a x k2]; exact h.sw
  ·rw [stepM_0 m a x k1 k2]; exact h.more
end Along
structure Wrote (m:Rm) (wr:List Nat):Prop where
 seq:m.r.seq=wr.length
 beg:m.r.beg=0
 late:∀ f:Nat,f<=wr.length->late (f:Int) m.L<=(wr.drop f).sum
theorem Wrote.new (zs:List Int) (g1 g2 g3:Int):Wrote (Rm.new zs g1 g2 g3 0 []) []:=⟨rfl,rfl,fun _ _=>Nat.zero_le _⟩
theorem late_zero {L:Ch} {q:Int} (h:OkL L q):late q L=0:=by
 unfold late
 have:∀ y,y ∈ L->lateL q y.2=0:=fun y hy=>by
  unfold lateL
  rw [List.countP_eq_zero]
  intro z hz
  have:=h.le y hy z hz
  simp only [decide_eq_true_eq]
  omega
 clear h
 induction L with
 | nil=>rfl
 | cons y L ih=>rw [List.map_cons,List.sum_cons,this y (by simp),ih fun z hz=>this z (List.mem_cons_of_mem _ hz)]
theorem Wrote.com {m:Rm} {wr:List Nat} (h:Wrote m wr) {ws:List Wr} {x:Int} (e:m.comE ws x=0) (ok:(m.com ws x).Ok):Wrote (m.com ws x) (wr++[ws.length]):=by
 obtain ⟨_,_,_,e4,e5,_⟩:=Rm.com_yes e
 have hs:=h.seq
 rw [e5] at ok ⊢
 have okL:OkL (m.L.withW ws ((m.r.seq:Int)+1)) (((m.r.push x).seq:Nat):Int):=ok.L
 rw [Rm.push_seq e4] at okL
 refine ⟨?_,?_,fun f hf=>?_⟩
 ·show (m.r.push x).seq=_
  rw [Rm.push_seq e4,hs,List.length_append,List.length_singleton]
 ·show (m.r.push x).beg=0
  rw [Rg.push_beg]; exact h.beg
 ·rw [List.length_append,List.length_singleton] at hf
  show Go.Proofs.YtbfgpdgiaclphaaGreat.late (f:Int) (m.L.withW ws ((m.r.seq:Int)+1))<=_
  rcases Nat.lt_or_ge f (wr.length+1) with z | z
  ·rw [late_with m.L ws (show (f:Int)<(m.r.seq:Int)+1 by omega),List.drop_append_of_le_length (by omega),List.sum_append]
   have:=h.late f (by omega)
   simp
   omega
  ·have ef:f=m.r.seq+1:=by omega
   rw [ef,late_zero okL]
   exact Nat.zero_le _
theorem Wrote.no {m:Rm} {wr:List Nat} (h:Wrote m wr) {ws:List Wr} {x:Int} (e:m.comE ws x≠0):Wrote (m.com ws x) wr:=by rw [(Rm.com_no e).1]; exact h
theorem Wrote.sw {m:Rm} {wr:List Nat} (h:Wrote m wr):Wrote m.sw wr:=⟨h.seq,h.beg,fun f hf=>Nat.le_trans (late_swept m.L _ _) (h.late f hf)⟩
theorem Wrote.kept {m:Rm} {wr:List Nat} (h:Wrote m wr) (ok:m.Ok):m.sw.L.vers<=m.ents.length+2 * (wr.drop (wr.length+1-m.r.size)).sum:=by
 have hf:m.r.floor=wr.length+1-m.r.size:=by unfold Rg.floor; rw [h.seq,h.beg]; omega
 have v:=vers_swept (f:=m.floor) (q:=m.seq) (L:=m.L) fun y hy=>⟨rise_of_right (ok.L.right y hy),ok.L.le y hy⟩
 have l:=h.late (wr.length+1-m.r.size) (by have:=ok.r.s1; omega)
 rw [<-hf] at l ⊢
 have v:m.sw.L.vers<=m.ents.length+2 * Go.Proofs.YtbfgpdgiaclphaaGreat.late (m.r.floor:Int) m.L:=v
 omega

end Go.Proofs.YtbfgpdgiaclphaaGreat
