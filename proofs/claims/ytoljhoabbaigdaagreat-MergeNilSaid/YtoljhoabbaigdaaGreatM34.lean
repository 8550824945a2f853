/- Proved parts: B5p. Conditions: each theorem's own. -/
import Derived.Test.YtoljhoabbaigdaaGreatM26
import Derived.Test.YtoljhoabbaigdaaGreatM33
import Derived.Test.YtoljhoabbaigdaaGreatQ0
set_option maxRecDepth 100000
set_option maxHeartbeats 8000000
namespace Go.Proofs.YtoljhoabbaigdaaGreat
open Go.RowKit

theorem key_ks (l:KV) (i:Nat):l.key i=(l.map Prod.fst).getD i ⟨#[]⟩:=by
 unfold KV.key
 rw [List.getD_eq_getElem?_getD,List.getD_eq_getElem?_getD,List.getElem?_map]
 cases l[i]?<;>rfl
theorem pos_congr {k:ByteArray}:∀ {l l':KV},l.map Prod.fst=l'.map Prod.fst->l.pos k=l'.pos k
 | [],[],_=>rfl
 | [],_ :: _,h=>by simp at h
 | _ :: _,[],h=>by simp at h
 | x :: l,y :: l',h=>by
  simp only [List.map_cons,List.cons.injEq] at h
  have ih:=pos_congr (k:=k) h.2
  unfold KV.pos
  rw [h.1]
  split
  ·rw [ih]
  ·rfl
theorem has_congr {k:ByteArray} {l l':KV} (h:l.map Prod.fst=l'.map Prod.fst):l.has k=l'.has k:=by
 rw [Bool.eq_iff_iff,KV.has_iff,KV.has_iff,pos_congr (k:=k) h,key_ks,key_ks,h]
 have e:l.length=l'.length:=by have:=congrArg List.length h; simpa using this
 rw [e]
theorem mem_set_iff {α:Type} {l:List α} {i:Nat} {x y:α} (hi:i<l.length):y ∈ l.set i x↔y=x∨∃ j,j≠i∧l[j]?=some y:=by
 rw [List.mem_iff_getElem?]
 constructor
 ·rintro ⟨j,e⟩
  by_cases z:i=j
  ·subst z
   rw [List.getElem?_set_self hi] at e
   injection e with e; exact .inl e.symm
  ·rw [List.getElem?_set_ne z] at e
   exact .inr ⟨j,fun q=>z q.symm,e⟩
 ·rintro (rfl | ⟨j,hn,e⟩)
  ·exact ⟨i,List.getElem?_set_self hi⟩
  ·exact ⟨j,by rw [List.getElem?_set_ne (fun q=>hn q.symm)]; exact e⟩
namespace Ch
variable {L:Ch} {k k':ByteArray} {c:List Ver}
def give (L:Ch) (k:ByteArray) (c:List Ver):Ch:=if L.has k then L.set (L.pos k) (k,c) else L.take (L.pos k)++(k,c) :: L.drop (L.pos k)
def cut (L:Ch) (k:ByteArray):Ch:=L.take (L.pos k)++L.drop (L.pos k+1)
theorem put_give (L:Ch) (k:ByteArray) (v:Ver):L.put k v=L.give k (L.of k++[v]):=by
 unfold put give of
 cases L.has k<;>rfl
theorem give_keys (L:Ch) (k:ByteArray) (c:List Ver) (v:Ver):(L.give k c).map Prod.fst=(L.put k v).map Prod.fst:=by
 unfold put give
 cases L.has k
 ·simp
 ·simp [List.map_set]
theorem rise_iff (L:Ch):L.Rise↔(L.map Prod.fst).Pairwise fun a b=>ltB a b=true:=by unfold Rise; rw [List.pairwise_map]
theorem rise_give (h:L.Rise):(L.give k c).Rise:=by
 rw [rise_iff,give_keys L k c Ver.Z,<-rise_iff]; exact rise_put h
theorem give_len (L:Ch) (k:ByteArray) (c:List Ver):(L.give k c).length=if L.has k then L.length else L.length+1:=by
 have:=congrArg List.length (give_keys L k c Ver.Z)
 simp only [List.length_map] at this
 rw [this,put_len]
theorem mem_key_ne (h:L.Rise) (hk:L.has k=true) {j:Nat} {y:ByteArray × List Ver} (e:L[j]?=some y):y.1≠k↔j≠L.pos k:=by
 obtain ⟨p,ek⟩:=(has_iff L k).1 hk
 obtain ⟨hj,e⟩:=List.getElem?_eq_some_iff.1 e
 rw [getE L hj] at e
 have ey:y.1=L.key j:=by rw [<-e]
 rw [ey]
 constructor
 ·intro n z; rw [z] at n; exact n ek
 ·intro n
  rcases Nat.lt_or_ge j (L.pos k) with w | w
  ·exact ne_below w
  ·exact ne_above h (by omega) hj
theorem mem_give (h:L.Rise) {y:ByteArray × List Ver}:y ∈ L.give k c↔y=(k,c)∨(y ∈ L∧y.1≠k):=by
 cases q:L.has k with
 | true =>
  obtain ⟨p,e⟩:=(has_iff L k).1 q
  have eg:L.give k c=L.set (L.pos k) (k,c):=by unfold give; rw [if_pos q]
  rw [eg,mem_set_iff p]
  constructor
  ·rintro (z | ⟨j,hn,e⟩)
   ·exact .inl z
   ·exact .inr ⟨List.mem_of_getElem? e,(mem_key_ne h q e).2 hn⟩
  ·rintro (z | ⟨hm,hn⟩)
   ·exact .inl z
   ·obtain ⟨j,e⟩:=List.mem_iff_getElem?.1 hm
    exact .inr ⟨j,(mem_key_ne h q e).1 hn,e⟩
 | false =>
  have eg:L.give k c=L.take (L.pos k)++(k,c) :: L.drop (L.pos k):=by unfold give; rw [q]; rfl
  have hl:y ∈ L↔y ∈ L.take (L.pos k)∨y ∈ L.drop (L.pos k):=by rw [<-List.mem_append,List.take_append_drop]
  have hn:y ∈ L->y.1≠k:=fun hm e=>by
   obtain ⟨a,b⟩:=y
   have:=has_mem hm h
   rw [show (a,b).1=a from rfl] at e
   rw [e,q] at this; cases this
  rw [eg,List.mem_append,List.mem_cons]
  constructor
  ·rintro (m | m | m)
   ·have:=hl.2 (.inl m); exact .inr ⟨this,hn this⟩
   ·exact .inl m
   ·have:=hl.2 (.inr m); exact .inr ⟨this,hn this⟩
  ·rintro (m | ⟨m,_⟩)
   ·exact .inr (.inl m)
   ·rcases hl.1 m with z | z
    ·exact .inl z
    ·exact .inr (.inr z)
theorem at_pos (hk:L.has k=true):L=L.take (L.pos k)++(k,L.of k) :: L.drop (L.pos k+1):=by
 obtain ⟨p,e⟩:=(has_iff L k).1 hk
 have eo:L.of k=L.chn (L.pos k):=by unfold of; rw [if_pos hk]
 have:=List.take_append_drop (L.pos k) L
 rw [List.drop_eq_getElem_cons p,getE L p,e,<-eo] at this
 exact this.symm
theorem sum_cut (g:ByteArray × List Ver->Nat) (hk:L.has k=true):((L.cut k).map g).sum+g (k,L.of k)=(L.map g).sum:=by
 have h:=congrArg (fun l=>(List.map g l).sum) (at_pos hk)
 simp only [List.map_append,List.map_cons,List.sum_append,List.sum_cons] at h
 unfold cut
 rw [List.map_append,List.sum_append]
 omega
theorem sum_give (g:ByteArray × List Ver->Nat) (h0:g (k,[])=0) (c:List Ver):((L.give k c).map g).sum+g (k,L.of k)=(L.map g).sum+g (k,c):=by
 cases q:L.has k with
 | true =>
  have eg:L.give k c=L.take (L.pos k)++(k,c) :: L.drop (L.pos k+1):=by
   unfold give
   rw [if_pos q,List.set_eq_take_append_cons_drop,if_pos ((has_iff L k).1 q).1]
  have h:=sum_cut g q
  unfold cut at h
  rw [List.map_append,List.sum_append] at h
  rw [eg,List.map_append,List.sum_append,List.map_cons,List.sum_cons]
  omega
 | false =>
  have eg:L.give k c=L.take (L.pos k)++(k,c) :: L.drop (L.pos k):=by unfold give; rw [q]; rfl
  have e:=congrArg (fun l=>(List.map g l).sum) (List.take_append_drop (L.pos k) L)
  simp only [List.map_append,List.sum_append] at e
  rw [eg,of_no q,h0,List.map_append,List.sum_append,List.map_cons,List.sum_cons]
  omega
def aliv (x:ByteArray × List Ver):Nat:=if x.2.length=0∨(lastL x.2).gone=true then 0 else 1
def alive (L:Ch):Nat:=(L.map aliv).sum
end Ch
theorem kv_uniq {l:KV} (h:RiseL l) {k:ByteArray} {p q:Int} (hp:(k,p) ∈ l) (hq:(k,q) ∈ l):p=q:=by
 obtain ⟨i,hi,ei⟩:=List.mem_iff_getElem.1 hp
 obtain ⟨j,hj,ej⟩:=List.mem_iff_getElem.1 hq
 have hr:=List.pairwise_iff_getElem.1 h
 rcases Nat.lt_trichotomy i j with w | w | w
 ·have:=hr i j hi hj w
  rw [ei,ej] at this
  rw [show ltB (k,p).1 (k,q).1=ltB k k from rfl,ltB_irr] at this; cases this
 ·subst w
  rw [ei] at ej
  injection ej
 ·have:=hr j i hj hi w
  rw [ei,ej] at this
  rw [show ltB (k,q).1 (k,p).1=ltB k k from rfl,ltB_irr] at this; cases this
structure Fine (l:KV) (cs:List (List Ver)) (fr:List Nat) (L:Ch):Prop where
 rise:L.Rise
 ksz:∀ x,x ∈ L->x.1.size<=1000
 keys:l.map Prod.fst=L.map Prod.fst
 at_:∀ k p,(k,p) ∈ l->∃ n:Nat,p=n∧n<cs.length∧(k,cs.getD n []) ∈ L∧n ∉ fr
 inj:∀ k k' p,(k,p) ∈ l->(k',p) ∈ l->k=k'
 frlt:∀ p,p ∈ fr->p<cs.length
 frnd:fr.Nodup
 len:cs.length=L.length+fr.length
namespace Fine
variable {l:KV} {cs cs':List (List Ver)} {fr fr':List Nat} {L:Ch} {k:ByteArray} {c:List Ver} {n:Nat}
theorem nil:Fine [] [] [] []:=⟨List.Pairwise.nil,fun _ h=>(by cases h),rfl,fun _ _ h=>(by cases h),fun _ _ _ h=>(by cases h),fun _ h=>(by cases h),List.nodup_nil,rfl⟩
theorem riseL (h:Fine l cs fr L):RiseL l:=by
 have:=(Ch.rise_iff L).1 h.rise
 rw [<-h.keys,List.pairwise_map] at this
 exact this
theorem llen (h:Fine l cs fr L):l.length=L.length:=by have:=congrArg List.length h.keys; simpa using this
theorem kvk (h:Fine l cs fr L):l.map Prod.fst=(Ch.kv L).map Prod.fst:=by rw [h.keys]; unfold Ch.kv; simp
theorem pos (h:Fine l cs fr L) (k:ByteArray):l.pos k=L.pos k:=pos_congr h.kvk
theorem has (h:Fine l cs fr L) (k:ByteArray):l.has k=L.has k:=has_congr h.kvk
theorem key (h:Fine l cs fr L) {i:Nat} (hi:i<L.length):l.key i=L.key i:=by
 rw [key_ks,h.keys]
 unfold Ch.key
 rw [List.getD_eq_getElem?_getD,List.getD_eq_getElem?_getD,List.getElem?_map,List.getElem?_eq_getElem hi]; rfl
theorem kmem (h:Fine l cs fr L) {k:ByteArray} {p:Int} (hm:(k,p) ∈ l):k.size<=1000:=by
 obtain ⟨n,_,_,hL,_⟩:=h.at_ k p hm
 exact h.ksz _ hL
theorem nth (h:Fine l cs fr L) {i:Nat} (hi:i<L.length):∃ n:Nat,l.num i=n∧n<cs.length∧cs.getD n []=L.chn i∧n ∉ fr∧(L.key i,(n:Int)) ∈ l:=by
 have hl:i<l.length:=by rw [h.llen]; exact hi
 have e:=KV.getE l i hl
 have hm:(L.key i,l.num i) ∈ l:=by rw [<-h.key hi,<-e]; exact List.getElem_mem hl
 obtain ⟨n,e1,e2,e3,e4⟩:=h.at_ _ _ hm
 have:=Ch.of_mem h.rise e3
 rw [Ch.of_at h.rise hi] at this
 exact ⟨n,e1,e2,this.symm,e4,by rw [<-e1]; exact hm⟩
theorem place (h:Fine l cs fr L) (hk:L.has k=true):∃ n:Nat,l.num (l.pos k)=n∧n<cs.length∧cs.getD n []=L.of k∧n ∉ fr∧(k,(n:Int)) ∈ l:=by
 obtain ⟨p,e⟩:=(Ch.has_iff L k).1 hk
 obtain ⟨n,e1,e2,e3,e4,e5⟩:=h.nth p
 rw [e] at e5
 refine ⟨n,by rw [h.pos]; exact e1,e2,?_,e4,e5⟩
 rw [e3]; unfold Ch.of; rw [if_pos hk]
theorem getD_set_ne {cs:List (List Ver)} {n m:Nat} (h:m≠n) (c:List Ver):(cs.set n c).getD m []=cs.getD m []:=by
 rw [List.getD_eq_getElem?_getD,List.getD_eq_getElem?_getD,List.getElem?_set_ne (fun e=>h e.symm)]
theorem getD_set_self {cs:List (List Ver)} {n:Nat} (h:n<cs.length) (c:List Ver):(cs.set n c).getD n []=c:=by
 rw [List.getD_eq_getElem?_getD,List.getElem?_set_self h]; rfl
theorem old (h:Fine l cs fr L) (hm:(k,(n:Int)) ∈ l) (hk:L.has k=true):Fine l (cs.set n c) fr (L.give k c):=by
 obtain ⟨n',e',lt,hL,nf⟩:=h.at_ _ _ hm
 obtain rfl:n'=n:=by omega
 have gl:(L.give k c).length=L.length:=by rw [Ch.give_len,if_pos hk]
 refine ⟨Ch.rise_give h.rise,fun x hx=>?_,?_,fun k' p hp=>?_,h.inj,fun p hp=>by rw [List.length_set]; exact h.frlt p hp,h.frnd,by rw [List.length_set,gl]; exact h.len⟩
 ·rcases (Ch.mem_give h.rise).1 hx with e | ⟨e,_⟩
  ·subst e; have:=h.ksz _ hL; exact this
  ·exact h.ksz x e
 ·rw [h.keys]
  unfold Ch.give
  rw [if_pos hk,List.map_set]
  obtain ⟨p,e⟩:=(Ch.has_iff L k).1 hk
  refine (List.ext_getElem (by simp) fun i h1 h2=>?_)
  rw [List.getElem_set]
  split
  ·rename_i z; subst z; rw [List.getElem_map,Ch.getE L p]; exact e
  ·rfl
 ·by_cases z:k'=k
  ·subst z
   have:=kv_uniq h.riseL hp hm
   exact ⟨n',this,by rw [List.length_set]; exact lt,by rw [getD_set_self lt]; exact (Ch.mem_give h.rise).2 (.inl rfl),nf⟩
  ·obtain ⟨m,e1,e2,e3,e4⟩:=h.at_ k' p hp
   have hn:m≠n':=fun e=>by subst e; rw [e1] at hp; exact z (h.inj _ _ _ hp hm)
   exact ⟨m,e1,by rw [List.length_set]; exact e2,by rw [getD_set_ne hn]; exact (Ch.mem_give h.rise).2 (.inr ⟨e3,z⟩),e4⟩
theorem new (h:Fine l cs fr L) (hk:L.has k=false) (ks:k.size<=1000) (n1:n<cs'.length) (n2:cs'.getD n []=c) (n3:∀ m,m<cs.length->m ∉ fr->m≠n∧cs'.getD m []=cs.getD m []) (n4:∀ m,m ∈ fr'->m ∈ fr∧m≠n)
  (n5:fr'.Nodup) (n6:cs.length<=cs'.length) (n7:cs'.length=L.length+1+fr'.length):Fine (l.put k n) cs' fr' (L.give k c):=by
 have hl:l.has k=false:=by rw [h.has]; exact hk
 have ep:l.put k n=l.take (l.pos k)++(k,(n:Int)) :: l.drop (l.pos k):=by unfold KV.put; rw [hl]; rfl
 have eg:L.give k c=L.take (L.pos k)++(k,c) :: L.drop (L.pos k):=by unfold Ch.give; rw [hk]; rfl
 have hm:∀ x,x ∈ l.put k n↔x=(k,(n:Int))∨x ∈ l:=fun x=>by
  have hl:x ∈ l↔x ∈ l.take (l.pos k)∨x ∈ l.drop (l.pos k):=by rw [<-List.mem_append,List.take_append_drop]
  rw [ep,List.mem_append,List.mem_cons,hl]
  constructor
  ·rintro (z | z | z)
   ·exact .inr (.inl z)
   ·exact .inl z
   ·exact .inr (.inr z)
  ·rintro (z | z | z)
   ·exact .inr (.inl z)
   ·exact .inl z
   ·exact .inr (.inr z)
 have nk:∀ k' p,(k',p) ∈ l->k'≠k:=fun k' p hp e=>by
  obtain ⟨m,_,_,e3,_⟩:=h.at_ k' p hp
  have:=Ch.has_mem e3 h.rise
  rw [e,hk] at this; cases this
 refine ⟨Ch.rise_give h.rise,fun x hx=>?_,?_,fun k' p hp=>?_,fun a b p ha hb=>?_,fun p hp=>?_,n5,by rw [Ch.give_len,hk,if_neg (by decide)]; exact n7⟩
 ·rcases (Ch.mem_give h.rise).1 hx with e | ⟨e,_⟩
  ·rw [e]; exact ks
  ·exact h.ksz x e
 ·rw [ep,eg,<-h.pos k]
  simp only [List.map_append,List.map_cons,List.map_take,List.map_drop,h.keys]
 ·rcases (hm _).1 hp with e | e
  ·injection e with e1 e2
   subst e1
   exact ⟨n,e2,n1,by rw [n2]; exact (Ch.mem_give h.rise).2 (.inl rfl),fun z=>(n4 _ z).2 rfl⟩
  ·obtain ⟨m,e1,e2,e3,e4⟩:=h.at_ k' p e
   obtain ⟨m1,m2⟩:=n3 m e2 e4
   exact ⟨m,e1,by omega,by rw [m2]; exact (Ch.mem_give h.rise).2 (.inr ⟨e3,nk _ _ e⟩),fun z=>e4 (n4 _ z).1⟩
 ·have one:∀ a,(a,(n:Int)) ∈ l->False:=fun a hp=>by
   obtain ⟨m,e1,e2,_,e4⟩:=h.at_ a _ hp
   obtain rfl:m=n:=by omega
   exact (n3 m e2 e4).1 rfl
  rcases (hm _).1 ha with e | e
  ·injection e with e1 e2
   subst e1
   rcases (hm _).1 hb with f | f
   ·injection f with f1 f2; exact f1.symm
   ·rw [e2] at f; exact (one _ f).elim
  ·rcases (hm _).1 hb with f | f
   ·injection f with f1 f2; rw [f2] at e; exact (one _ e).elim
   ·exact h.inj _ _ _ e f
 ·have:=h.frlt p (n4 _ hp).1; omega
theorem push (h:Fine l cs fr L) (hk:L.has k=false) (ks:k.size<=1000):Fine (l.put k (cs.length:Nat)) (cs++[c]) fr (L.give k c):=by
 refine h.new hk ks (by simp) ?_ (fun m hm _=>⟨by omega,?_⟩) (fun m hm=>⟨hm,by have:=h.frlt m hm; omega⟩) h.frnd (by simp) (by have:=h.len; simp; omega)
 ·rw [List.getD_eq_getElem?_getD,List.getElem?_append_right (Nat.le_refl _),Nat.sub_self]; rfl
 ·rw [List.getD_eq_getElem?_getD,List.getD_eq_getElem?_getD,List.getElem?_append_left hm]
theorem reuse (h:Fine l cs (fr++[n]) L) (hk:L.has k=false) (ks:k.size<=1000):Fine (l.put k n) (cs.set n c) fr (L.give k c):=by
 have nl:n<cs.length:=h.frlt n (by simp)
 have nd:=List.nodup_append.1 h.frnd
 have hn:∀ m,m ∈ fr->m≠n:=fun m hm=>nd.2.2 m hm n (by simp)
 refine h.new hk ks (by rw [List.length_set]; exact nl) (getD_set_self nl c) (fun m hm hf=>?_) (fun m hm=>⟨by simp [hm],hn m hm⟩) nd.1 (by rw [List.length_set]; exact Nat.le_refl _) (by have:=h.len; simp at this; rw [List.length_set]; omega)
 have:m≠n:=fun e=>hf (by rw [e]; simp)
 exact ⟨this,getD_set_ne this c⟩
end Fine

end Go.Proofs.YtoljhoabbaigdaaGreat
