/- Proved parts: B1a B1g B1h B1k B2m B2n B2s H1m B2f B3o B3p B3f. Conditions: each theorem's own. -/
import Derived.Test.YtoljhoabbaigdaaGreatM24
import Derived.Test.YtoljhoabbaigdaaGreatM25
import Derived.Deep.RegionHeldLaw
import Derived.Test.YtoljhoabbaigdaaGreatM9
import Derived.Test.YtoljhoabbaigdaaGreatM2
import Derived.Test.YtoljhoabbaigdaaGreatM8
import Derived.Test.YtoljhoabbaigdaaGreatQ0
set_option maxRecDepth 100000
set_option maxHeartbeats 8000000
namespace Go.Proofs.YtoljhoabbaigdaaGreat
open Go.RowKit

def stOk (zs:List Int) (g1 g2 g3:Int):Bool:=La.right zs && (decide (1<=g1) && (decide (g1<=16) && (decide (0<=g2) && (decide (g2<=1048576) && (decide (1<=g3) && decide (g3<=1073741824))))))

end Go.Proofs.YtoljhoabbaigdaaGreat

namespace Go.Proofs.YtoljhoabbaigdaaGreat
open Go.RowKit

theorem RiseV.drop {l:List Ver} (h:RiseV l) (k:Nat):RiseV (l.drop k):=fun i j hij hj=>by
 rw [List.length_drop] at hj
 rw [getD_drop,getD_drop]
 exact h _ _ (by omega) (by omega)
theorem mem_swept {L:Ch} {f:Int} {x:ByteArray × List Ver} (h:x ∈ L.swept f):∃ y,(x.1,y) ∈ L∧x.2=sweepL y f:=by
 unfold Ch.swept at h
 obtain ⟨h1,_⟩:=List.mem_filter.1 h
 obtain ⟨y,hy,rfl⟩:=List.mem_map.1 h1
 exact ⟨y.2,hy,rfl⟩
theorem swept_len (L:Ch) (f:Int):(L.swept f).length<=L.length:=by
 unfold Ch.swept
 refine Nat.le_trans (List.length_filter_le _ _) ?_
 rw [List.length_map]; exact Nat.le_refl _
theorem GoodC.swept {L:Ch} (h:GoodC L) (f:Int):GoodC (L.swept f):=by
 refine ⟨Nat.le_trans (swept_len L f) h.len,fun x hx=>?_,fun x hx=>?_,fun x hx=>?_,fun x hx=>?_,?_,fun x hx=>?_⟩
 ·obtain ⟨y,hy,e⟩:=mem_swept hx
  rw [e]; exact fun z hz=>h.fits _ hy z (List.mem_of_mem_drop hz)
 ·obtain ⟨y,hy,e⟩:=mem_swept hx
  rw [e]; exact fun z hz=>h.texts _ hy z (List.mem_of_mem_drop hz)
 ·obtain ⟨y,hy,e⟩:=mem_swept hx
  rw [e]; unfold sweepL; rw [List.length_drop]; have:y.length<=1000:=h.lens _ hy; omega
 ·obtain ⟨y,hy,e⟩:=mem_swept hx
  exact h.keys (x.1,y) hy
 ·unfold Ch.Rise Ch.swept
  refine List.Pairwise.filter _ ?_
  rw [List.pairwise_map]
  exact h.rise
 ·obtain ⟨y,hy,e⟩:=mem_swept hx
  rw [e]; exact (h.rises _ hy).drop _
section
variable {w w' w2 w3 w4:World} {p q:Nat} {v lb:Value} {g2 g3:Int} {r r':Rg} {G:Nat->Prop} {A A':Option Addr} {c c':Nat} {L M:Ch}
end

end Go.Proofs.YtoljhoabbaigdaaGreat

namespace Go.Proofs.YtoljhoabbaigdaaGreat
open Go.RowKit

def ecs (l:List En):List Value:=l.flatMap En.cs
def OwnEn (w:World) (B:Nat) (v:Value) (l:List En):Prop:=w.ownsRow B 178 5 v l.length (ecs l)
section
variable {w w':World} {B:Nat} {v:Value} {l:List En}
theorem OwnEn.sl (h:OwnEn w B v l):∃ A c,v=.slice A l.length c∧SlEn w A l:=by
 have h1:=h
 unfold OwnEn at h1
 rcases h.2 with ⟨rfl,h0⟩ | ⟨g,cap,cur,rfl,hB,hg,_⟩
 ·exact ⟨none,0,by rw [h0],fun hp=>by omega⟩
 ·refine ⟨_,cap,rfl,fun hp=>⟨g,0,rfl,(Array.getElem?_eq_some_iff.1 hg).1,fun j hj=>?_⟩⟩
  have at_:∀ i,i<5->w.cell? ⟨g,j * 5+i,none⟩=(l.getD j En.Z).cs[i]?:=fun i hi=>by
   rw [h1.cellAt (j * 5+i) (by omega),List.getD_eq_getElem?_getD,List.getElem?_eq_getElem hj]
   exact flat_at (f:=En.cs) (n:=5) (fun _=>rfl) l j i hj hi
  rw [Nat.zero_add]
  exact ⟨at_ 0 (by decide),at_ 1 (by decide),at_ 2 (by decide),at_ 3 (by decide),at_ 4 (by decide)⟩
theorem OwnEn.below (h:OwnEn w B v l) (hb:Below w.heap.size w w'):OwnEn w' B v l:=by
 rcases h with ⟨h1,h2⟩
 refine ⟨h1,?_⟩
 rcases h2 with ⟨rfl,h0⟩ | ⟨g,cap,cur,rfl,hB,hg,r⟩
 ·exact .inl ⟨rfl,h0⟩
 ·refine .inr ⟨g,cap,cur,rfl,hB,?_,r⟩
  have hl:g<w.heap.size:=(Array.getElem?_eq_some_iff.1 hg).1
  rw [hb.block g hl]; exact hg
theorem OwnEn.alloc (h:OwnEn w B v l) (o:Obj):OwnEn (w.alloc o) B v l:=World.ownsRow.alloc h o
theorem OwnEn.lt (h:OwnEn w B v l):∀ k,v.ownBlock=some k->B<=k∧k<w.heap.size:=World.ownsRow.lt h
theorem OwnEn.made (w:World) (hB:B<=w.heap.size):OwnEn (w.alloc (.cells #[] 178)) B (.slice (some ⟨w.heap.size,0,none⟩) 0 0) [] :=
 World.ownsRow_made w #[] 0 hB (Nat.zero_le _) (by simp)
end
theorem ents_succ (L:Ch) (s:Int) {i:Nat} (hi:i<L.length):Ch.ents (L.take (i+1)) s=if atOk (L.chn i) s=true then Ch.ents (L.take i) s++[⟨L.key i,(atL (L.chn i) s).seq,(atL (L.chn i) s).val⟩] else Ch.ents (L.take i) s:=by
 unfold Ch.ents
 rw [List.take_succ_eq_append_getElem hi,List.filterMap_append,Ch.getE L hi]
 cases z:atOk (L.chn i) s with
 | true=>rw [if_pos rfl]; simp [z]
 | false=>rw [if_neg (by simp)]; simp [z]
end Go.Proofs.YtoljhoabbaigdaaGreat

namespace Go.Proofs.YtoljhoabbaigdaaGreat
open Go.RowKit

def enOk (p:Option ByteArray) (sq:Int) (x:En):Bool:=keyOk x.key && (x.val.ok && (decide (1<=x.seq) && (decide (x.seq<=sq) && (match p with | none=>true | some k=>ltB k x.key))))
def prevE (l:List En) (i:Nat):Option ByteArray:=if i=0 then none else some (l.getD (i-1) En.Z).key
def mayE (l:List En) (sq:Int):Bool:=(List.range l.length).all fun i=>enOk (prevE l i) sq (l.getD i En.Z)
theorem mayE_no {l:List En} {sq:Int} {i:Nat} (hi:i<l.length) (h:enOk (prevE l i) sq (l.getD i En.Z)=false):mayE l sq=false:=by
 cases q:mayE l sq with
 | false=>rfl
 | true =>
  unfold mayE at q
  simp only [List.all_eq_true,List.mem_range] at q
  have:=q i hi
  rw [h] at this; cases this
theorem mayE_yes {l:List En} {sq:Int} (h:∀ j,j<l.length->enOk (prevE l j) sq (l.getD j En.Z)=true):mayE l sq=true:=by
 unfold mayE
 simp only [List.all_eq_true,List.mem_range]
 exact h
theorem prevE_succ (l:List En) (i:Nat):prevE l (i+1)=some (l.getD i En.Z).key:=by
 unfold prevE
 rw [if_neg (by omega),Nat.add_sub_cancel]
def En.ver (x:En):Ver:=⟨x.seq,false,x.val⟩
def loadL (l:List En):Ch:=l.map fun x=>(x.key,[x.ver])
theorem loadL_succ (l:List En) {i:Nat} (hi:i<l.length):loadL (l.take (i+1))=loadL (l.take i)++[((l.getD i En.Z).key,[(l.getD i En.Z).ver])]:=by
 unfold loadL
 rw [List.take_succ_eq_append_getElem hi,List.map_append,List.getD_eq_getElem?_getD,List.getElem?_eq_getElem hi]
 rfl
theorem loadL_len (l:List En):(loadL l).length=l.length:=by unfold loadL; rw [List.length_map]
def ldE (zs:List Int) (g1 g2 g3 sq:Int) (l:List En):Int :=
 if (stOk zs g1 g2 g3 && (decide (0<=sq) && decide (sq<=g3)))=false then 1 else if mayE l sq=false then 1 else if g2<((loadL l).live:Int) then 15 else 0
def FitsE (l:List En):Prop:=∀ x,x ∈ l->x.val.Fits∧x.key.size<=1000∧x.val.txt.size<=1000
theorem FitsE.get {l:List En} (h:FitsE l) {i:Nat} (hi:i<l.length):(l.getD i En.Z).val.Fits∧(l.getD i En.Z).key.size<=1000∧(l.getD i En.Z).val.txt.size<=1000:=by
 rw [List.getD_eq_getElem?_getD,List.getElem?_eq_getElem hi]
 exact h _ (List.getElem_mem hi)
theorem loadL_key (l:List En) {i:Nat} (hi:i<l.length):(loadL l).key i=(l.getD i En.Z).key:=by
 unfold Ch.key loadL
 rw [List.getD_eq_getElem?_getD,List.getD_eq_getElem?_getD,List.getElem?_map,List.getElem?_eq_getElem hi]; rfl
theorem loadL_rise {l:List En} {sq:Int} (h:mayE l sq=true):(loadL l).Rise:=by
 unfold mayE at h
 simp only [List.all_eq_true,List.mem_range] at h
 have step:∀ j,j+1<l.length->ltB (l.getD j En.Z).key (l.getD (j+1) En.Z).key=true:=fun j hj=>by
  have:=h (j+1) hj
  rw [prevE_succ] at this
  unfold enOk at this
  simp only [Bool.and_eq_true] at this
  exact this.2.2.2.2
 have all:∀ d i,i+d+1<l.length->ltB (l.getD i En.Z).key (l.getD (i+d+1) En.Z).key=true:=fun d=>by
  induction d with
  | zero=>exact fun i hi=>step i hi
  | succ d ih=>exact fun i hi=>ltB_trans (ih i (by omega)) (step (i+d+1) (by omega))
 refine List.pairwise_iff_getElem.2 fun i j hi hj hij=>?_
 rw [Ch.getE _ hi,Ch.getE _ hj]
 rw [loadL_len] at hi hj
 show ltB ((loadL l).key i) ((loadL l).key j)=true
 rw [loadL_key l hi,loadL_key l hj]
 have:=all (j-i-1) i (by omega)
 rwa [show i+(j-i-1)+1=j by omega] at this
theorem loadL_good {l:List En} {sq:Int} (h:mayE l sq=true) (hf:FitsE l) (hl:l.length<=10000):GoodC (loadL l):=by
 have mem:∀ x,x ∈ loadL l->∃ y,y ∈ l∧x=(y.key,[y.ver]):=fun x hx=>by
  obtain ⟨y,hy,rfl⟩:=List.mem_map.1 hx
  exact ⟨y,hy,rfl⟩
 refine ⟨by rw [loadL_len]; omega,fun x hx=>?_,fun x hx y hy=>?_,fun x hx=>?_,fun x hx=>?_,loadL_rise h,fun x hx=>?_⟩
 ·obtain ⟨y,hy,rfl⟩:=mem x hx
  intro z hz
  simp at hz
  subst hz
  exact (hf y hy).1
 ·obtain ⟨z,hz,rfl⟩:=mem x hx
  simp at hy
  subst hy
  exact (hf z hz).2.2
 ·obtain ⟨y,hy,rfl⟩:=mem x hx
  exact Nat.le_trans (Nat.le_refl 1) (by decide)
 ·obtain ⟨y,hy,rfl⟩:=mem x hx
  exact (hf y hy).2.1
 ·obtain ⟨y,hy,rfl⟩:=mem x hx
  intro i j hij hj
  simp at hj
  omega
section
variable {w w1 w7:World} {x q B N1 b0:Nat} {g2 g3:Int} {lb v v':Value} {rg:Rg} {cs:List Value} {t0:TypeId} {zs:Zs} {L:Ch} {k:ByteArray} {y:Ver}
end


end Go.Proofs.YtoljhoabbaigdaaGreat

namespace Go.Proofs.YtoljhoabbaigdaaGreat
open Go.RowKit

namespace Ch
variable {L:Ch} {k k':ByteArray} {v:Ver} {l:List Ver} {i:Nat}
theorem pos_of (h:L.Rise) (hi:i<L.length):L.pos (L.key i)=i:=by
 rcases Nat.lt_trichotomy (L.pos (L.key i)) i with q | q | q
 ·have:=stop (L:=L) (k:=L.key i) (by omega)
  rw [rise_at h q hi] at this; cases this
 ·exact q
 ·have:=below (L:=L) (k:=L.key i) q
  rw [ltB_irr] at this; cases this
theorem has_at (h:L.Rise) (hi:i<L.length):L.has (L.key i)=true:=(has_iff L _).2 ⟨by rw [pos_of h hi]; exact hi,by rw [pos_of h hi]⟩
theorem of_at (h:L.Rise) (hi:i<L.length):L.of (L.key i)=L.chn i:=by
 unfold of
 rw [has_at h hi,if_pos rfl,pos_of h hi]
theorem mem_at:(k,l) ∈ L↔∃ i,i<L.length∧L.key i=k∧L.chn i=l:=by
 constructor
 ·intro h
  obtain ⟨i,hi,e⟩:=List.mem_iff_getElem.1 h
  rw [getE L hi] at e
  injection e with e1 e2
  exact ⟨i,hi,e1,e2⟩
 ·rintro ⟨i,hi,e1,e2⟩
  refine List.mem_iff_getElem.2 ⟨i,hi,?_⟩
  rw [getE L hi,e1,e2]
theorem of_mem (h:L.Rise) (hm:(k,l) ∈ L):L.of k=l:=by
 obtain ⟨i,hi,rfl,rfl⟩:=mem_at.1 hm
 exact of_at h hi
theorem has_mem (hm:(k,l) ∈ L) (h:L.Rise):L.has k=true:=by
 obtain ⟨i,hi,rfl,rfl⟩:=mem_at.1 hm
 exact has_at h hi
theorem mem_has (h:L.has k=true):(k,L.of k) ∈ L:=by
 obtain ⟨p,e⟩:=(has_iff L k).1 h
 refine mem_at.2 ⟨L.pos k,p,e,?_⟩
 unfold of
 rw [if_pos h]
theorem of_no (h:L.has k=false):L.of k=[]:=by unfold of; rw [h]; rfl
theorem mem_put (h:L.Rise) {y:ByteArray × List Ver}:y ∈ L.put k v↔y=(k,L.of k++[v])∨(y ∈ L∧y.1≠k):=by
 obtain ⟨a,b⟩:=y
 cases q:L.has k with
 | true =>
  obtain ⟨p,e⟩:=(has_iff L k).1 q
  have eo:L.of k=L.chn (L.pos k):=by unfold of; rw [if_pos q]
  have el:(L.put k v).length=L.length:=by unfold put; rw [if_pos q,List.length_set]
  rw [eo]
  constructor
  ·intro hm
   obtain ⟨i,hi,hy⟩:=List.mem_iff_getElem.1 hm
   rw [el] at hi
   have:=put_old (v:=v) q hi
   rw [List.getElem?_eq_getElem (by rw [el]; exact hi),hy] at this
   injection this with this
   by_cases z:i=L.pos k
   ·rw [if_pos z] at this; exact .inl this
   ·rw [if_neg z] at this
    injection this with e1 e2
    refine .inr ⟨mem_at.2 ⟨i,hi,e1.symm,e2.symm⟩,?_⟩
    show a≠k
    rw [e1]
    rcases Nat.lt_or_ge i (L.pos k) with w | w
    ·exact ne_below w
    ·exact ne_above h (by omega) hi
  ·rintro (hy | ⟨hm,hn⟩)
   ·rw [hy]
    refine List.mem_iff_getElem.2 ⟨L.pos k,by rw [el]; exact p,?_⟩
    have:=put_old (v:=v) q p
    rw [List.getElem?_eq_getElem (by rw [el]; exact p),if_pos rfl] at this
    injection this
   ·obtain ⟨i,hi,e1,e2⟩:=mem_at.1 hm
    have z:i≠L.pos k:=fun z=>hn (by show a=k; rw [<-e1,z,e])
    refine List.mem_iff_getElem.2 ⟨i,by rw [el]; exact hi,?_⟩
    have:=put_old (v:=v) q hi
    rw [List.getElem?_eq_getElem (by rw [el]; exact hi),if_neg z] at this
    injection this with this
    rw [this,e1,e2]
 | false =>
  have ep:L.put k v=L.take (L.pos k)++(k,[v]) :: L.drop (L.pos k):=by unfold put; rw [q]; rfl
  rw [ep,of_no q,List.nil_append,List.mem_append,List.mem_cons]
  have hl:∀ y:ByteArray × List Ver,y ∈ L↔y ∈ L.take (L.pos k)∨y ∈ L.drop (L.pos k):=fun y=>by rw [<-List.mem_append,List.take_append_drop]
  constructor
  ·rintro (hm | hm | hm)
   ·have hm':=(hl (a,b)).2 (.inl hm)
    exact .inr ⟨hm',fun e=>by have:=has_mem hm' h; rw [show (a,b).1=a from rfl] at e; rw [e,q] at this; cases this⟩
   ·exact .inl hm
   ·have hm':=(hl (a,b)).2 (.inr hm)
    exact .inr ⟨hm',fun e=>by have:=has_mem hm' h; rw [show (a,b).1=a from rfl] at e; rw [e,q] at this; cases this⟩
  ·rintro (hm | ⟨hm,_⟩)
   ·exact .inr (.inl hm)
   ·rcases (hl (a,b)).1 hm with w | w
    ·exact .inl w
    ·exact .inr (.inr w)
theorem rise_put (h:L.Rise):(L.put k v).Rise:=by
 cases q:L.has k with
 | true =>
  obtain ⟨p,e⟩:=(has_iff L k).1 q
  have el:(L.put k v).length=L.length:=by unfold put; rw [if_pos q,List.length_set]
  have at_:∀ i (hi:i<(L.put k v).length),((L.put k v)[i]).1=L.key i:=fun i hi=>by
   have:=put_old (v:=v) q (i:=i) (by omega)
   rw [List.getElem?_eq_getElem hi] at this
   injection this with this
   rw [this]
   by_cases z:i=L.pos k
   ·rw [if_pos z,z]; exact e.symm
   ·rw [if_neg z]
  refine List.pairwise_iff_getElem.2 fun i j hi hj hij=>?_
  rw [at_ i hi,at_ j hj]
  exact rise_at h hij (by omega)
 | false =>
  have ep:L.put k v=L.take (L.pos k)++(k,[v]) :: L.drop (L.pos k):=by unfold put; rw [q]; rfl
  rw [ep]
  have ht:∀ y,y ∈ L.take (L.pos k)->ltB y.1 k=true:=fun y hy=>by
   obtain ⟨i,hi,rfl⟩:=List.mem_iff_getElem.1 hy
   rw [List.length_take] at hi
   rw [List.getElem_take,getE L (by omega)]
   exact below (by omega)
  have hd:∀ y,y ∈ L.drop (L.pos k)->ltB k y.1=true:=fun y hy=>by
   obtain ⟨i,hi,rfl⟩:=List.mem_iff_getElem.1 hy
   rw [List.length_drop] at hi
   rw [List.getElem_drop,getE L (by omega)]
   by_cases z:i=0
   ·subst z; exact not_has q (by omega)
   ·exact above h (by omega) (by omega)
  refine List.pairwise_append.2 ⟨h.sublist (List.take_sublist _ _),List.pairwise_cons.2 ⟨fun y hy=>hd y hy,h.sublist (List.drop_sublist _ _)⟩,fun y hy z hz=>?_⟩
  rcases List.mem_cons.1 hz with e | hz
  ·rw [e]; exact ht y hy
  ·exact ltB_trans (ht y hy) (hd z hz)
theorem of_put (h:L.Rise):(L.put k v).of k'=if k'=k then L.of k++[v] else L.of k':=by
 by_cases z:k'=k
 ·rw [if_pos z,z]
  exact of_mem (rise_put h) ((mem_put h).2 (.inl rfl))
 ·rw [if_neg z]
  cases q:L.has k' with
  | true=>exact of_mem (rise_put h) ((mem_put h).2 (.inr ⟨mem_has q,z⟩))
  | false =>
   rw [of_no q]
   cases p:(L.put k v).has k' with
   | false=>exact of_no p
   | true =>
    rcases (mem_put h).1 (mem_has p) with e | ⟨e,_⟩
    ·injection e with e1 _; exact absurd e1 z
    ·have:=has_mem e h; rw [q] at this; cases this
theorem put_len_le:(L.put k v).length<=L.length+1:=by
 rw [put_len]
 split<;>omega
theorem of_swept (h:L.Rise) (f:Int):(L.swept f).of k=sweepL (L.of k) f:=by
 have hr:(L.swept f).Rise:=by
  unfold Rise swept
  refine List.Pairwise.filter _ ?_
  rw [List.pairwise_map]
  exact h
 by_cases z:sweepL (L.of k) f=[]
 ·rw [z]
  cases p:(L.swept f).has k with
  | false=>exact of_no p
  | true =>
   have hm:=mem_has p
   obtain ⟨y,hy,e⟩:=mem_swept hm
   have e1:=of_mem h hy
   have e:(L.swept f).of k=sweepL y f:=e
   rw [e,<-e1,z]
 ·have hk:L.has k=true:=by
   cases p:L.has k with
   | true=>rfl
   | false=>rw [of_no p] at z; exact absurd (by unfold sweepL; rw [List.drop_nil]) z
  refine of_mem hr ?_
  unfold swept
  refine List.mem_filter.2 ⟨List.mem_map.2 ⟨(k,L.of k),mem_has hk,rfl⟩,?_⟩
  cases e:sweepL (L.of k) f with
  | nil=>exact absurd e z
  | cons _ _=>rfl
end Ch

theorem snoc_get {l:List Ver} {v:Ver} {i:Nat} (h:i<l.length):(l++[v]).getD i Ver.Z=l.getD i Ver.Z:=by
 rw [List.getD_eq_getElem?_getD,List.getD_eq_getElem?_getD,List.getElem?_append_left h]
theorem snoc_last (l:List Ver) (v:Ver):(l++[v]).getD l.length Ver.Z=v:=by
 rw [List.getD_eq_getElem?_getD,List.getElem?_append_right (Nat.le_refl _)]; simp
def lastS (l:List Ver):Int:=if l.length=0 then 0 else (lastL l).seq
theorem rightL_snoc {l:List Ver} {v:Ver} (h:rightL l=true) (hv:mayV (lastS l) v=true):rightL (l++[v])=true:=by
 rw [rightL_iff] at h ⊢
 intro i hi
 rw [List.length_append] at hi
 by_cases z:i<l.length
 ·rw [snoc_get z]
  have:=h i z
  unfold prevS at this ⊢
  by_cases e:i=0
  ·rw [if_pos e] at this ⊢; exact this
  ·rw [if_neg e] at this ⊢; rw [snoc_get (by omega)]; exact this
 ·have e:i=l.length:=by simp at hi; omega
  rw [e,snoc_last]
  unfold prevS
  unfold lastS at hv
  by_cases e0:l.length=0
  ·rw [if_pos e0] at hv ⊢; exact hv
  ·rw [if_neg e0] at hv ⊢; rw [snoc_get (by omega)]; exact hv
theorem lastS_le {l:List Ver} {q:Int} (h:∀ y,y ∈ l->y.seq<=q) (hq:0<=q):lastS l<=q:=by
 unfold lastS
 by_cases e:l.length=0
 ·rw [if_pos e]; exact hq
 ·rw [if_neg e]
  refine h _ ?_
  unfold lastL
  rw [List.getD_eq_getElem?_getD,List.getElem?_eq_getElem (by omega)]
  exact List.getElem_mem _
structure OkL (L:Ch) (q:Int):Prop where
 rise:L.Rise
 ne:∀ x,x ∈ L->x.2≠[]
 right:∀ x,x ∈ L->rightL x.2=true
 le:∀ x,x ∈ L->∀ y,y ∈ x.2->y.seq<=q
 key:∀ x,x ∈ L->keyOk x.1=true
 fits:∀ x,x ∈ L->FitsL x.2
namespace OkL
variable {L:Ch} {q q':Int} {k:ByteArray} {v:Ver}
theorem nil (q:Int):OkL [] q:=⟨List.Pairwise.nil,fun _ h=>(by cases h),fun _ h=>(by cases h),fun _ h=>(by cases h),fun _ h=>(by cases h),fun _ h=>(by cases h)⟩
theorem of_right (h:OkL L q) (k:ByteArray):rightL (L.of k)=true:=by
 cases p:L.has k with
 | true=>exact h.right _ (Ch.mem_has p)
 | false=>rw [Ch.of_no p]; rfl
theorem of_le (h:OkL L q) (k:ByteArray):∀ y,y ∈ L.of k->y.seq<=q:=by
 cases p:L.has k with
 | true=>exact h.le _ (Ch.mem_has p)
 | false=>rw [Ch.of_no p]; exact fun _ h=>by cases h
theorem of_fits (h:OkL L q) (k:ByteArray):FitsL (L.of k):=by
 cases p:L.has k with
 | true=>exact h.fits _ (Ch.mem_has p)
 | false=>rw [Ch.of_no p]; exact fun _ h=>by cases h
theorem put (h:OkL L q) (hk:keyOk k=true) (hv:mayV (lastS (L.of k)) v=true) (hs:v.seq<=q') (hq:q<=q') (hf:v.val.Fits):OkL (L.put k v) q':=by
 refine ⟨Ch.rise_put h.rise,fun x hx=>?_,fun x hx=>?_,fun x hx=>?_,fun x hx=>?_,fun x hx=>?_⟩
 all_goals rcases (Ch.mem_put h.rise).1 hx with rfl | ⟨hm,_⟩
 ·simp
 ·exact h.ne x hm
 ·exact rightL_snoc (h.of_right k) hv
 ·exact h.right x hm
 ·intro y hy
  rcases List.mem_append.1 hy with e | e
  ·have:=h.of_le k y e; omega
  ·simp at e; rw [e]; exact hs
 ·exact fun y hy=>by have:=h.le x hm y hy; omega
 ·exact hk
 ·exact h.key x hm
 ·intro y hy
  rcases List.mem_append.1 hy with e | e
  ·exact h.of_fits k y e
  ·simp at e; rw [e]; exact hf
 ·exact h.fits x hm
theorem swept (h:OkL L q) (f:Int):OkL (L.swept f) q:=by
 refine ⟨?_,fun x hx=>?_,fun x hx=>?_,fun x hx=>?_,fun x hx=>?_,fun x hx=>?_⟩
 ·unfold Ch.Rise Ch.swept
  refine List.Pairwise.filter _ ?_
  rw [List.pairwise_map]
  exact h.rise
 ·unfold Ch.swept at hx
  have:=(List.mem_filter.1 hx).2
  intro e
  rw [e] at this; cases this
 ·obtain ⟨y,hy,e⟩:=mem_swept hx
  rw [e]; exact right_drop (h.right _ hy) _
 ·obtain ⟨y,hy,e⟩:=mem_swept hx
  rw [e]; exact fun z hz=>h.le _ hy z (List.mem_of_mem_drop hz)
 ·obtain ⟨y,hy,e⟩:=mem_swept hx
  exact h.key (x.1,y) hy
 ·obtain ⟨y,hy,e⟩:=mem_swept hx
  rw [e]; exact fun z hz=>h.fits _ hy z (List.mem_of_mem_drop hz)
end OkL

end Go.Proofs.YtoljhoabbaigdaaGreat

namespace Go.Proofs.YtoljhoabbaigdaaGreat
open Go.RowKit

theorem Val.ok_txt {x:Val} (h:x.ok=true):x.txt.size<=64:=by
 unfold Val.ok at h
 split at h
 ·simp only [Bool.and_eq_true,decide_eq_true_eq] at h; omega
 ·simp only [Bool.and_eq_true,decide_eq_true_eq] at h; exact h.2
theorem right_ok {l:List Ver} (h:rightL l=true) {y:Ver} (hy:y ∈ l):y.val.ok=true:=by
 obtain ⟨i,hi,rfl⟩:=List.mem_iff_getElem.1 hy
 have:=(rightL_iff l).1 h i hi
 unfold mayV at this
 simp only [Bool.and_eq_true] at this
 have h2:=this.2.2.1
 rwa [List.getD_eq_getElem?_getD,List.getElem?_eq_getElem hi] at h2
def Bnd (L:Ch) (K N:Nat):Prop:=L.length<=K∧∀ k,(L.of k).length<=N
theorem Bnd.mem {L:Ch} {K N:Nat} (h:Bnd L K N) (hr:L.Rise):∀ x,x ∈ L->x.2.length<=N:=fun x hx=>by
 obtain ⟨a,b⟩:=x
 rw [<-Ch.of_mem hr hx]
 exact h.2 a
theorem Bnd.mono {L:Ch} {K N K' N':Nat} (h:Bnd L K N) (hK:K<=K') (hN:N<=N'):Bnd L K' N':=⟨Nat.le_trans h.1 hK,fun k=>Nat.le_trans (h.2 k) hN⟩
theorem Bnd.swept {L:Ch} {K N:Nat} (h:Bnd L K N) (hr:L.Rise) (f:Int):Bnd (L.swept f) K N :=
 ⟨Nat.le_trans (swept_len L f) h.1,fun k=>by rw [Ch.of_swept hr]; unfold sweepL; rw [List.length_drop]; have:=h.2 k; omega⟩
theorem OkL.good {L:Ch} {q:Int} {K N:Nat} (h:OkL L q) (hb:Bnd L K N) (hK:K<=100000) (hN:N<=1000):GoodC L:=by
 refine ⟨Nat.le_trans hb.1 hK,h.fits,fun x hx y hy=>?_,fun x hx=>Nat.le_trans (hb.mem h.rise x hx) hN,fun x hx=>?_,h.rise,fun x hx=>rise_of_right (h.right x hx)⟩
 ·have:=Val.ok_txt (right_ok (h.right x hx) hy); omega
 ·have:=h.key x hx
  unfold keyOk at this
  simp only [Bool.and_eq_true,decide_eq_true_eq] at this
  omega
theorem mayW_at {l:List Wr} (h:mayW l=true) {i:Nat} (hi:i<l.length):wrOk (prevW l i) (l.getD i Wr.Z)=true:=by
 unfold mayW at h
 simp only [Bool.and_eq_true,List.all_eq_true,List.mem_range] at h
 exact h.2.2 i hi
theorem mayW_rise {l:List Wr} (h:mayW l=true) {i j:Nat} (hij:i<j) (hj:j<l.length):ltB (l.getD i Wr.Z).key (l.getD j Wr.Z).key=true:=by
 have step:∀ j,j+1<l.length->ltB (l.getD j Wr.Z).key (l.getD (j+1) Wr.Z).key=true:=fun j hj=>by
  have:=mayW_at h hj
  rw [prevW_succ] at this
  unfold wrOk at this
  simp only [Bool.and_eq_true] at this
  exact this.2.2.2
 obtain ⟨d,rfl⟩:∃ d,j=i+1+d:=⟨j-i-1,by omega⟩
 clear hij
 induction d with
 | zero=>exact step i hj
 | succ d ih=>exact ltB_trans (ih (by omega)) (step (i+1+d) (by omega))
theorem mayW_size {l:List Wr} (h:mayW l=true):l.length<=16:=by
 unfold mayW at h
 simp only [Bool.and_eq_true,decide_eq_true_eq] at h
 exact h.2.1
theorem withW_keeps {L:Ch} {q:Int} {ws:List Wr} {K N:Nat} (h:OkL L q) (hb:Bnd L K N) (hq0:0<=q) (hq:q+1<=1073741824) (hm:mayW ws=true) (hf:FitsW ws):∀ i,i<=ws.length →
  OkL (L.withW (ws.take i) (q+1)) (q+1)∧(∀ k,(∀ j,j<i->(ws.getD j Wr.Z).key≠k)->(L.withW (ws.take i) (q+1)).of k=L.of k)∧Bnd (L.withW (ws.take i) (q+1)) (K+i) (N+1)
 | 0,_=>by
  rw [List.take_zero]
  exact ⟨⟨h.rise,h.ne,h.right,fun x hx y hy=>by have:=h.le x hx y hy; omega,h.key,h.fits⟩,fun _ _=>rfl,hb.mono (Nat.le_refl _) (by omega)⟩
 | i+1,hi=>by
  obtain ⟨o,e,b⟩:=withW_keeps h hb hq0 hq hm hf i (by omega)
  rw [withW_succ L ws (q+1) (by omega)]
  have ne:∀ j,j<i->(ws.getD j Wr.Z).key≠(ws.getD i Wr.Z).key:=fun j hj e=>by
   have:=mayW_rise hm hj (by omega)
   rw [e,ltB_irr] at this; cases this
  have eo:=e _ ne
  have hw:=mayW_at hm (i:=i) (by omega)
  unfold wrOk at hw
  simp only [Bool.and_eq_true] at hw
  have hl:=lastS_le (h.of_le (ws.getD i Wr.Z).key) hq0
  have gz:(!(ws.getD i Wr.Z).gone || (ws.getD i Wr.Z).val.isZ)=true:=hw.2.2.1
  refine ⟨o.put hw.1 ?_ (Int.le_refl _) (Int.le_refl _) (hf.get (by omega)).1,fun k hk=>?_,?_,fun k=>?_⟩
  ·rw [eo]
   unfold mayV Wr.ver
   simp only [Bool.and_eq_true,decide_eq_true_eq]
   exact ⟨by omega,hq,hw.2.1,gz⟩
  ·rw [Ch.of_put o.rise,if_neg (fun z=>hk i (by omega) z.symm)]
   exact e k fun j hj=>hk j (by omega)
  ·have:=Ch.put_len_le (L:=L.withW (ws.take i) (q+1)) (k:=(ws.getD i Wr.Z).key) (v:=(ws.getD i Wr.Z).ver (q+1))
   have:=b.1
   omega
  ·rw [Ch.of_put o.rise]
   by_cases z:k=(ws.getD i Wr.Z).key
   ·rw [if_pos z,eo,List.length_append]
    have:=hb.2 (ws.getD i Wr.Z).key
    rw [List.length_singleton]; omega
   ·rw [if_neg z]; exact b.2 k
theorem OkL.with {L:Ch} {q:Int} {ws:List Wr} {K N:Nat} (h:OkL L q) (hb:Bnd L K N) (hq0:0<=q) (hq:q+1<=1073741824) (hm:mayW ws=true) (hf:FitsW ws):OkL (L.withW ws (q+1)) (q+1)∧Bnd (L.withW ws (q+1)) (K+16) (N+1):=by
 obtain ⟨a,_,c⟩:=withW_keeps h hb hq0 hq hm hf ws.length (Nat.le_refl _)
 rw [List.take_length] at a c
 exact ⟨a,c.mono (by have:=mayW_size hm; omega) (Nat.le_refl _)⟩
theorem OkL.goods {L:Ch} {q:Int} {ws:List Wr} {K N:Nat} (h:OkL L q) (hb:Bnd L K N) (hq0:0<=q) (hq:q+1<=1073741824) (hm:mayW ws=true) (hf:FitsW ws) (hK:K<=9000) (hN:N<=900) :
  ∀ i,i<=ws.length->GoodC (L.withW (ws.take i) (q+1))∧(L.withW (ws.take i) (q+1)).length<=10000:=fun i hi=>by
 obtain ⟨a,_,c⟩:=withW_keeps h hb hq0 hq hm hf i hi
 have:=mayW_size hm
 exact ⟨a.good c (by omega) (by omega),by have:=c.1; omega⟩
theorem OkL.load {l:List En} {sq:Int} (h:mayE l sq=true) (hf:FitsE l) (hs:sq<=1073741824):OkL (loadL l) sq∧Bnd (loadL l) l.length 1:=by
 have mem:∀ x,x ∈ loadL l->∃ i,i<l.length∧x=((l.getD i En.Z).key,[(l.getD i En.Z).ver]):=fun x hx=>by
  obtain ⟨y,hy,rfl⟩:=List.mem_map.1 hx
  obtain ⟨i,hi,rfl⟩:=List.mem_iff_getElem.1 hy
  exact ⟨i,hi,by rw [List.getD_eq_getElem?_getD,List.getElem?_eq_getElem hi]; rfl⟩
 have ok:∀ i,i<l.length->enOk (prevE l i) sq (l.getD i En.Z)=true:=fun i hi=>by
  unfold mayE at h
  simp only [List.all_eq_true,List.mem_range] at h
  exact h i hi
 have ri:=loadL_rise h
 refine ⟨⟨ri,fun x hx=>?_,fun x hx=>?_,fun x hx y hy=>?_,fun x hx=>?_,fun x hx=>?_⟩,by rw [loadL_len]; exact Nat.le_refl _,fun k=>?_⟩
 ·obtain ⟨i,hi,rfl⟩:=mem x hx; simp
 ·obtain ⟨i,hi,rfl⟩:=mem x hx
  have:=ok i hi
  unfold enOk at this
  simp only [Bool.and_eq_true,decide_eq_true_eq] at this
  refine rightL_snoc (l:=[]) rfl ?_
  unfold mayV En.ver lastS
  simp only [Bool.and_eq_true,decide_eq_true_eq]
  exact ⟨by show (0:Int)<_; have:=this.2.2.1; omega,by have:=this.2.2.2.1; omega,this.2.1,rfl⟩
 ·obtain ⟨i,hi,rfl⟩:=mem x hx
  have:=ok i hi
  unfold enOk at this
  simp only [Bool.and_eq_true,decide_eq_true_eq] at this
  simp at hy
  rw [hy]
  exact this.2.2.2.1
 ·obtain ⟨i,hi,rfl⟩:=mem x hx
  have:=ok i hi
  unfold enOk at this
  simp only [Bool.and_eq_true] at this
  exact this.1
 ·obtain ⟨i,hi,rfl⟩:=mem x hx
  intro z hz
  simp at hz
  rw [hz]
  exact (hf.get hi).1
 ·cases p:(loadL l).has k with
  | false=>rw [Ch.of_no p]; simp
  | true =>
   obtain ⟨i,hi,e⟩:=mem _ (Ch.mem_has p)
   injection e with _ e
   rw [e]; exact Nat.le_refl 1

theorem ents_mem {L:Ch} (h:L.Rise) (s:Int) {e:En}:e ∈ L.ents s↔atOk (L.of e.key) s=true∧e.seq=(atL (L.of e.key) s).seq∧e.val=(atL (L.of e.key) s).val:=by
 unfold Ch.ents
 rw [List.mem_filterMap]
 constructor
 ·rintro ⟨⟨k,l⟩,hm,he⟩
  have eo:=Ch.of_mem h hm
  cases z:atOk l s with
  | false=>simp [z] at he
  | true =>
   simp only [z,if_pos] at he
   injection he with he
   subst he
   rw [eo]
   exact ⟨z,rfl,rfl⟩
 ·rintro ⟨z,e1,e2⟩
  have hk:L.has e.key=true:=by
   cases p:L.has e.key with
   | true=>rfl
   | false=>rw [Ch.of_no p] at z; cases z
  refine ⟨(e.key,L.of e.key),Ch.mem_has hk,?_⟩
  simp only [z,if_pos]
  rw [<-e1,<-e2]
theorem ents_rise {L:Ch} (h:L.Rise) (s:Int):(L.ents s).Pairwise fun x y=>ltB x.key y.key=true:=by
 unfold Ch.ents
 rw [List.pairwise_filterMap]
 refine h.imp fun {x y} hxy a ha b hb=>?_
 split at ha
 ·injection ha with ha
  split at hb
  ·injection hb with hb
   rw [<-ha,<-hb]; exact hxy
  ·cases hb
 ·cases ha
theorem eq_of_mem:∀ {a b:List En},(a.Pairwise fun x y=>ltB x.key y.key=true)->(b.Pairwise fun x y=>ltB x.key y.key=true)->(∀ e,e ∈ a↔e ∈ b)->a=b
 | [],[],_,_,_=>rfl
 | [],y :: b,_,_,h=>by have:=(h y).2 (by simp); cases this
 | x :: a,[],_,_,h=>by have:=(h x).1 (by simp); cases this
 | x :: a,y :: b,ha,hb,h=>by
  obtain ⟨hx,pa⟩:=List.pairwise_cons.1 ha
  obtain ⟨hy,pb⟩:=List.pairwise_cons.1 hb
  have exy:x=y:=by
   rcases List.mem_cons.1 ((h x).1 (by simp)) with e | e
   ·exact e
   ·rcases List.mem_cons.1 ((h y).2 (by simp)) with e2 | e2
    ·exact e2.symm
    ·have h1:=hy x e
     have h2:=hx y e2
     rw [ltB_asym h1] at h2; cases h2
  subst exy
  refine congrArg (List.cons x) (eq_of_mem pa pb fun e=>?_)
  constructor
  ·intro he
   rcases List.mem_cons.1 ((h e).1 (List.mem_cons_of_mem _ he)) with z | z
   ·have:=hx e he
    rw [z,ltB_irr] at this; cases this
   ·exact z
  ·intro he
   rcases List.mem_cons.1 ((h e).2 (List.mem_cons_of_mem _ he)) with z | z
   ·have:=hy e he
    rw [z,ltB_irr] at this; cases this
   ·exact z
theorem ents_eq {La Lb:Ch} (ha:La.Rise) (hb:Lb.Rise) (s:Int) (h:∀ k,atOk (La.of k) s=atOk (Lb.of k) s∧atL (La.of k) s=atL (Lb.of k) s):La.ents s=Lb.ents s :=
 eq_of_mem (ents_rise ha s) (ents_rise hb s) fun e=>by
  rw [ents_mem ha,ents_mem hb,(h e.key).1,(h e.key).2]
theorem cnt_all {q:Int}:∀ {l:List Ver},(∀ y,y ∈ l->y.seq<=q)->cnt q l=l.length
 | [],_=>rfl
 | x :: l,h=>by
  unfold cnt
  rw [if_pos (h x (by simp)),cnt_all fun y hy=>h y (List.mem_cons_of_mem _ hy),List.length_cons]
def En.w (e:En):Nat:=if e.val.pack.size=0 then 0 else e.val.pack.size+e.key.size
theorem wgt_at {x:ByteArray × List Ver} {q:Int} (h:∀ y,y ∈ x.2->y.seq<=q):Ch.wgt x=if atOk x.2 q=true then En.w ⟨x.1,(atL x.2 q).seq,(atL x.2 q).val⟩ else 0:=by
 have c:=cnt_all h
 have eo:atOk x.2 q=(decide (0<x.2.length) && !(lastL x.2).gone):=by unfold atOk lastL; rw [c]
 cases z:atOk x.2 q with
 | false =>
  rw [if_neg (by simp)]
  rw [z] at eo
  unfold Ch.wgt
  rw [if_pos]
  unfold weightL
  rw [if_pos]
  by_cases e:x.2.length=0
  ·exact .inl e
  ·rw [decide_eq_true (by omega),Bool.true_and] at eo
   exact .inr (by simpa using eo.symm)
 | true =>
  rw [if_pos rfl]
  have el:atL x.2 q=lastL x.2:=by unfold atL; rw [z,if_pos rfl,c]; rfl
  rw [el]
  rw [z] at eo
  have eo:=eo.symm
  simp only [Bool.and_eq_true,decide_eq_true_eq] at eo
  have wl:weightL x.2=(lastL x.2).val.pack.size:=by
   unfold weightL
   rw [if_neg]
   rintro (e | e)
   ·omega
   ·rw [e] at eo; simp at eo
  unfold Ch.wgt En.w
  rw [wl]
theorem live_ents {q:Int}:∀ {L:Ch},(∀ x,x ∈ L->∀ y,y ∈ x.2->y.seq<=q)->L.live=((L.ents q).map En.w).sum
 | [],_=>rfl
 | x :: L,h=>by
  have ih:=live_ents (L:=L) fun y hy=>h y (List.mem_cons_of_mem _ hy)
  have e:=wgt_at (q:=q) (h x (by simp))
  unfold Ch.live at ih ⊢
  unfold Ch.ents at ih ⊢
  rw [List.map_cons,List.sum_cons,ih,e,List.filterMap_cons]
  cases z:atOk x.2 q with
  | false=>simp
  | true=>simp

end Go.Proofs.YtoljhoabbaigdaaGreat

namespace Go.Proofs.YtoljhoabbaigdaaGreat
open Go.RowKit

theorem cnt_snoc {f:Int} {v:Ver} (h:f<v.seq):∀ l:List Ver,cnt f (l++[v])=cnt f l
 | []=>by show (if v.seq<=f then _ else _)=_; rw [if_neg (by omega)]; rfl
 | x :: l=>by
  show (if x.seq<=f then cnt f (l++[v])+1 else 0)=(if x.seq<=f then cnt f l+1 else 0)
  rw [cnt_snoc h l]
theorem sweep_snoc {f:Int} {v:Ver} (h:f<v.seq) (l:List Ver):sweepL (l++[v]) f=sweepL l f++[v]:=by
 have hc:=cnt_le f l
 have ho:=oldL_le l f
 have e:oldL (l++[v]) f=oldL l f:=by
  unfold oldL
  rw [cnt_snoc h]
  by_cases z:cnt f l=0
  ·rw [if_pos z,if_pos z]
  ·rw [if_neg z,if_neg z,snoc_get (by omega)]
 unfold sweepL
 rw [e,List.drop_append_of_le_length (by omega)]
def Sim (La Lb:Ch) (F:Int):Prop:=∀ k,∃ f,f<=F∧Lb.of k=sweepL (La.of k) f
namespace Sim
variable {La Lb:Ch} {F q q':Int} {k:ByteArray} {v:Ver}
theorem nil (F:Int):Sim [] [] F:=fun _=>⟨F,Int.le_refl _,rfl⟩
theorem mono (h:Sim La Lb F) {F':Int} (hF:F<=F'):Sim La Lb F':=fun k=>by
 obtain ⟨f,hf,e⟩:=h k
 exact ⟨f,by omega,e⟩
theorem swept (h:Sim La Lb F) (oa:OkL La q) (ob:OkL Lb q'):Sim La (Lb.swept F) F:=fun k=>by
 obtain ⟨f,hf,e⟩:=h k
 refine ⟨F,Int.le_refl _,?_⟩
 rw [Ch.of_swept ob.rise,e,sweep_twice (rise_of_right (oa.of_right k)),show max f F=F by omega]
theorem put (h:Sim La Lb F) (ha:La.Rise) (hb:Lb.Rise) (hv:F<v.seq):Sim (La.put k v) (Lb.put k v) F:=fun k'=>by
 rw [Ch.of_put ha,Ch.of_put hb]
 by_cases z:k'=k
 ·rw [if_pos z,if_pos z]
  obtain ⟨f,hf,e⟩:=h k
  exact ⟨f,hf,by rw [e,sweep_snoc (by omega)]⟩
 ·rw [if_neg z,if_neg z]; exact h k'
theorem rise_with (ha:La.Rise) (ws:List Wr) (s:Int):(La.withW ws s).Rise:=by
 unfold Ch.withW
 induction ws generalizing La with
 | nil=>exact ha
 | cons x ws ih=>rw [List.foldl_cons]; exact ih (Ch.rise_put ha)
theorem at_ (h:Sim La Lb F) (oa:OkL La q) {s:Int} (hs:F<=s) (k:ByteArray):atOk (La.of k) s=atOk (Lb.of k) s∧atL (La.of k) s=atL (Lb.of k) s:=by
 obtain ⟨f,hf,e⟩:=h k
 have:=sweep_at (rise_of_right (oa.of_right k)) (show f<=s by omega)
 rw [e]
 exact ⟨this.1.symm,this.2.symm⟩
theorem ents (h:Sim La Lb F) (oa:OkL La q) (ob:OkL Lb q') {s:Int} (hs:F<=s):La.ents s=Lb.ents s:=ents_eq oa.rise ob.rise s (h.at_ oa hs)
theorem live (h:Sim La Lb F) (oa:OkL La q) (ob:OkL Lb q) (hF:F<=q):La.live=Lb.live:=by
 rw [live_ents oa.le,live_ents ob.le,h.ents oa ob hF]
end Sim
theorem frm_find (L:Ch) (k:ByteArray) (ab:Bool) (s:Int):(L.ents s).find? (fun e=>ltB k e.key || (!ab && (e.key.toList == k.toList))) =
  if L.frm k ab s<L.length then some ⟨L.key (L.frm k ab s),(atL (L.chn (L.frm k ab s)) s).seq,(atL (L.chn (L.frm k ab s)) s).val⟩ else none:=by
 have mem:∀ i,i<=L.length->(∀ j,j<i->L.hit k ab s j=false)->∀ e,e ∈ Ch.ents (L.take i) s->(ltB k e.key || (!ab && (e.key.toList == k.toList)))=false:=fun i hi hn e he=>by
  unfold Ch.ents at he
  obtain ⟨⟨a,l⟩,hm,hx⟩:=List.mem_filterMap.1 he
  obtain ⟨j,hj,ej⟩:=List.mem_iff_getElem.1 hm
  rw [List.length_take] at hj
  rw [List.getElem_take,Ch.getE L (by omega)] at ej
  injection ej with e1 e2
  cases z:atOk l s with
  | false=>simp [z] at hx
  | true =>
   simp only [z,if_pos] at hx
   injection hx with hx
   have:=hn j (by omega)
   unfold Ch.hit at this
   rw [e2,z,Bool.true_and,e1] at this
   rw [<-hx]; exact this
 by_cases z:∃ i,i<L.length∧L.hit k ab s i=true
 ·obtain ⟨i,hi,h1,h2⟩:∃ i,i<L.length∧(∀ j,j<i->L.hit k ab s j=false)∧L.hit k ab s i=true:=by
   obtain ⟨i,hi,h2⟩:=z
   induction i using Nat.strongRecOn with
   | _ i ih =>
    by_cases y:∃ j,j<i∧L.hit k ab s j=true
    ·obtain ⟨j,hj,hh⟩:=y
     exact ih j hj (by omega) hh
    ·refine ⟨i,hi,fun j hj=>?_,h2⟩
     cases p:L.hit k ab s j with
     | false=>rfl
     | true=>exact absurd ⟨j,hj,p⟩ y
  have ef:L.frm k ab s=i:=find_at hi h1 h2
  rw [ef,if_pos hi]
  have h2':=h2
  unfold Ch.hit at h2'
  simp only [Bool.and_eq_true] at h2'
  have es:Ch.ents L s=Ch.ents (L.take i) s++(⟨L.key i,(atL (L.chn i) s).seq,(atL (L.chn i) s).val⟩ :: Ch.ents (L.drop (i+1)) s):=by
   have e:=ents_succ L s hi
   rw [if_pos h2'.1] at e
   have e2:Ch.ents L s=Ch.ents (L.take (i+1)) s++Ch.ents (L.drop (i+1)) s:=by
    unfold Ch.ents
    rw [<-List.filterMap_append,List.take_append_drop]
   rw [e2,e,List.append_assoc]; rfl
  rw [es,List.find?_append,List.find?_eq_none.2 (fun e he=>by rw [mem i (by omega) h1 e he]; simp),Option.none_or,List.find?_cons]
  have:(ltB k (L.key i) || (!ab && ((L.key i).toList == k.toList)))=true:=h2'.2
  rw [this]
 ·have hn:∀ j,j<L.length->L.hit k ab s j=false:=fun j hj=>by
   cases p:L.hit k ab s j with
   | false=>rfl
   | true=>exact absurd ⟨j,hj,p⟩ z
  have ef:L.frm k ab s=L.length:=find_none hn
  rw [ef,if_neg (by omega)]
  have:=mem L.length (Nat.le_refl _) hn
  rw [List.take_length] at this
  exact List.find?_eq_none.2 fun e he=>by rw [this e he]; simp
def aftV (L:Ch) (k:ByteArray) (ab:Bool) (s:Int):ByteArray × (Val × Bool) :=
 if L.frm k ab s<L.length then (L.key (L.frm k ab s),((atL (L.chn (L.frm k ab s)) s).val,true)) else (⟨#[]⟩,(Val.V0,false))
theorem vers_le:∀ {La Lb:Ch},La.Rise->Lb.Rise->(∀ y,y ∈ Lb->∃ l,(y.1,l) ∈ La∧y.2.length<=l.length)->Lb.vers<=La.vers
 | _,[],_,_,_=>Nat.zero_le _
 | [],y :: Lb,_,_,h=>by
  obtain ⟨l,hl,_⟩:=h y (by simp)
  cases hl
 | x :: La,y :: Lb,ha,hb,h=>by
  obtain ⟨hx,pa⟩:=List.pairwise_cons.1 ha
  obtain ⟨hy,pb⟩:=List.pairwise_cons.1 hb
  obtain ⟨l,hl,hle⟩:=h y (by simp)
  have tl:∀ z,z ∈ Lb->∃ l,(z.1,l) ∈ La∧z.2.length<=l.length:=fun z hz=>by
   obtain ⟨l2,hl2,hle2⟩:=h z (List.mem_cons_of_mem _ hz)
   rcases List.mem_cons.1 hl2 with e | e
   ·have h1:=hy z hz
    have e1:z.1=x.1:=by rw [<-e]
    rcases List.mem_cons.1 hl with e2 | e2
    ·have e3:y.1=x.1:=by rw [<-e2]
     rw [e3,e1,ltB_irr] at h1; cases h1
    ·have h2:=hx _ e2
     have h2:ltB x.1 y.1=true:=h2
     rw [<-e1,ltB_asym h1] at h2; cases h2
   ·exact ⟨l2,e,hle2⟩
  rcases List.mem_cons.1 hl with e | e
  ·have:=vers_le (La:=La) (Lb:=Lb) pa pb tl
   have e2:l=x.2:=by rw [<-e]
   unfold Ch.vers at this ⊢
   rw [List.map_cons,List.sum_cons,List.map_cons,List.sum_cons]
   rw [e2] at hle
   omega
  ·have:=vers_le (La:=La) (Lb:=y :: Lb) pa hb (fun z hz=>by
    rcases List.mem_cons.1 hz with q | q
    ·rw [q]; exact ⟨l,e,hle⟩
    ·exact tl z q)
   unfold Ch.vers at this ⊢
   rw [List.map_cons (l:=La),List.sum_cons]
   omega
theorem Sim.vers {La Lb:Ch} {F q:Int} (h:Sim La Lb F) (oa:La.Rise) (ob:OkL Lb q):Lb.vers<=La.vers :=
 vers_le oa ob.rise fun y hy=>by
  obtain ⟨a,b⟩:=y
  obtain ⟨f,_,e⟩:=h a
  have eb:=Ch.of_mem ob.rise hy
  rw [eb] at e
  have hn:b≠[]:=ob.ne _ hy
  have hk:La.has a=true:=by
   cases p:La.has a with
   | true=>rfl
   | false=>rw [Ch.of_no p] at e; exact absurd (e.trans (by unfold sweepL; rw [List.drop_nil])) hn
  refine ⟨La.of a,Ch.mem_has hk,?_⟩
  show b.length<=_
  rw [e]; unfold sweepL; rw [List.length_drop]; omega

end Go.Proofs.YtoljhoabbaigdaaGreat

namespace Go.Proofs.YtoljhoabbaigdaaGreat
open Go.RowKit

abbrev Fd:=ByteArray->Wr × Bool
def hitK (k:ByteArray) (ab:Bool) (e:Wr):Bool:=ltB k e.key || (!ab && (e.key.toList == k.toList))
def fnd (O:Wl) (ab:Bool):Fd:=fun k=>(O.atV (O.frm k ab),decide (O.frm k ab<O.length))
def outO (o:Option Wr):Wr × Bool:=match o with | some e=>(e,true) | none=>(Wr.Z,false)
theorem hit_at {O:Wl} (h:O.Rise) {j:Nat} (hj:j<O.length) (k:ByteArray) (ab:Bool):hitK k ab O[j]=decide (O.frm k ab<=j):=by
 rw [Wl.get hj]
 exact Wl.frm_at h hj ab
theorem fnd_find {O:Wl} (h:O.Rise) (ab:Bool) (k:ByteArray):fnd O ab k=outO (O.find? (hitK k ab)):=by
 unfold fnd
 by_cases z:O.frm k ab<O.length
 ·have e:O.find? (hitK k ab)=some O[O.frm k ab]:=by
   rw [List.find?_eq_some_iff_getElem]
   refine ⟨by rw [hit_at h z]; simp,O.frm k ab,z,rfl,fun j hj=>?_⟩
   rw [hit_at h (by omega)]
   simp; omega
  rw [e]
  unfold Wl.atV outO
  rw [if_pos z,decide_eq_true z,Wl.get z]
 ·have e:O.find? (hitK k ab)=none:=by
   rw [List.find?_eq_none]
   intro x hx
   obtain ⟨j,hj,rfl⟩:=List.mem_iff_getElem.1 hx
   rw [hit_at h hj]
   simp; omega
  rw [e]
  unfold Wl.atV outO
  rw [if_neg z,decide_eq_false z]
def roomO (L:Ch) (s:Int):Wl:=(L.ents s).map fun e=>⟨e.key,false,e.val⟩
theorem room_find (L:Ch) (k:ByteArray) (ab:Bool) (s:Int) :
  ((⟨(aftV L k ab s).1,false,(aftV L k ab s).2.1⟩,(aftV L k ab s).2.2):Wr × Bool)=outO ((roomO L s).find? (hitK k ab)):=by
 have e:=frm_find L k ab s
 unfold roomO
 rw [List.find?_map]
 have q:((hitK k ab) ∘ fun e:En=>(⟨e.key,false,e.val⟩:Wr))=(fun e:En=>ltB k e.key || (!ab && (e.key.toList == k.toList))):=rfl
 rw [q,e]
 unfold aftV
 split<;>rfl
def firstF (u l:Fd):Fd:=fun k=>if !(l k).2 || ((u k).2 && !(ltB (l k).1.key (u k).1.key)) then u k else l k
def mrg:Wl->Wl->Wl
 | [],l=>l
 | x :: u,[]=>x :: u
 | x :: u,y :: l=>if ltB x.key y.key then x :: mrg u (y :: l) else if ltB y.key x.key then y :: mrg (x :: u) l else x :: mrg u l
termination_by u l=>u.length+l.length
theorem rise_cons {x:Wr} {O:Wl}:Wl.Rise (x :: O)↔(∀ y,y ∈ O->ltB x.key y.key=true)∧Wl.Rise O:=by
 unfold Wl.Rise Wl.ch Ch.Rise
 rw [List.map_cons,List.pairwise_cons]
 constructor
 ·rintro ⟨h1,h2⟩
  exact ⟨fun y hy=>h1 (y.key,[]) (List.mem_map.2 ⟨y,hy,rfl⟩),h2⟩
 ·rintro ⟨h1,h2⟩
  refine ⟨fun y hy=>?_,h2⟩
  obtain ⟨z,hz,rfl⟩:=List.mem_map.1 hy
  exact h1 z hz
theorem mem_mrg:∀ (u l:Wl) (z:Wr),z ∈ mrg u l->z ∈ u∨z ∈ l
 | [],l,z,h=>by rw [mrg] at h; exact .inr h
 | x :: u,[],z,h=>by rw [mrg] at h; exact .inl h
 | x :: u,y :: l,z,h=>by
  rw [mrg] at h
  split at h
  ·rcases List.mem_cons.1 h with e | e
   ·exact .inl (e ▸ List.mem_cons_self ..)
   ·rcases mem_mrg u (y :: l) z e with e | e
    ·exact .inl (List.mem_cons_of_mem _ e)
    ·exact .inr e
  ·split at h
   ·rcases List.mem_cons.1 h with e | e
    ·exact .inr (e ▸ List.mem_cons_self ..)
    ·rcases mem_mrg (x :: u) l z e with e | e
     ·exact .inl e
     ·exact .inr (List.mem_cons_of_mem _ e)
   ·rcases List.mem_cons.1 h with e | e
    ·exact .inl (e ▸ List.mem_cons_self ..)
    ·rcases mem_mrg u l z e with e | e
     ·exact .inl (List.mem_cons_of_mem _ e)
     ·exact .inr (List.mem_cons_of_mem _ e)
termination_by u l=>u.length+l.length
theorem mrg_rise:∀ (u l:Wl),u.Rise->l.Rise->(mrg u l).Rise
 | [],l,_,hl=>by rw [mrg]; exact hl
 | x :: u,[],hu,_=>by rw [mrg]; exact hu
 | x :: u,y :: l,hu,hl=>by
  obtain ⟨hx,pu⟩:=rise_cons.1 hu
  obtain ⟨hy,pl⟩:=rise_cons.1 hl
  rw [mrg]
  split
  ·rename_i q
   refine rise_cons.2 ⟨fun z hz=>?_,mrg_rise u (y :: l) pu hl⟩
   rcases mem_mrg _ _ _ hz with e | e
   ·exact hx z e
   ·rcases List.mem_cons.1 e with e | e
    ·rw [e]; exact q
    ·exact ltB_trans q (hy z e)
  ·split
   ·rename_i q q2
    refine rise_cons.2 ⟨fun z hz=>?_,mrg_rise (x :: u) l hu pl⟩
    rcases mem_mrg _ _ _ hz with e | e
    ·rcases List.mem_cons.1 e with e | e
     ·rw [e]; exact q2
     ·exact ltB_trans q2 (hx z e)
    ·exact hy z e
   ·rename_i q q2
    have e0:=ltB_total (by simpa using q) (by simpa using q2)
    refine rise_cons.2 ⟨fun z hz=>?_,mrg_rise u l pu pl⟩
    rcases mem_mrg _ _ _ hz with e | e
    ·exact hx z e
    ·rw [e0]; exact hy z e
termination_by u l=>u.length+l.length
theorem hit_mono {k:ByteArray} {ab:Bool} {x y:Wr} (h:hitK k ab x=true) (q:ltB x.key y.key=true):hitK k ab y=true:=by
 unfold hitK at h ⊢
 rw [Bool.or_eq_true] at h ⊢
 rcases h with h | h
 ·exact .inl (ltB_trans h q)
 ·rw [Bool.and_eq_true] at h
  have e:x.key=k:=toList_inj (by simpa using h.2)
  rw [e] at q
  exact .inl q
theorem hit_key {k:ByteArray} {ab:Bool} {x y:Wr} (q:x.key=y.key):hitK k ab x=hitK k ab y:=by unfold hitK; rw [q]
theorem first_find (k:ByteArray) (ab:Bool):∀ (u l:Wl),u.Rise->l.Rise →
  (if !(outO (l.find? (hitK k ab))).2 || ((outO (u.find? (hitK k ab))).2 && !(ltB (outO (l.find? (hitK k ab))).1.key (outO (u.find? (hitK k ab))).1.key)) then outO (u.find? (hitK k ab)) else outO (l.find? (hitK k ab)))=outO ((mrg u l).find? (hitK k ab))
 | [],l,_,hl=>by
  rw [mrg]
  cases e:l.find? (hitK k ab)<;>simp [outO]
 | x :: u,[],hu,_=>by rw [mrg]; simp [outO]
 | x :: u,y :: l,hu,hl=>by
  obtain ⟨hx,pu⟩:=rise_cons.1 hu
  obtain ⟨hy,pl⟩:=rise_cons.1 hl
  by_cases q:ltB x.key y.key=true
  ·have em:mrg (x :: u) (y :: l)=x :: mrg u (y :: l):=by rw [mrg,if_pos q]
   cases hh:hitK k ab x with
   | false =>
    rw [em,List.find?_cons_of_neg (a:=x) (l:=u) (by rw [hh]; simp),List.find?_cons_of_neg (a:=x) (l:=mrg u (y :: l)) (by rw [hh]; simp),<-first_find k ab u (y :: l) pu hl]
   | true =>
    have hz:=hit_mono hh q
    rw [em,List.find?_cons_of_pos hh,List.find?_cons_of_pos hz,List.find?_cons_of_pos (a:=x) hh]
    simp only [outO,ltB_asym q]
    rfl
  ·by_cases q2:ltB y.key x.key=true
   ·have em:mrg (x :: u) (y :: l)=y :: mrg (x :: u) l:=by rw [mrg,if_neg q,if_pos q2]
    cases hh:hitK k ab y with
    | false =>
     rw [em,List.find?_cons_of_neg (a:=y) (l:=l) (by rw [hh]; simp),List.find?_cons_of_neg (a:=y) (l:=mrg (x :: u) l) (by rw [hh]; simp),<-first_find k ab (x :: u) l hu pl]
    | true =>
     have hz:=hit_mono hh q2
     rw [em,List.find?_cons_of_pos (a:=y) hh,List.find?_cons_of_pos (a:=x) hz,List.find?_cons_of_pos (a:=y) hh]
     simp only [outO,q2]
     rfl
   ·have em:mrg (x :: u) (y :: l)=x :: mrg u l:=by rw [mrg,if_neg q,if_neg q2]
    have e0:=ltB_total (by simpa using q) (by simpa using q2)
    have e1:hitK k ab x=hitK k ab y:=hit_key e0
    cases hh:hitK k ab y with
    | false =>
     rw [hh] at e1
     rw [em,List.find?_cons_of_neg (a:=y) (by rw [hh]; simp),List.find?_cons_of_neg (a:=x) (l:=u) (by rw [e1]; simp),List.find?_cons_of_neg (a:=x) (by rw [e1]; simp),<-first_find k ab u l pu pl]
    | true =>
     rw [hh] at e1
     rw [em,List.find?_cons_of_pos (a:=y) hh,List.find?_cons_of_pos (a:=x) (l:=u) e1,List.find?_cons_of_pos (a:=x) e1]
     simp only [outO,e0,ltB_irr]
     rfl
termination_by u l=>u.length+l.length
theorem first_fnd {U L:Wl} (hu:U.Rise) (hl:L.Rise) (ab:Bool):firstF (fnd U ab) (fnd L ab)=fnd (mrg U L) ab:=by
 funext k
 unfold firstF
 rw [fnd_find hu,fnd_find hl,fnd_find (mrg_rise U L hu hl),<-first_find k ab U L hu hl]
def liv (O:Wl):Wl:=O.filter fun e=>!e.gone
theorem liv_rise {O:Wl} (h:O.Rise):(liv O).Rise:=by
 unfold Wl.Rise Wl.ch Ch.Rise at h ⊢
 exact h.sublist ((List.filter_sublist).map _)
def pastAt (O:Wl) (i0 i:Nat):Prop:=i0<=i∧i<=O.length∧∀ j (h:j<O.length),i0<=j->j<i->O[j].gone=true
theorem find_liv:∀ (O:Wl) (p:Wr->Bool),(O.filter fun e=>!e.gone).find? p=O.find? (fun a=>!a.gone && p a)
 | [],_=>rfl
 | x :: O,p=>by
  cases hg:x.gone with
  | true=>rw [List.filter_cons_of_neg (by rw [hg]; simp),List.find?_cons_of_neg (by rw [hg]; simp)]; exact find_liv O p
  | false =>
   rw [List.filter_cons_of_pos (by rw [hg]; simp)]
   cases hh:p x with
   | true=>rw [List.find?_cons_of_pos hh,List.find?_cons_of_pos (by rw [hg,hh]; rfl)]
   | false=>rw [List.find?_cons_of_neg (by rw [hh]; simp),List.find?_cons_of_neg (by rw [hg,hh]; simp)]; exact find_liv O p
theorem past_end {O:Wl} (h:O.Rise) (k:ByteArray) (ab:Bool) {i:Nat} (p:pastAt O (O.frm k ab) i) (e:(decide (i<O.length) && (O.atV i).gone)=false) :
  (O.atV i,decide (i<O.length))=fnd (liv O) ab k:=by
 obtain ⟨h1,h2,h3⟩:=p
 rw [fnd_find (liv_rise h)]
 have eF:(liv O).find? (hitK k ab)=O.find? (fun a=>!a.gone && hitK k ab a):=find_liv O _
 rw [eF]
 by_cases z:i<O.length
 ·have g:O[i].gone=false:=by
   rw [decide_eq_true z,Bool.true_and] at e
   unfold Wl.atV at e
   rw [if_pos z,<-Wl.get z] at e
   exact e
  have e2:O.find? (fun a=>!a.gone && hitK k ab a)=some O[i]:=by
   rw [List.find?_eq_some_iff_getElem]
   refine ⟨by rw [hit_at h z,g]; simp; omega,i,z,rfl,fun j hj=>?_⟩
   rw [hit_at h (by omega)]
   by_cases y:O.frm k ab<=j
   ·rw [h3 j (by omega) y hj]; simp
   ·simp; omega
  rw [e2]
  unfold Wl.atV outO
  rw [if_pos z,decide_eq_true z,Wl.get z]
 ·have e2:O.find? (fun a=>!a.gone && hitK k ab a)=none:=by
   rw [List.find?_eq_none]
   intro x hx
   obtain ⟨j,hj,rfl⟩:=List.mem_iff_getElem.1 hx
   rw [hit_at h hj]
   by_cases y:O.frm k ab<=j
   ·rw [h3 j hj y (by omega)]; simp
   ·simp; omega
  rw [e2]
  unfold Wl.atV outO
  rw [if_neg z,decide_eq_false z]
theorem frm_next {O:Wl} (h:O.Rise) {i:Nat} (hi:i<O.length):O.frm (O.key i) true=i+1:=by
 obtain ⟨h1,h2,h3⟩:=Wl.le_of (k:=O.key i) h hi
 have:=h2.1 rfl
 unfold Wl.frm Wl.aft
 rw [if_pos rfl,if_pos this.1]
 omega
theorem past_next {O:Wl} (h:O.Rise) {i0 i:Nat} (p:pastAt O i0 i) (hi:i<O.length) (hg:(O.atV i).gone=true) :
  fnd O true (O.atV i).key=(O.atV (i+1),decide (i+1<O.length))∧pastAt O i0 (i+1):=by
 obtain ⟨h1,h2,h3⟩:=p
 have e:(O.atV i).key=O.key i:=by unfold Wl.atV Wl.key; rw [if_pos hi]
 refine ⟨by unfold fnd; rw [e,frm_next h hi],by omega,by omega,fun j hj hj0 hji=>?_⟩
 by_cases z:j=i
 ·subst z
  unfold Wl.atV at hg
  rw [if_pos hi,<-Wl.get hi] at hg
  exact hg
 ·exact h3 j hj hj0 (by omega)
def lateL (f:Int) (l:List Ver):Nat:=l.countP fun y=>decide (f<y.seq)
def late (f:Int) (L:Ch):Nat:=(L.map fun x=>lateL f x.2).sum
end Go.Proofs.YtoljhoabbaigdaaGreat

namespace Go.Proofs.YtoljhoabbaigdaaGreat
open Go.RowKit

structure Rm where
 zs:List Int
 quota:Int
 most:Int
 r:Rg
 L:Ch
namespace Rm
structure Ok (m:Rm):Prop where
 st:stOk m.zs m.r.size m.quota m.most=true
 r:m.r.Ok
 L:OkL m.L (m.r.seq:Int)
 seq:(m.r.seq:Int)<=m.most
 live:(m.L.live:Int)<=m.quota
def Few (m:Rm):Prop:=Bnd m.L 3900 500∧m.r.l.length<=500
def floor (m:Rm):Int:=(m.r.floor:Int)
def seq (m:Rm):Int:=(m.r.seq:Int)
def comE (m:Rm) (ws:List Wr) (x:Int):Int:=Go.Proofs.YtoljhoabbaigdaaGreat.comE m.r m.L ws x m.quota m.most
def comN (m:Rm) (ws:List Wr) (x:Int):Int:=Go.Proofs.YtoljhoabbaigdaaGreat.comN m.r m.L ws x m.quota m.most
def com (m:Rm) (ws:List Wr) (x:Int):Rm:=⟨m.zs,m.quota,m.most,comR m.r m.L ws x m.quota m.most,comL m.r m.L ws x m.quota m.most⟩
def gone (m:Rm):Int:=(m.L.vers:Int)-((m.L.swept m.floor).vers:Int)
def ents (m:Rm):List En:=m.L.ents m.seq
def new (zs:List Int) (g1 g2 g3 sq:Int) (L:Ch):Rm:=⟨zs,g2,g3,⟨g1.toNat,sq.toNat,[]⟩,L⟩
end Rm
abbrev RelM:=World->Nat->(Nat->Prop)->Rm->Prop
def LeftM (R:RelM) (b:Nat) (F:Nat->Prop) (w:World) (m:Rm) (w':World):Prop:=Chg F w w'∧∃ F',R w' b F' m∧∀ k,F' k->F k∨w.heap.size<=k
abbrev PtrM (b:Nat):Value:=.pointer (some ⟨b,0,none⟩)
def GoodW (w:World) (F:Nat->Prop) (A:Option Addr) (ws:List Wr):Prop:=SlWr w A ws∧FitsW ws∧ws.length<=1000∧(0<ws.length->∀ a,A=some a->¬ F a.block)∧∀ x,x ∈ ws->x.key.size<=1000∧x.val.txt.size<=1000
def RefM (w:World) (p:Nat) (F:Nat->Prop) (m:Rm):Prop :=
 ∃ q v lb G A c,(∀ k,F k↔(k=p∨rfoot q v k∨G k))∧RoomG w p q v lb m.quota m.most m.r G A c m.L∧SepR p q v G
theorem RefM.keep {w w':World} {p:Nat} {F:Nat->Prop} {m:Rm} (h:RefM w p F m) (hk:∀ k,F k->w'.heap[k]?=w.heap[k]?) (hs:w.heap.size<=w'.heap.size):RefM w' p F m:=by
 obtain ⟨q,v,lb,G,A,c,hF,hr,sp⟩:=h
 exact ⟨q,v,lb,G,A,c,hF,⟨(hk p ((hF p).2 (.inl rfl))).trans hr.row,hr.ring.keep fun k e=>hk k ((hF k).2 (.inr (.inl e))),hr.sl.keep (fun k e=>hk k ((hF k).2 (.inr (.inr e)))) hs,fun x e=>Nat.lt_of_lt_of_le (hr.lt x e) hs⟩,sp⟩
theorem RefM.lt {w:World} {p:Nat} {F:Nat->Prop} {m:Rm} {k:Nat} (h:RefM w p F m) (e:F k):k<w.heap.size:=by
 obtain ⟨q,v,lb,G,A,c,hF,hr,sp⟩:=h
 rcases (hF k).1 e with e | e | e
 ·rw [e]; exact hr.row.lt
 ·exact hr.ring.lt k e
 ·exact hr.lt k e
theorem RefM.same {w w':World} {p:Nat} {F:Nat->Prop} {m:Rm} (h:RefM w p F m) (hb:Below w.heap.size w w'):LeftM RefM p F w m w' :=
 ⟨Chg.of_below hb,F,h.keep (fun k e=>hb.block k (h.lt e)) hb.size,fun _ e=>.inl e⟩

end Go.Proofs.YtoljhoabbaigdaaGreat

namespace Go.Proofs.YtoljhoabbaigdaaGreat
open Go.RowKit

theorem bool_yes {b:Bool} (h:¬ b=false):b=true:=by cases b<;>simp at h ⊢
namespace Rm
variable {m:Rm} {ws:List Wr} {x:Int} {K N:Nat}
theorem st_parts {zs:List Int} {g1 g2 g3:Int} (h:stOk zs g1 g2 g3=true):1<=g1∧g1<=16∧0<=g2∧1<=g3∧g3<=1073741824:=by
 unfold stOk at h
 simp only [Bool.and_eq_true,decide_eq_true_eq] at h
 omega
theorem new_r {g1 sq:Int} (h1:1<=g1) (h2:g1<=16) (h3:0<=sq) (h4:sq<=1073741824):Rg.Ok ⟨g1.toNat,sq.toNat,[]⟩ :=
 ⟨by show 1<=g1.toNat; omega,by show g1.toNat<=16; omega,by show sq.toNat+0<=_; omega,fun i j _ hj=>(by cases hj),fun i hi=>(by cases hi)⟩
theorem ok_new {zs:List Int} {g1 g2 g3:Int} (h:stOk zs g1 g2 g3=true):(Rm.new zs g1 g2 g3 0 []).Ok:=by
 obtain ⟨h1,h2,h3,h4,h5⟩:=st_parts h
 refine ⟨?_,new_r h1 h2 (Int.le_refl _) (by decide),OkL.nil _,?_,?_⟩
 ·show stOk zs ((g1.toNat:Nat):Int) g2 g3=true
  rw [Int.toNat_of_nonneg (by omega)]; exact h
 ·show ((0:Nat):Int)<=g3; omega
 ·show ((0:Nat):Int)<=g2; omega
theorem ld_parts {zs:List Int} {g1 g2 g3 sq:Int} {l:List En} (h:ldE zs g1 g2 g3 sq l=0):stOk zs g1 g2 g3=true∧0<=sq∧sq<=g3∧mayE l sq=true∧((loadL l).live:Int)<=g2:=by
 unfold ldE at h
 split at h
 ·cases h
 ·rename_i z
  split at h
  ·cases h
  ·rename_i y
   split at h
   ·cases h
   ·rename_i u
    have z:=bool_yes z
    simp only [Bool.and_eq_true,decide_eq_true_eq] at z
    exact ⟨z.1,z.2.1,z.2.2,bool_yes y,by omega⟩
theorem ok_load {zs:List Int} {g1 g2 g3 sq:Int} {l:List En} (h:ldE zs g1 g2 g3 sq l=0) (hf:FitsE l):(Rm.new zs g1 g2 g3 sq (loadL l)).Ok∧Bnd (loadL l) l.length 1:=by
 obtain ⟨h0,q0,q1,hm,hl⟩:=ld_parts h
 obtain ⟨h1,h2,h3,h4,h5⟩:=st_parts h0
 obtain ⟨o,b⟩:=OkL.load hm hf (by omega)
 refine ⟨⟨?_,new_r h1 h2 q0 (by omega),?_,?_,hl⟩,b⟩
 ·show stOk zs ((g1.toNat:Nat):Int) g2 g3=true
  rw [Int.toNat_of_nonneg (by omega)]; exact h0
 ·show OkL (loadL l) (((sq.toNat+0:Nat)):Int)
  rw [show (((sq.toNat+0:Nat)):Int)=sq by omega]; exact o
 ·show (((sq.toNat+0:Nat)):Int)<=g3; omega
theorem com_yes (h:m.comE ws x=0):mayW ws=true∧(m.r.seq:Int)<m.most∧((m.L.withW ws ((m.r.seq:Int)+1)).live:Int)<=m.quota∧m.r.no x=0 ∧
  m.com ws x=⟨m.zs,m.quota,m.most,m.r.push x,m.L.withW ws ((m.r.seq:Int)+1)⟩∧m.comN ws x=(m.r.seq:Int)+1:=by
 have e:=h
 unfold Rm.comE at e
 have ec:m.com ws x=⟨m.zs,m.quota,m.most,m.r.push x,m.L.withW ws ((m.r.seq:Int)+1)⟩:=by unfold Rm.com comR comL; rw [if_pos e,if_pos e]
 have en:m.comN ws x=(m.r.seq:Int)+1:=by unfold Rm.comN Go.Proofs.YtoljhoabbaigdaaGreat.comN; rw [if_pos e]
 unfold Go.Proofs.YtoljhoabbaigdaaGreat.comE at e
 split at e
 ·cases e
 ·rename_i z
  split at e
  ·rename_i y; exact absurd e y
  ·rename_i y
   have y:spcE m.r m.L ws m.quota m.most=0:=Classical.byContradiction y
   unfold spcE at y
   split at y
   ·cases y
   ·rename_i u
    split at y
    ·cases y
    ·rename_i t
     exact ⟨bool_yes z,by omega,by omega,e,ec,en⟩
theorem com_no (h:m.comE ws x≠0):m.com ws x=m∧m.comN ws x=0:=by
 unfold Rm.comE at h
 constructor
 ·unfold Rm.com comR comL; rw [if_neg h,if_neg h]
 ·unfold Rm.comN Go.Proofs.YtoljhoabbaigdaaGreat.comN; rw [if_neg h]
theorem push_seq {r:Rg} (h:r.no x=0):(r.push x).seq=r.seq+1:=by
 unfold Rg.push
 rw [if_pos h]
 show r.beg+(r.l++[x]).length=r.beg+r.l.length+1
 rw [List.length_append,List.length_singleton]; omega
theorem ok_com (h:m.Ok) (hb:Bnd m.L K N) (hf:FitsW ws):(m.com ws x).Ok∧Bnd (m.com ws x).L (K+16) (N+1)∧(m.com ws x).r.l.length<=m.r.l.length+1:=by
 by_cases e:m.comE ws x=0
 ·obtain ⟨h1,h2,h3,h4,h5,_⟩:=com_yes e
  have sq:=h.r.sq
  have st:=st_parts h.st
  obtain ⟨o,b⟩:=OkL.with (ws:=ws) h.L hb (by omega) (by omega) h1 hf
  rw [h5]
  refine ⟨⟨?_,Rg.push_ok h.r x,?_,?_,h3⟩,b,Rg.push_len m.r x⟩
  ·show stOk m.zs ((m.r.push x).size:Int) m.quota m.most=true
   rw [Rg.push_size]; exact h.st
  ·show OkL _ (((m.r.push x).seq:Nat):Int)
   rw [push_seq h4]; exact o
  ·show (((m.r.push x).seq:Nat):Int)<=m.most
   rw [push_seq h4]; omega
 ·rw [(com_no e).1]
  exact ⟨h,hb.mono (by omega) (by omega),by omega⟩
theorem good (h:m.Ok) (hb:m.Few):GoodC m.L:=h.L.good hb.1 (by decide) (by decide)
theorem goods (h:m.Ok) (hb:m.Few) (hf:FitsW ws):mayW ws=true->(m.r.seq:Int)<m.most->∀ i,i<=ws.length->GoodC (m.L.withW (ws.take i) ((m.r.seq:Int)+1))∧(m.L.withW (ws.take i) ((m.r.seq:Int)+1)).length<=10000:=fun hm hs=>by
 have st:=st_parts h.st
 exact h.L.goods hb.1 (by omega) (by omega) hm hf (by decide) (by decide)
end Rm

section
variable {w0 w:World} {N:Nat->Prop} {os:List Ob} {i:Nat} {p:Nat} {m:Rm} {T:Ending->World->Prop}
end

end Go.Proofs.YtoljhoabbaigdaaGreat

namespace Go.Proofs.YtoljhoabbaigdaaGreat
open Go.RowKit

def bigW (x:Wr):Bool:=decide (200<x.key.size) || decide (200<x.val.txt.size)
def farW (ws:List Wr):Bool:=decide (30<ws.length) || ws.any bigW
theorem farW_no {ws:List Wr} (h:farW ws=false):ws.length<=30∧∀ x,x ∈ ws->x.key.size<=200∧x.val.txt.size<=200:=by
 unfold farW at h
 simp only [Bool.or_eq_false_iff,decide_eq_false_iff_not,List.any_eq_false] at h
 refine ⟨by omega,fun x hx=>?_⟩
 have:=h.2 x hx
 unfold bigW at this
 simp only [Bool.or_eq_true,decide_eq_true_eq,not_or] at this
 omega
def InW (ws:List Wr):Prop:=∀ x,x ∈ ws->x.key.size<=maxLen∧x.val.Fits
theorem InW.fits {ws:List Wr} (h:InW ws) (hf:farW ws=false):FitsW ws∧∀ x,x ∈ ws->x.key.size<=1000∧x.val.txt.size<=1000:=by
 have f:=(farW_no hf).2
 exact ⟨fun x hx=>⟨(h x hx).2,by have:=(f x hx).1; omega⟩,fun x hx=>by have:=f x hx; omega⟩

end Go.Proofs.YtoljhoabbaigdaaGreat
