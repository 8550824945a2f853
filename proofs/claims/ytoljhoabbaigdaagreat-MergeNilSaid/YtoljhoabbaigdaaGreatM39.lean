/- Proved parts: Sts. Conditions: each theorem's own. -/
import Derived.Test.YtoljhoabbaigdaaGreatM2
import Derived.Deep.MidRow
import Derived.Deep.WholeRow
import Derived.Laws.MakeOwn
import Derived.Test.YtoljhoabbaigdaaGreatQ0
set_option maxRecDepth 100000
set_option maxHeartbeats 8000000
namespace Go.Proofs.YtoljhoabbaigdaaGreat
open Go.RowKit

def over (cs:List Value) (o:Nat) (vs:List Value):List Value:=cs.take o++(vs++cs.drop (o+vs.length))
theorem over_len (cs:List Value) (o:Nat) (vs:List Value) (h:o+vs.length<=cs.length):(over cs o vs).length=cs.length:=by
 unfold over; simp; omega
theorem over_nil (cs:List Value) (o:Nat):over cs o []=cs:=by unfold over; simp
theorem over_cons (cs:List Value) (o:Nat) (v:Value) (vs:List Value) (h:o+(vs.length+1)<=cs.length):over (cs.set o v) (o+1) vs=over cs o (v :: vs):=by
 unfold over
 have h1:(cs.set o v).take (o+1)=cs.take o++[v]:=by
  rw [List.take_set,List.take_add_one,List.getElem?_eq_getElem (by omega)]
  rw [List.set_append_right _ _ (by simp; omega)]
  simp only [List.length_take]
  rw [show o-min o cs.length=0 by omega]; rfl
 have h2:(cs.set o v).drop (o+1+vs.length)=cs.drop (o+(v :: vs).length):=by
  rw [List.drop_set,if_pos (by omega),List.length_cons,show o+1+vs.length=o+(vs.length+1) by omega]
 rw [h1,h2,List.append_assoc]; rfl
theorem RowAt.setCells {t:TypeId} {g:Nat}:∀ (vs:List Value) (o:Nat) (cs:List Value) (w:World),RowAt w g cs t->o+vs.length<=cs.length->RowAt (w.setCells g o vs) g (over cs o vs) t
 | [],o,cs,w,h,_=>by rw [over_nil]; exact h
 | v :: vs,o,cs,w,h,hl=>by
  have k:=RowAt.setCells vs (o+1) (cs.set o v) (w.setCell ⟨g,o,none⟩ v) (h.set o v) (by simp at hl ⊢; omega)
  rw [over_cons cs o v vs (by simpa using hl)] at k
  exact k
theorem RowAt.mid {w:World} {g:Nat} {cs:List Value} {t:TypeId} (h:RowAt w g cs t) {o:Nat} {vs:List Value} (hv:∀ j v,vs[j]?=some v->cs[o+j]?=some v):w.rangeAt g o vs:=fun j v hj=>by
 rw [RowAt.cell h]; exact hv j v hj
theorem RowAt.there {w:World} {g:Nat} {cs:List Value} {t:TypeId} (h:RowAt w g cs t) {o n:Nat} (hn:o+n<=cs.length):w.there g o n:=fun j hj=>by
 refine ⟨?_,RowAt.frozen h _⟩
 rw [RowAt.cell h,List.getElem?_eq_getElem (by omega)]; rfl
theorem setCells_other {g k:Nat} (hk:k≠g):∀ (vs:List Value) (o:Nat) (w:World),(w.setCells g o vs).heap[k]?=w.heap[k]?
 | [],_,_=>rfl
 | v :: vs,o,w=>(setCells_other hk vs (o+1) _).trans (Below.heap_setCell w ⟨g,o,none⟩ v k hk)
theorem setCells_frame (g:Nat):∀ (vs:List Value) (o:Nat) (w:World),(w.setCells g o vs).os=w.os∧(w.setCells g o vs).tape=w.tape∧(w.setCells g o vs).output=w.output∧(w.setCells g o vs).heap.size=w.heap.size
 | [],_,_=>⟨rfl,rfl,rfl,rfl⟩
 | v :: vs,o,w=>by
  obtain ⟨h1,h2,h3,h4⟩:=setCells_frame g vs (o+1) (w.setCell ⟨g,o,none⟩ v)
  exact ⟨h1.trans rfl,h2.trans rfl,h3.trans rfl,h4.trans (by simp [World.setCell])⟩
theorem setCells_grown (w:World) (g o:Nat) (vs:List Value):w.grownBy (w.setCells g o vs) (some g):=by
 obtain ⟨h1,h2,h3,h4⟩:=setCells_frame g vs o w
 exact ⟨h1,h2,h3,by omega,fun k _ hk=>setCells_other (fun e=>hk (by rw [e])) vs o w⟩
theorem Chg.setCells {F:Nat->Prop} {a w:World} (h:Chg F a w) {g:Nat} (hg:F g∨a.heap.size<=g) (o:Nat) (vs:List Value):Chg F a (w.setCells g o vs) :=
 h.grown (setCells_grown w g o vs) fun k e=>by cases e; exact hg
section
variable {α:Type} {f:α->List Value} {n:Nat}
theorem flat_seg (hf:∀ x,(f x).length=n) (y:α):∀ (l:List α) (i:Nat),i<l.length->over (l.flatMap f) (i * n) (f y)=(l.set i y).flatMap f
 | [],i,hi=>by simp at hi
 | x :: l,0,_=>by
  unfold over
  rw [Nat.zero_mul,List.take_zero,List.nil_append,Nat.zero_add,List.flatMap_cons,hf,List.drop_append,hf,Nat.sub_self,List.drop_zero,List.drop_eq_nil_of_le (by rw [hf]; exact Nat.le_refl _)]
  rfl
 | x :: l,i+1,hi=>by
  have ih:=flat_seg hf y l i (by simpa using hi)
  unfold over at ih ⊢
  rw [List.flatMap_cons,hf] at *
  rw [List.take_append,List.drop_append,hf,List.take_of_length_le (by rw [hf,Nat.add_mul]; omega),List.drop_eq_nil_of_le (by rw [hf,Nat.add_mul]; omega),List.nil_append,
   show (i+1) * n-n=i * n by rw [Nat.add_mul]; omega,show (i+1) * n+n-n=i * n+n by rw [Nat.add_mul]; omega,List.append_assoc,ih]
  rfl
end
theorem made_flat {α:Type} {f:α->List Value} {m:Nat} (hm:0<m) (hf:∀ x,(f x).length=m) (x:α) (n:Nat):madeCells (f x).toArray (n * m)=((List.replicate n x).flatMap f).toArray:=by
 apply Array.ext
 ·rw [size_madeCells]; simp only [List.size_toArray]; rw [flat_len hf]; simp
 intro i h1 h2
 rw [size_madeCells] at h1
 have hi:i / m<n:=(Nat.div_lt_iff_lt_mul hm).2 h1
 have e:i=i / m * m+i % m:=by rw [Nat.mul_comm]; exact (Nat.div_add_mod i m).symm
 have hr:i / m<(List.replicate n x).length:=by rw [List.length_replicate]; exact hi
 have h3:=flat_at hf (List.replicate n x) (i / m) (i % m) hr (Nat.mod_lt _ hm)
 rw [<-e,List.getElem_replicate] at h3
 have h5:(madeCells (f x).toArray (n * m))[i]'(by rw [size_madeCells]; exact h1)=(f x).toArray[i % m]!:=by
  unfold madeCells; simp [hf]
 rw [h5]
 have h7:(((List.replicate n x).flatMap f).toArray)[i]'h2=((List.replicate n x).flatMap f)[i]'(by simpa using h2):=by simp
 have h8:i % m<(f x).length:=by rw [hf]; exact Nat.mod_lt _ hm
 rw [h7]
 rw [List.getElem?_eq_getElem (by simpa using h2),List.getElem?_eq_getElem h8] at h3
 rw [Option.some.inj h3]
 simp [h8]

end Go.Proofs.YtoljhoabbaigdaaGreat
