/- Proved parts: Sl Chg Obj. Conditions: each theorem's own. -/
import Derived.WalkKit
import Derived.WalkLawsBesides
import Derived.Handy
import Derived.Below
import Derived.OwnWalk
import Derived.Laws.OwnMore
import Derived.Deep.Draws
import Derived.Deep.AppendLies
import Derived.Lib.Hide
import Derived.Laws.BitsLemmas
import Derived.WideShapes
import Derived.Test.YtoljhoabbaigdaaGreatQ0
set_option maxRecDepth 100000
set_option maxHeartbeats 8000000
namespace Go.Proofs.YtoljhoabbaigdaaGreat
open Go.RowKit

theorem ret_int {k:IntKind} {a b:Int} (h:a=b):Ending.returned (.int k a)=.returned (.int k b):=by rw [h]
theorem ret_bool {a b:Bool} (h:a=b):Ending.returned (.bool a)=.returned (.bool b):=by rw [h]

def Sl (w:World) (A:Option Addr) (zs:List Int):Prop :=
 0<zs.length->∃ b o,A=some ⟨b,o,none⟩∧b<w.heap.size∧∀ j,j<zs.length->w.cell? ⟨b,o+j,none⟩=some (.int .u64 (zs.getD j 0))

section
variable {w w':World} {A:Option Addr} {zs:List Int}
theorem Sl.nil (w:World) (A:Option Addr):Sl w A []:=fun h=>absurd h (by simp)
theorem Sl.at_ {k:Nat} (h:Sl w A zs) (hk:k<zs.length):∃ b o,A=some ⟨b,o,none⟩∧b<w.heap.size∧∀ j,j<zs.length->w.cell? ⟨b,o+j,none⟩=some (.int .u64 (zs.getD j 0)):=h (by omega)
theorem Sl.below (h:Sl w A zs) (hb:Below w.heap.size w w'):Sl w' A zs:=fun hn=>by
 obtain ⟨b,o,e,hlt,hc⟩:=h hn
 exact ⟨b,o,e,Nat.lt_of_lt_of_le hlt hb.size,fun j hj=>(hb.cell (p:=⟨b,o+j,none⟩) hlt).trans (hc j hj)⟩
theorem Sl.drewN (h:Sl w A zs) (n:Nat):Sl (w.drewN n) A zs:=h
theorem Sl.drew (h:Sl w A zs):Sl w.drew A zs:=h
theorem Sl.alloc (h:Sl w A zs) (o:Obj):Sl (w.alloc o) A zs:=h.below ((Below.refl _ _).alloc (Nat.le_refl _) o)
end

theorem below_drewN {B:Nat} {a w:World} (h:Below B a w) (n:Nat):Below B a (w.drewN n):=⟨h.os,h.tape,h.output,h.size,h.block⟩
theorem below_then {W w w':World} (h:Below W.heap.size W w) (k:Below w.heap.size w w'):Below W.heap.size W w':=h.trans (k.mono h.size)
theorem toList_inj {a b:ByteArray} (h:a.toList=b.toList):a=b:=by
 rw [ByteArray.toList_eq,ByteArray.toList_eq] at h
 exact WideShapes.bytes_inj h
theorem str_ne {a b:ByteArray} (h:a≠b):(a.toList == b.toList)=false:=by
 rw [beq_eq_false_iff_ne]; exact fun k=>h (toList_inj k)
theorem str_eq {a b:ByteArray} (h:a=b):(a.toList == b.toList)=true:=by rw [h]; exact beq_self_eq_true _

end Go.Proofs.YtoljhoabbaigdaaGreat

namespace Go.Proofs.YtoljhoabbaigdaaGreat
open Go.RowKit

structure Chg (F:Nat->Prop) (w w':World):Prop where
 os:w'.os=w.os
 tape:w'.tape=w.tape
 output:w'.output=w.output
 size:w.heap.size<=w'.heap.size
 block:∀ k,k<w.heap.size->¬ F k->w'.heap[k]?=w.heap[k]?
section
variable {F G:Nat->Prop} {a b c w w':World}
theorem Chg.refl (F:Nat->Prop) (w:World):Chg F w w:=⟨rfl,rfl,rfl,Nat.le_refl _,fun _ _ _=>rfl⟩
theorem Chg.trans (h:Chg F a b) (k:Chg G b c) (hg:∀ i,G i->F i∨a.heap.size<=i):Chg F a c :=
 ⟨k.os.trans h.os,k.tape.trans h.tape,k.output.trans h.output,Nat.le_trans h.size k.size,fun i hi hn=>(k.block i (Nat.lt_of_lt_of_le hi h.size) (fun e=>by
  rcases hg i e with q | q
  ·exact hn q
  ·omega)).trans (h.block i hi hn)⟩
theorem Chg.then (h:Chg F a b) (k:Chg F b c):Chg F a c:=h.trans k fun _ e=>.inl e
theorem Chg.mono (h:Chg F w w') (hg:∀ i,F i->G i):Chg G w w':=⟨h.os,h.tape,h.output,h.size,fun i hi hn=>h.block i hi fun e=>hn (hg i e)⟩
theorem Chg.of_below (h:Below w.heap.size w w'):Chg F w w':=⟨h.os,h.tape,h.output,h.size,fun i hi _=>h.block i hi⟩
theorem Chg.below {B:Nat} (h:Chg F w w') (hF:∀ i,F i->B<=i) (hB:B<=w.heap.size):Below B w w':=⟨h.os,h.tape,h.output,h.size,fun i hi=>h.block i (by omega) fun e=>by have:=hF i e; omega⟩
theorem Chg.drew (h:Chg F a w):Chg F a w.drew:=⟨h.os,h.tape,h.output,h.size,h.block⟩
theorem Chg.drewN (h:Chg F a w) (n:Nat):Chg F a (w.drewN n):=⟨h.os,h.tape,h.output,h.size,h.block⟩
theorem Chg.alloc (h:Chg F a w) (o:Obj):Chg F a (w.alloc o) :=
 h.trans (G:=fun _=>False) ⟨rfl,rfl,rfl,by simp,fun k hk _=>Below.heap_alloc _ _ _ hk⟩ (fun _ e=>e.elim)
theorem Chg.setCell (h:Chg F a w) {p:Addr} (hp:F p.block∨a.heap.size<=p.block) (u:Value):Chg F a (w.setCell p u) :=
 h.trans (G:=fun i=>i=p.block) ⟨rfl,rfl,rfl,by simp [World.setCell],fun k _ hk=>Below.heap_setCell _ _ _ _ hk⟩ (fun i e=>by subst e; exact hp)
theorem Chg.grown {row:Option Nat} (h:Chg F a w) (hg:w.grownBy w' row) (hr:∀ k,row=some k->F k∨a.heap.size<=k):Chg F a w' :=
 h.trans (G:=fun i=>row=some i) ⟨hg.os,hg.tape,hg.output,hg.size,fun k hk hn=>hg.block k hk fun e=>hn e.symm⟩ (fun i e=>hr i e)
theorem Chg.cell (h:Chg F w w') {p:Addr} {v:Value} (hc:w.cell? p=some v) (hn:¬ F p.block):w'.cell? p=some v :=
 (World.cell?_of_block (w:=w) (h.block p.block (World.block_lt_of_cell? w p hc) hn)).trans hc
end

def RowAt (w:World) (g:Nat) (cs:List Value) (t:TypeId):Prop:=w.heap[g]?=some (.cells cs.toArray t)
section
variable {F:Nat->Prop} {w w':World} {g:Nat} {cs:List Value} {t:TypeId}
theorem RowAt.lt (h:RowAt w g cs t):g<w.heap.size:=(Array.getElem?_eq_some_iff.1 h).1
theorem RowAt.cell (h:RowAt w g cs t) (i:Nat):w.cell? ⟨g,i,none⟩=cs[i]?:=by
 unfold World.cell?
 rw [show w.heap[(⟨g,i,none⟩:Addr).block]?=some (.cells cs.toArray t) from h]
 simp
theorem RowAt.frozen (h:RowAt w g cs t) (i:Nat):w.frozen? ⟨g,i,none⟩=false:=by
 unfold World.frozen?
 rw [show w.heap[(⟨g,i,none⟩:Addr).block]?=some (.cells cs.toArray t) from h]
 simp
theorem RowAt.keep (h:RowAt w g cs t) (hc:Chg F w w') (hn:¬ F g):RowAt w' g cs t:=(hc.block g h.lt hn).trans h
theorem RowAt.below (h:RowAt w g cs t) (hb:Below w.heap.size w w'):RowAt w' g cs t:=(hb.block g h.lt).trans h
theorem RowAt.drewN (h:RowAt w g cs t) (n:Nat):RowAt (w.drewN n) g cs t:=h
theorem RowAt.new (w:World) (cs:List Value) (t:TypeId):RowAt (w.alloc (.cells cs.toArray t)) w.heap.size cs t:=heap_alloc_new w _
theorem RowAt.alloc (h:RowAt w g cs t) (o:Obj):RowAt (w.alloc o) g cs t:=h.below ((Below.refl _ _).alloc (Nat.le_refl _) o)
theorem RowAt.set (h:RowAt w g cs t) (i:Nat) (v:Value):RowAt (w.setCell ⟨g,i,none⟩ v) g (cs.set i v) t:=by
 unfold RowAt World.setCell
 simp only [Array.getElem?_modify]
 rw [show w.heap[g]?=some (.cells cs.toArray t) from h]
 simp
theorem RowAt.other (h:RowAt w g cs t) {p:Addr} (hp:p.block≠g) (v:Value):RowAt (w.setCell p v) g cs t:=(Below.heap_setCell _ _ _ _ (Ne.symm hp)).trans h
end

section
variable {α:Type} {f:α->List Value} {n:Nat}
theorem flat_len (hf:∀ x,(f x).length=n):∀ l:List α,(l.flatMap f).length=l.length * n
 | []=>by simp
 | x :: l=>by rw [List.flatMap_cons,List.length_append,hf,flat_len hf l,List.length_cons,Nat.add_mul]; omega
theorem flat_at (hf:∀ x,(f x).length=n):∀ (l:List α) (i j:Nat) (hi:i<l.length),j<n->(l.flatMap f)[i * n+j]?=(f l[i])[j]?
 | [],i,j,hi,_=>by simp at hi
 | x :: l,0,j,_,hj=>by
  rw [List.flatMap_cons,Nat.zero_mul,Nat.zero_add,List.getElem?_append_left (by rw [hf]; exact hj)]; rfl
 | x :: l,i+1,j,hi,hj=>by
  have h:=flat_at hf l i j (by simpa using hi) hj
  rw [List.flatMap_cons,List.getElem?_append_right (by rw [hf,Nat.add_mul]; omega),hf,show (i+1) * n+j-n=i * n+j by rw [Nat.add_mul]; omega,h]
  rfl
theorem flat_set (hf:∀ x,(f x).length=n):∀ (l:List α) (i j:Nat) (v:Value) (y:α) (hi:i<l.length),j<n->(f l[i]).set j v=f y->(l.flatMap f).set (i * n+j) v=(l.set i y).flatMap f
 | [],i,j,v,y,hi,_,_=>by simp at hi
 | x :: l,0,j,v,y,_,hj,hy=>by
  rw [List.flatMap_cons,Nat.zero_mul,Nat.zero_add,List.set_append_left _ _ (by rw [hf]; exact hj)]
  rw [show (f x).set j v=f y from hy]
  rfl
 | x :: l,i+1,j,v,y,hi,hj,hy=>by
  have h:=flat_set hf l i j v y (by simpa using hi) hj hy
  rw [List.flatMap_cons,List.set_append_right _ _ (by rw [hf,Nat.add_mul]; omega),hf,show (i+1) * n+j-n=i * n+j by rw [Nat.add_mul]; omega,h]
  rfl
end

end Go.Proofs.YtoljhoabbaigdaaGreat

namespace Go.Proofs.YtoljhoabbaigdaaGreat
open Go.RowKit

structure Ob where
 P:World->(Nat->Prop)->Prop
 keep:∀ {w w':World} {F:Nat->Prop},P w F->(∀ k,F k->w'.heap[k]?=w.heap[k]?)->w.heap.size<=w'.heap.size->P w' F
 lt:∀ {w:World} {F:Nat->Prop} {k:Nat},P w F->F k->k<w.heap.size
def Ob.row (g:Nat) (cs:List Value) (t:TypeId):Ob where
 P:=fun w F=>RowAt w g cs t∧∀ k,F k↔k=g
 keep:=fun h hk _=>⟨(hk _ ((h.2 _).2 rfl)).trans h.1,h.2⟩
 lt:=fun h e=>by rw [(h.2 _).1 e]; exact h.1.lt
def Side (w0:World) (N:Nat->Prop) (w:World) (os:List Ob):Prop :=
 ∃ F:Nat->Nat->Prop,(∀ (i:Nat) (o:Ob),os[i]?=some o->o.P w (F i))∧(∀ (i j k:Nat),i<os.length->j<os.length->i≠j->F i k->¬ F j k)∧(∀ (i k:Nat),i<os.length->F i k->¬ N k)∧(∀ k,N k->k<w0.heap.size)∧Chg (fun k=>¬ N k) w0 w
section
variable {w0 w w':World} {N:Nat->Prop} {os:List Ob} {o:Ob} {i:Nat}
theorem Side.chg (h:Side w0 N w os):Chg (fun k=>¬ N k) w0 w:=by obtain ⟨_,_,_,_,_,c⟩:=h; exact c
theorem Side.base {B:Nat} (h:Side w0 N w os) (hB:B<=w0.heap.size) (hN:∀ k,k<B->N k):Below B w0 w:=by
 have c:=h.chg
 exact ⟨c.os,c.tape,c.output,c.size,fun k hk=>c.block k (by omega) fun f=>f (hN k hk)⟩
theorem Side.size (h:Side w0 N w os):w0.heap.size<=w.heap.size:=h.chg.size
theorem Side.nil (w:World):Side w (fun k=>k<w.heap.size) w [] :=
 ⟨fun _ _=>False,fun i o e=>by simp at e,fun i j k hi=>by simp at hi,fun i k hi=>by simp at hi,fun k e=>e,Chg.refl _ _⟩
theorem Side.left (h:Side w0 N w os) (hi:os[i]?=some o):∃ F,o.P w F∧(∀ k,F k->¬ N k)∧∀ (w':World) (o':Ob) (F':Nat->Prop),Chg F w w'->o'.P w' F'->(∀ k,F' k->F k∨w.heap.size<=k)->Side w0 N w' (os.set i o'):=by
 obtain ⟨F,h1,h2,h3,h4,h5⟩:=h
 have il:i<os.length:=(List.getElem?_eq_some_iff.1 hi).1
 refine ⟨F i,h1 i o hi,fun k e=>h3 i k il e,fun w' o' F' c p hF=>?_⟩
 refine ⟨fun j=>if j=i then F' else F j,fun j u hj=>?_,fun j l k hj hl hn e f=>?_,fun j k hj e f=>?_,h4,h5.trans c fun k e=>.inl (h3 i k il e)⟩
 ·show u.P w' (if j=i then F' else F j)
  by_cases z:j=i
  ·subst z
   rw [List.getElem?_set_self il] at hj
   injection hj with hj
   rw [if_pos rfl,<-hj]; exact p
  ·rw [List.getElem?_set_ne (fun e=>z e.symm)] at hj
   rw [if_neg z]
   have pj:=h1 j u hj
   have jl:j<os.length:=(List.getElem?_eq_some_iff.1 hj).1
   exact u.keep pj (fun k e=>c.block k (u.lt pj e) fun f=>h2 j i k jl il z e f) c.size
 ·rw [List.length_set] at hj hl
  have e:(if j=i then F' else F j) k:=e
  have f:(if l=i then F' else F l) k:=f
  by_cases z:j=i
  ·rw [if_pos z] at e
   rw [if_neg (fun y=>hn (z.trans y.symm))] at f
   rcases hF k e with q | q
   ·exact h2 i l k il hl (fun y=>hn (z.trans y)) q f
   ·have:=(os[l]).lt (h1 l _ (List.getElem?_eq_getElem hl)) f; omega
  ·rw [if_neg z] at e
   by_cases y:l=i
   ·rw [if_pos y] at f
    rcases hF k f with q | q
    ·exact h2 j i k hj il z e q
    ·have:=(os[j]).lt (h1 j _ (List.getElem?_eq_getElem hj)) e; omega
   ·rw [if_neg y] at f
    exact h2 j l k hj hl hn e f
 ·rw [List.length_set] at hj
  have e:(if j=i then F' else F j) k:=e
  by_cases z:j=i
  ·rw [if_pos z] at e
   rcases hF k e with q | q
   ·exact h3 i k il q f
   ·have:=h4 k f; have:=h5.size; omega
  ·rw [if_neg z] at e
   exact h3 j k hj e f
theorem Side.call {P:Program} {f:FuncId} {args:Array Value} {o':Ob} {T:Ending->World->Prop} (h:Side w0 N w os) (hi:os[i]?=some o)
  (hc:∀ F,o.P w F->(∀ k,F k->¬ N k)->Calls P f args w fun e w'=>T e w'∧Chg F w w'∧∃ F',o'.P w' F'∧∀ k,F' k->F k∨w.heap.size<=k):Calls P f args w fun e w'=>T e w'∧Side w0 N w' (os.set i o'):=by
 obtain ⟨F,p,hn,k⟩:=h.left hi
 exact (hc F p hn).mono fun e w' ⟨t,c,F',p',hF⟩=>⟨t,k w' o' F' c p' hF⟩
theorem Side.below (h:Side w0 N w os) (hb:Below w.heap.size w w'):Side w0 N w' os:=by
 obtain ⟨F,h1,h2,h3,h4,h5⟩:=h
 exact ⟨F,fun i o e=>o.keep (h1 i o e) (fun k q=>hb.block k (o.lt (h1 i o e) q)) hb.size,h2,h3,h4,h5.trans (Chg.of_below (F:=fun _=>False) hb) fun _ e=>e.elim⟩
theorem Side.more (h:Side w0 N w os) (hb:Below w.heap.size w w') {F':Nat->Prop} (p:o.P w' F') (hF:∀ k,F' k->w.heap.size<=k):Side w0 N w' (os++[o]):=by
 obtain ⟨F,h1,h2,h3,h4,h5⟩:=h
 have sz:=h5.size
 have fl:∀ j k,j<os.length->F j k->k<w.heap.size:=fun j k hj e=>(os[j]).lt (h1 j _ (List.getElem?_eq_getElem hj)) e
 refine ⟨fun j=>if j<os.length then F j else F',fun j u hj=>?_,fun j l k hj hl hn e f=>?_,fun j k hj e f=>?_,h4,h5.trans (Chg.of_below (F:=fun _=>False) hb) fun _ e=>e.elim⟩
 ·show u.P w' (if j<os.length then F j else F')
  by_cases z:j<os.length
  ·rw [List.getElem?_append_left z] at hj
   rw [if_pos z]
   exact u.keep (h1 j u hj) (fun k q=>hb.block k (u.lt (h1 j u hj) q)) hb.size
  ·have jl:=(List.getElem?_eq_some_iff.1 hj).1
   rw [List.length_append,List.length_singleton] at jl
   obtain rfl:j=os.length:=by omega
   rw [List.getElem?_append_right (Nat.le_refl _),Nat.sub_self] at hj
   injection hj with hj
   rw [if_neg z,<-hj]; exact p
 ·rw [List.length_append,List.length_singleton] at hj hl
  have e:(if j<os.length then F j else F') k:=e
  have f:(if l<os.length then F l else F') k:=f
  by_cases z:j<os.length
  ·rw [if_pos z] at e
   by_cases y:l<os.length
   ·rw [if_pos y] at f; exact h2 j l k z y hn e f
   ·rw [if_neg y] at f; have:=fl j k z e; have:=hF k f; omega
  ·rw [if_neg z] at e
   by_cases y:l<os.length
   ·rw [if_pos y] at f; have:=fl l k y f; have:=hF k e; omega
   ·omega
 ·rw [List.length_append,List.length_singleton] at hj
  have e:(if j<os.length then F j else F') k:=e
  by_cases z:j<os.length
  ·rw [if_pos z] at e; exact h3 j k z e f
  ·rw [if_neg z] at e; have:=hF k e; have:=h4 k f; omega
theorem Side.get (h:Side w0 N w os) (hi:os[i]?=some o):∃ F,o.P w F:=by
 obtain ⟨F,h1,_⟩:=h
 exact ⟨F i,h1 i o hi⟩
end

end Go.Proofs.YtoljhoabbaigdaaGreat
