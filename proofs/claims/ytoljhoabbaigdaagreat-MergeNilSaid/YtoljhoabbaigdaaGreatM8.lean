/- Proved parts: Rws T8m Obv. Conditions: each theorem's own. -/
import Derived.Test.YtoljhoabbaigdaaGreatM7
import Derived.Test.YtoljhoabbaigdaaGreatM2
import Derived.Laws.AppendOwn
import Derived.Laws.MakeOwn
import Derived.Deep.RegionHeldLaw
import Derived.Maps.AppendAt
import Derived.Laws.OwnMore
import Derived.Test.YtoljhoabbaigdaaGreatQ0
set_option maxRecDepth 100000
set_option maxHeartbeats 8000000
namespace Go.Proofs.YtoljhoabbaigdaaGreat
open Go.ChangeShapes Go.WideShapes Go.ChangeAt Go.RowKit

theorem cell_new1 (w:World) (v:Value) (t:TypeId):(w.alloc (.cells #[v] t)).cell? ⟨w.heap.size,0,none⟩=some v:=by
 rw [World.cell?_alloc_at _ _ _ _ rfl]; rfl

def SlS (w:World) (A:Option Addr) (zs:List ByteArray):Prop :=
 0<zs.length->∃ b o,A=some ⟨b,o,none⟩∧b<w.heap.size∧∀ j,j<zs.length->w.cell? ⟨b,o+j,none⟩=some (.string (zs.getD j ⟨#[]⟩))
theorem SlS.drewN {w:World} {A:Option Addr} {zs:List ByteArray} (h:SlS w A zs) (n:Nat):SlS (w.drewN n) A zs:=h
theorem SlS.below {w w':World} {A:Option Addr} {zs:List ByteArray} (h:SlS w A zs) (hb:Below w.heap.size w w'):SlS w' A zs:=fun hn=>by
 obtain ⟨b,o,e,hlt,hc⟩:=h hn
 exact ⟨b,o,e,Nat.lt_of_lt_of_le hlt hb.size,fun j hj=>(hb.cell (p:=⟨b,o+j,none⟩) hlt).trans (hc j hj)⟩
theorem OwnS.sl {w:World} {B:Nat} {v:Value} {zs:List ByteArray} (h:OwnS w B v zs):∃ A c,v=.slice A zs.length c∧SlS w A zs:=by
 obtain ⟨A,c,e,hj⟩:=h.form
 refine ⟨A,c,e,fun hn=>?_⟩
 obtain ⟨g,rfl,hc⟩:=hj 0 hn
 refine ⟨g,0,rfl,World.block_lt_of_cell? w _ hc,fun j hj'=>?_⟩
 obtain ⟨g',e',hc'⟩:=hj j hj'
 injection e' with e'
 injection e' with e' _ _
 rw [Nat.zero_add,e']; exact hc'
def SlJ (w:World) (A:Option Addr) (zs:List Int):Prop :=
 0<zs.length->∃ b o,A=some ⟨b,o,none⟩∧b<w.heap.size∧∀ j,j<zs.length->w.cell? ⟨b,o+j,none⟩=some (.int .i64 (zs.getD j 0))
theorem SlJ.below {w w':World} {A:Option Addr} {zs:List Int} (h:SlJ w A zs) (hb:Below w.heap.size w w'):SlJ w' A zs:=fun hn=>by
 obtain ⟨b,o,e,hlt,hc⟩:=h hn
 exact ⟨b,o,e,Nat.lt_of_lt_of_le hlt hb.size,fun j hj=>(hb.cell (p:=⟨b,o+j,none⟩) hlt).trans (hc j hj)⟩
theorem SlJ.nil (w:World) (A:Option Addr):SlJ w A []:=fun h=>absurd h (by simp)
theorem SlJ.drewN {w:World} {A:Option Addr} {zs:List Int} (h:SlJ w A zs) (n:Nat):SlJ (w.drewN n) A zs:=h
def OwnJ (w:World) (B:Nat) (v:Value) (zs:List Int):Prop:=w.ownsRow B 3 1 v zs.length (zs.map (Value.int .i64))
section
variable {w w':World} {B:Nat} {v:Value} {zs:List Int}
theorem OwnJ.form (h:OwnJ w B v zs):∃ A c,v=.slice A zs.length c∧SlJ w A zs:=by
 rcases h.2 with ⟨rfl,hn⟩ | ⟨g,cap,cur,rfl,hB,hg,hnc,_,hs,ht⟩
 ·have hz:zs=[]:=List.eq_nil_of_length_eq_zero hn
  subst hz
  exact ⟨none,0,rfl,SlJ.nil _ _⟩
 ·refine ⟨some ⟨g,0,none⟩,cap,rfl,fun hp=>⟨g,0,rfl,?_,fun j hj=>?_⟩⟩
  ·rcases Nat.lt_or_ge g w.heap.size with hlt | hge
   ·exact hlt
   ·rw [Array.getElem?_eq_none hge] at hg; cases hg
  ·have hj2:j<zs.length * 1:=by omega
   rw [Nat.zero_add,World.ownsRow.cellAt (w:=w) (base:=B) (e:=3) (size:=1) (xs:=zs.map (Value.int .i64)) h j hj2,List.getElem?_map,List.getElem?_eq_getElem hj,List.getD,List.getElem?_eq_getElem hj]; rfl
theorem OwnJ.alloc (h:OwnJ w B v zs) (o:Obj):OwnJ (w.alloc o) B v zs:=World.ownsRow.alloc h o
theorem OwnJ.made (w:World) (B:Nat) (hB:B<=w.heap.size):OwnJ (w.alloc (.cells #[] 3)) B (.slice (some ⟨w.heap.size,0,none⟩) 0 0) [] :=
 World.ownsRow_made w #[] 0 hB (Nat.zero_le _) (by simp)
end

theorem SlS.alloc {w:World} {A:Option Addr} {zs:List ByteArray} (h:SlS w A zs) (o:Obj):SlS (w.alloc o) A zs:=h.below ((Below.refl _ _).alloc (Nat.le_refl _) o)
theorem SlS.grown {w w':World} {A:Option Addr} {zs:List ByteArray} {r:Option Nat} (h:SlS w A zs) (g:w.grownBy w' r) (hn:∀ b o,A=some ⟨b,o,none⟩->r≠some b):SlS w' A zs:=fun h0=>by
 obtain ⟨b,o,e,hlt,hc⟩:=h h0
 exact ⟨b,o,e,Nat.lt_of_lt_of_le hlt g.size,fun j hj=>(World.cell?_of_block (w:=w) (a:=⟨b,o+j,none⟩) (g.block b hlt (fun q=>hn b o e q.symm))).trans (hc j hj)⟩
theorem OwnS.one {B:Nat} (w:World) (y:ByteArray) (hB:B<=w.heap.size):OwnS (w.alloc (.cells #[.string y] 9)) B (.slice (some ⟨w.heap.size,0,none⟩) 1 1) [y] :=
 ⟨by simp,.inr ⟨w.heap.size,1,#[.string y],rfl,hB,heap_alloc_new w _,Nat.le_refl _,by unfold maxLen; omega,by simp,by simp⟩⟩
end Go.Proofs.YtoljhoabbaigdaaGreat

namespace Go.Proofs.YtoljhoabbaigdaaGreat
open Go.RowKit

def ltB (a b:ByteArray):Bool:=Op.bytesLess a.toList b.toList
theorem bl_irr:∀ x:List UInt8,Op.bytesLess x x=false
 | []=>rfl
 | a :: x=>by unfold Op.bytesLess; rw [bl_irr x]; simp
theorem bl_trans:∀ x y z:List UInt8,Op.bytesLess x y=true->Op.bytesLess y z=true->Op.bytesLess x z=true
 | _,[],_,h,_=>by unfold Op.bytesLess at h; cases h
 | _,_ :: _,[],_,k=>by unfold Op.bytesLess at k; cases k
 | [],_ :: _,_ :: _,_,_=>rfl
 | a :: x,b :: y,c :: z,h,k=>by
  unfold Op.bytesLess at h k ⊢
  simp only [Bool.or_eq_true,decide_eq_true_eq,Bool.and_eq_true,beq_iff_eq] at h k ⊢
  rcases h with h | ⟨rfl,h⟩
  ·rcases k with k | ⟨rfl,k⟩
   ·exact .inl (UInt8.lt_trans h k)
   ·exact .inl h
  ·rcases k with k | ⟨rfl,k⟩
   ·exact .inl k
   ·exact .inr ⟨rfl,bl_trans x y z h k⟩
theorem bl_total:∀ x y:List UInt8,Op.bytesLess x y=false->Op.bytesLess y x=false->x=y
 | [],[],_,_=>rfl
 | [],_ :: _,h,_=>by unfold Op.bytesLess at h; cases h
 | _ :: _,[],_,k=>by unfold Op.bytesLess at k; cases k
 | a :: x,b :: y,h,k=>by
  unfold Op.bytesLess at h k
  simp only [Bool.or_eq_false_iff,decide_eq_false_iff_not,Bool.and_eq_false_iff,beq_eq_false_iff_ne,ne_eq] at h k
  have e:a=b:=by
   rcases Nat.lt_trichotomy a.toNat b.toNat with q | q | q
   ·exact absurd (UInt8.lt_iff_toNat_lt.2 q) h.1
   ·exact UInt8.toNat_inj.1 q
   ·exact absurd (UInt8.lt_iff_toNat_lt.2 q) k.1
  subst e
  rw [bl_total x y (h.2.resolve_left (fun q=>q rfl)) (k.2.resolve_left (fun q=>q rfl))]
theorem ltB_irr (a:ByteArray):ltB a a=false:=bl_irr _
theorem ltB_trans {a b c:ByteArray} (h:ltB a b=true) (k:ltB b c=true):ltB a c=true:=bl_trans _ _ _ h k
theorem ltB_total {a b:ByteArray} (h:ltB a b=false) (k:ltB b a=false):a=b:=toList_inj (bl_total _ _ h k)
theorem ltB_asym {a b:ByteArray} (h:ltB a b=true):ltB b a=false:=by
 cases k:ltB b a with
 | false=>rfl
 | true=>have:=ltB_trans h k; rw [ltB_irr] at this; cases this

abbrev KV:=List (ByteArray × Int)
def KV.ks (l:KV):List ByteArray:=l.map Prod.fst
def KV.pos (k:ByteArray):KV->Nat
 | []=>0
 | x :: l=>if ltB x.1 k then KV.pos k l+1 else 0
def KV.has (k:ByteArray) (l:KV):Bool:=match l[KV.pos k l]? with
 | some x=>x.1.toList == k.toList
 | none=>false
def KV.put (l:KV) (k:ByteArray) (n:Int):KV:=if l.has k then l.set (l.pos k) (k,n) else l.take (l.pos k)++(k,n) :: l.drop (l.pos k)
def KV.aft (l:KV) (k:ByteArray):Nat:=if l.has k then l.pos k+1 else l.pos k
def KV.num (l:KV) (i:Nat):Int:=(l.getD i (⟨#[]⟩,0)).2
def KV.key (l:KV) (i:Nat):ByteArray:=(l.getD i (⟨#[]⟩,0)).1
theorem KV.pos_le (k:ByteArray):∀ l:KV,l.pos k<=l.length
 | []=>Nat.le_refl _
 | x :: l=>by
  have:=KV.pos_le k l
  unfold KV.pos; split
  ·rw [List.length_cons]; omega
  ·exact Nat.zero_le _
theorem KV.pos_below (k:ByteArray):∀ (l:KV) (j:Nat),j<l.pos k->ltB (l.key j) k=true
 | [],j,h=>by cases h
 | x :: l,j,h=>by
  unfold KV.pos at h
  split at h
  ·rename_i hx
   cases j with
   | zero=>exact hx
   | succ j=>exact KV.pos_below k l j (by omega)
  ·cases h
theorem KV.pos_stop (k:ByteArray):∀ l:KV,l.pos k<l.length->ltB (l.key (l.pos k)) k=false
 | [],h=>by cases h
 | x :: l,h=>by
  unfold KV.pos at h ⊢
  by_cases hx:ltB x.1 k=true
  ·rw [if_pos hx] at h ⊢
   exact KV.pos_stop k l (by rw [List.length_cons] at h; omega)
  ·rw [if_neg hx]
   show ltB x.1 k=false
   simpa using hx
theorem KV.has_iff (l:KV) (k:ByteArray):l.has k=true↔l.pos k<l.length∧l.key (l.pos k)=k:=by
 unfold KV.has KV.key
 rw [List.getD_eq_getElem?_getD]
 by_cases h:l.pos k<l.length
 ·rw [List.getElem?_eq_getElem h]
  simp only [Option.getD_some,h,true_and]
  rw [beq_iff_eq]
  exact ⟨toList_inj,fun e=>congrArg ByteArray.toList e⟩
 ·rw [List.getElem?_eq_none (by omega)]
  simp [h]
def KV.Rise (l:KV):Prop:=l.Pairwise fun x y=>ltB x.1 y.1=true
theorem KV.put_len (l:KV) (k:ByteArray) (n:Int):(l.put k n).length<=l.length+1:=by
 have:=l.pos_le k
 unfold KV.put; split
 ·rw [List.length_set]; omega
 ·simp; omega
end Go.Proofs.YtoljhoabbaigdaaGreat

namespace Go.Proofs.YtoljhoabbaigdaaGreat
open Go.RowKit

section
variable {w0 w w':World} {N:Nat->Prop} {os os2:List Ob} {i:Nat} {T:Ending->World->Prop}
theorem Side.drop (h:Side w0 N w (os++os2)):Side w0 N w os:=by
 obtain ⟨F,h1,h2,h3,h4,h5⟩:=h
 exact ⟨F,fun i o e=>h1 i o (by rw [List.getElem?_append_left (List.getElem?_eq_some_iff.1 e).1]; exact e),fun i j k hi hj=>h2 i j k (by rw [List.length_append]; omega) (by rw [List.length_append]; omega),fun i k hi=>h3 i k (by rw [List.length_append]; omega),h4,h5⟩
theorem Side.idx {o:Ob} (h:os[i]?=some o):(os++os2)[i]?=some o:=by rw [List.getElem?_append_left (List.getElem?_eq_some_iff.1 h).1]; exact h
theorem Side.last {o:Ob}:(os++[o])[os.length]?=some o:=by rw [List.getElem?_append_right (Nat.le_refl _),Nat.sub_self]; rfl
theorem Side.rowNew (h:Side w0 N w os) (cs:List Value) (t:TypeId):Side w0 N (w.alloc (.cells cs.toArray t)) (os++[Ob.row w.heap.size cs t]) :=
 h.more ((Below.refl _ _).alloc (Nat.le_refl _) _) (o:=Ob.row w.heap.size cs t) (F':=fun k=>k=w.heap.size) ⟨RowAt.new w cs t,fun _=>Iff.rfl⟩ (fun k e=>by omega)
theorem Side.rowAt {g:Nat} {cs:List Value} {t:TypeId} (h:Side w0 N w os) (hi:os[i]?=some (Ob.row g cs t)):RowAt w g cs t:=by
 obtain ⟨F,hP⟩:=h.get hi
 exact hP.1
theorem Side.rowSet {g:Nat} {cs cs':List Value} {t:TypeId} (h:Side w0 N w os) (hi:os[i]?=some (Ob.row g cs t)) (hc:Chg (fun k=>k=g) w w') (hr:RowAt w' g cs' t):Side w0 N w' (os.set i (Ob.row g cs' t)):=by
 obtain ⟨F,hP,_,k⟩:=h.left hi
 exact k w' (Ob.row g cs' t) (fun k=>k=g) (hc.mono fun k e=>(hP.2 k).2 e) ⟨hr,fun _=>Iff.rfl⟩ fun k e=>.inl ((hP.2 k).2 e)
end
theorem ownsRow_keepk {w w':World} {B n size:Nat} {e:TypeId} {v:Value} {xs:List Value} (h:w.ownsRow B e size v n xs) (hk:∀ k,v.ownBlock=some k->w'.heap[k]?=w.heap[k]?):w'.ownsRow B e size v n xs:=by
 rcases h with ⟨h1,h2⟩
 refine ⟨h1,?_⟩
 rcases h2 with ⟨rfl,h0⟩ | ⟨g,cap,cur,rfl,hB,hg,r⟩
 ·exact .inl ⟨rfl,h0⟩
 ·exact .inr ⟨g,cap,cur,rfl,hB,(hk g rfl).trans hg,r⟩
def oVec (t:TypeId) (v:Value) (xs:List Value):Ob where
 P:=fun w F=>w.ownsRow 0 t 1 v xs.length xs∧∀ k,F k↔v.ownBlock=some k
 keep:=fun h hk _=>⟨ownsRow_keepk h.1 fun k e=>hk k ((h.2 k).2 e),h.2⟩
 lt:=fun h e=>(World.ownsRow.lt h.1 _ ((h.2 _).1 e)).2
section
variable {w0 w w':World} {N:Nat->Prop} {os:List Ob} {i:Nat}
theorem Side.merge {o oi o':Ob} (h:Side w0 N w (os++[o])) (hi:os[i]?=some oi) (hm:∀ F F':Nat->Prop,oi.P w F->o.P w F'->o'.P w fun k=>F k∨F' k):Side w0 N w (os.set i o'):=by
 obtain ⟨F,h1,h2,h3,h4,h5⟩:=h
 have il:i<os.length:=(List.getElem?_eq_some_iff.1 hi).1
 have la:(os++[o]).length=os.length+1:=by simp
 have pl:o.P w (F os.length):=h1 os.length o Side.last
 have pi:=h1 i oi (Side.idx hi)
 rw [la] at h2 h3
 refine ⟨fun j=>if j=i then fun k=>F i k∨F os.length k else F j,fun j u hj=>?_,fun j l k hj hl hn e f=>?_,fun j k hj e f=>?_,h4,h5⟩
 ·show u.P w (if j=i then fun k=>F i k∨F os.length k else F j)
  by_cases z:j=i
  ·subst z
   rw [List.getElem?_set_self il] at hj
   injection hj with hj
   rw [if_pos rfl,<-hj]; exact hm _ _ pi pl
  ·rw [List.getElem?_set_ne (fun e=>z e.symm)] at hj
   rw [if_neg z]; exact h1 j u (Side.idx hj)
 ·rw [List.length_set] at hj hl
  have e:(if j=i then fun k=>F i k∨F os.length k else F j) k:=e
  have f:(if l=i then fun k=>F i k∨F os.length k else F l) k:=f
  by_cases z:j=i
  ·have y:¬ l=i:=fun y=>hn (z.trans y.symm)
   rw [if_pos z] at e; rw [if_neg y] at f
   rcases e with e | e
   ·exact h2 i l k (by omega) (by omega) (fun t=>y t.symm) e f
   ·exact h2 os.length l k (by omega) (by omega) (by omega) e f
  ·rw [if_neg z] at e
   by_cases y:l=i
   ·rw [if_pos y] at f
    rcases f with f | f
    ·exact h2 j i k (by omega) (by omega) z e f
    ·exact h2 j os.length k (by omega) (by omega) (by omega) e f
   ·rw [if_neg y] at f
    exact h2 j l k (by omega) (by omega) hn e f
 ·rw [List.length_set] at hj
  have e:(if j=i then fun k=>F i k∨F os.length k else F j) k:=e
  by_cases z:j=i
  ·rw [if_pos z] at e
   rcases e with e | e
   ·exact h3 i k (by omega) e f
   ·exact h3 os.length k (by omega) e f
  ·rw [if_neg z] at e; exact h3 j k (by omega) e f
theorem Side.tell {o o':Ob} (h:Side w0 N w os) (hi:os[i]?=some o) (hm:∀ F,o.P w F->o'.P w F):Side w0 N w (os.set i o'):=by
 obtain ⟨F,p,_,k⟩:=h.left hi
 exact k w o' F (Chg.refl _ _) (hm F p) fun _ e=>.inl e
def Allf (w:World) (F:Nat->Prop) (os:List Ob):Prop :=
 ∃ Fs:Nat->Nat->Prop,(∀ (i:Nat) (o:Ob),os[i]?=some o->o.P w (Fs i))∧(∀ (i j k:Nat),i<os.length->j<os.length->i≠j->Fs i k->¬ Fs j k)∧∀ k,F k↔∃ i,i<os.length∧Fs i k
theorem Allf.lt {F:Nat->Prop} (h:Allf w F os) {k:Nat} (e:F k):k<w.heap.size:=by
 obtain ⟨Fs,h1,_,h3⟩:=h
 obtain ⟨i,hi,e⟩:=(h3 k).1 e
 exact (os[i]).lt (h1 i _ (List.getElem?_eq_getElem hi)) e
theorem Allf.keep {F:Nat->Prop} (h:Allf w F os) (hk:∀ k,F k->w'.heap[k]?=w.heap[k]?) (hs:w.heap.size<=w'.heap.size):Allf w' F os:=by
 obtain ⟨Fs,h1,h2,h3⟩:=h
 exact ⟨Fs,fun i o e=>o.keep (h1 i o e) (fun k q=>hk k ((h3 k).2 ⟨i,(List.getElem?_eq_some_iff.1 e).1,q⟩)) hs,h2,h3⟩
theorem Allf.side {F:Nat->Prop} (h:Allf w F os):Side w (fun k=>k<w.heap.size∧¬ F k) w os:=by
 obtain ⟨Fs,h1,h2,h3⟩:=h
 exact ⟨Fs,h1,h2,fun i k hi e f=>f.2 ((h3 k).2 ⟨i,hi,e⟩),fun k e=>e.1,Chg.refl _ _⟩
theorem Side.allf {F:Nat->Prop} (h:Side w (fun k=>k<w.heap.size∧¬ F k) w' os):Chg F w w'∧∃ F',Allf w' F' os∧∀ k,F' k->F k∨w.heap.size<=k:=by
 obtain ⟨Fs,h1,h2,h3,h4,h5⟩:=h
 refine ⟨⟨h5.os,h5.tape,h5.output,h5.size,fun k hk hn=>h5.block k hk fun z=>z ⟨hk,hn⟩⟩,fun k=>∃ i,i<os.length∧Fs i k,⟨Fs,h1,h2,fun k=>Iff.rfl⟩,fun k ⟨i,hi,e⟩=>?_⟩
 have:=h3 i k hi e
 by_cases z:F k
 ·exact .inl z
 ·exact .inr (by
   rcases Nat.lt_or_ge k w.heap.size with y | y
   ·exact absurd ⟨y,z⟩ this
   ·exact y)
theorem Side.allNew (h:Side w (fun k=>k<w.heap.size) w' os):Below w.heap.size w w'∧∃ F',Allf w' F' os∧∀ k,F' k->w.heap.size<=k:=by
 refine ⟨h.base (Nat.le_refl _) fun _ e=>e,?_⟩
 obtain ⟨Fs,h1,h2,h3,h4,h5⟩:=h
 refine ⟨fun k=>∃ i,i<os.length∧Fs i k,⟨Fs,h1,h2,fun k=>Iff.rfl⟩,fun k ⟨i,hi,e⟩=>?_⟩
 have:=h3 i k hi e
 omega
end
section
variable {w w':World} {t:TypeId} {v:Value} {xs:List Value}
theorem vec_form (h:w.ownsRow 0 t 1 v xs.length xs):(v=.slice none 0 0∧xs=[])∨∃ g c,v=.slice (some ⟨g,0,none⟩) xs.length c∧xs.length<=c∧g<w.heap.size∧(∀ j,j<xs.length->w.cell? ⟨g,j,none⟩=xs[j]?)∧∀ j,w.frozen? ⟨g,j,none⟩=false:=by
 rcases h.2 with ⟨rfl,h0⟩ | ⟨g,cap,cur,rfl,hB,hg,hc,_⟩
 ·exact .inl ⟨rfl,List.length_eq_zero_iff.1 h0⟩
 ·refine .inr ⟨g,cap,rfl,hc,(Array.getElem?_eq_some_iff.1 hg).1,fun j hj=>World.ownsRow.cellAt h j (by omega),fun j=>?_⟩
  have r:RowAt w g cur.toList t:=by unfold RowAt; simpa using hg
  exact r.frozen j
theorem vec_set {g n c p:Nat} {u:Value} (h:w.ownsRow 0 t 1 (.slice (some ⟨g,0,none⟩) n c) xs.length xs):(w.setCell ⟨g,p,none⟩ u).ownsRow 0 t 1 (.slice (some ⟨g,0,none⟩) n c) (xs.set p u).length (xs.set p u):=by
 rcases h with ⟨h1,h2 | ⟨g',cap,cur,e,hB,hg,hc,hm,hs,ht⟩⟩
 ·injection h2.1 with e _ _; cases e
 ·injection e with e1 e2 e3
  injection e1 with e1
  injection e1 with e1 _ _
  subst e1; subst e2; subst e3
  have r:RowAt w g cur.toList t:=by unfold RowAt; simpa using hg
  have r2:=r.set p u
  refine ⟨by simp,.inr ⟨g,c,(cur.toList.set p u).toArray,by rw [List.length_set],hB,r2,by rw [List.length_set]; exact hc,hm,by simpa using hs,?_⟩⟩
  rw [List.length_set,List.take_set,ht]
end
theorem wp_vec {w:World} {ops:Array Oper} {rest:List Oper} {o:Oper} {a:Act} {Q:Exit->Act->World->Prop} (hgd:o.guard=none) (s x:Operand) (t e:TypeId)
  (ho:o.op=.call { callee:=.builtin .append,args:=#[s,x],argTypes:=#[t,t] }) (i0:TypeInfo) (z:Value) (bytes:Nat) (ht:Tryz.prog.underlying t=some (.slice e)) (hi:Tryz.prog.info? e=some i0) (hz:i0.zero=some z)
  (h1:i0.size=1) (hby:i0.bytes=bytes) (hzs:z.cells.size=1) (hb:bytes<=100) (v:Value) (xs:List Value) (hs:a.eval s=v) (hown:w.ownsRow 0 e 1 v xs.length xs) (g:Nat) (u:Value)
  (hx:a.eval x=.slice (some ⟨g,0,none⟩) 1 1) (hc:w.cell? ⟨g,0,none⟩=some u) (hu:u.oneCell'=true) (hl:xs.length<=1000000)
  (k:∀ v' w',w'.ownsRow 0 e 1 v' (xs++[u]).length (xs++[u])->w.grownBy w' v.ownBlock->(v'.ownBlock=v.ownBlock∨v'.ownBlock=some w.heap.size)->wpList Tryz.prog ops Q rest (a.put o.dst v') w'):wpList Tryz.prog ops Q (o :: rest) a w:=by
 refine wpList_append_own_at w hgd s x t ho 0 e i0 z 1 bytes ht hi hz h1 hby hzs (by decide) v xs.length xs hs hown ⟨g,0,none⟩ 1 1 [u] hx rfl ?_ ?_ (by unfold maxLen; omega) (by
  have:(xs.length+1) * bytes<=1000001 * 100:=Nat.mul_le_mul (by omega) hb
  omega) (Nat.zero_le _) ?_
 ·intro j y hj
  cases j with
  | zero=>simp at hj; subst hj; exact hc
  | succ j=>simp at hj
 ·intro y hy; simp at hy; subst hy; exact hu
 ·intro v' w' h1 h2 _ h4
  exact k v' w' (by rw [List.length_append,List.length_singleton]; exact h1) h2 h4
section
variable {w0 w w':World} {N:Nat->Prop} {os:List Ob} {i:Nat} {t:TypeId} {v:Value} {xs:List Value}
theorem Side.vecAt (h:Side w0 N w os) (hi:os[i]?=some (oVec t v xs)):w.ownsRow 0 t 1 v xs.length xs:=by
 obtain ⟨F,hP⟩:=h.get hi
 exact hP.1
theorem Side.vecSet {g n c p:Nat} {u:Value} (h:Side w0 N w os) (hi:os[i]?=some (oVec t (.slice (some ⟨g,0,none⟩) n c) xs)):Side w0 N (w.setCell ⟨g,p,none⟩ u) (os.set i (oVec t (.slice (some ⟨g,0,none⟩) n c) (xs.set p u))):=by
 obtain ⟨F,q,_,k⟩:=h.left hi
 exact k _ _ F ((Chg.refl _ _).setCell (.inl ((q.2 g).2 rfl)) u) ⟨vec_set q.1,q.2⟩ fun _ e=>.inl e
theorem Side.vecGrow {v' u:Value} (h:Side w0 N w os) (hi:os[i]?=some (oVec t v xs)) (ho:w'.ownsRow 0 t 1 v' (xs++[u]).length (xs++[u])) (hg:w.grownBy w' v.ownBlock) (h4:v'.ownBlock=v.ownBlock∨v'.ownBlock=some w.heap.size) :
  Side w0 N w' (os.set i (oVec t v' (xs++[u]))):=by
 obtain ⟨F,q,_,k⟩:=h.left hi
 refine k _ _ (fun k=>v'.ownBlock=some k) ((Chg.refl _ _).grown hg fun b e=>.inl ((q.2 b).2 e)) ⟨ho,fun _=>Iff.rfl⟩ fun b e=>?_
 rcases h4 with h4 | h4
 ·exact .inl ((q.2 b).2 (by rw [<-h4]; exact e))
 ·rw [h4] at e
  injection e with e
  exact .inr (by omega)
theorem Side.vecPop {g n c:Nat} {u:Value} (h:Side w0 N w os) (hi:os[i]?=some (oVec t (.slice (some ⟨g,0,none⟩) n c) (xs++[u]))):Side w0 N w (os.set i (oVec t (.slice (some ⟨g,0,none⟩) xs.length c) xs)) :=
 h.tell hi fun F q=>⟨by
  rcases q.1 with ⟨h1,h2 | ⟨g',cap,cur,e,hB,hg,hc,hm,hs,ht⟩⟩
  ·injection h2.1 with e _ _; cases e
  ·injection e with e1 e2 e3
   injection e1 with e1
   injection e1 with e1 _ _
   subst e1; subst e3
   refine ⟨by simp,.inr ⟨g,c,cur,rfl,hB,hg,by simp at hc; omega,hm,hs,?_⟩⟩
   have:=congrArg (List.take (xs.length * 1)) ht
   rwa [List.take_take,List.take_left' (by simp),Nat.min_eq_left (by simp)] at this,q.2⟩
end
section
variable {w0 w:World} {N:Nat->Prop} {os:List Ob} {i:Nat}
theorem wp_sideV {ops:Array Oper} {rest:List Oper} {o:Oper} {a:Act} {Q:Exit->Act->World->Prop} (hgd:o.guard=none) (x y:Operand) (t e:TypeId)
  (ho:o.op=.call { callee:=.builtin .append,args:=#[x,y],argTypes:=#[t,t] }) {z:Value} {bytes:Nat} (ht:Tryz.prog.underlying t=some (.slice e)) (hin:(Tryz.prog.info? e).map (fun i=>(i.zero,i.size,i.bytes))=some (some z,1,bytes))
  (hzs:z.cells.size=1) (hb:bytes<=100) (v:Value) (xs:List Value) (hs:a.eval x=v) (h:Side w0 N w os) (hi:os[i]?=some (oVec e v xs)) (g:Nat) (u:Value)
  (hx:a.eval y=.slice (some ⟨g,0,none⟩) 1 1) (hc:w.cell? ⟨g,0,none⟩=some u) (hu:u.oneCell'=true) (hl:xs.length<=1000000)
  (k:∀ g' c' n w',n=xs.length+1->Side w0 N w' (os.set i (oVec e (.slice (some ⟨g',0,none⟩) n c') (xs++[u])))->wpList Tryz.prog ops Q rest (a.put o.dst (.slice (some ⟨g',0,none⟩) n c')) w'):wpList Tryz.prog ops Q (o :: rest) a w:=by
 obtain ⟨i0,h0,hz0,hz1,hz2⟩:=info_parts hin
 refine wp_vec hgd x y t e ho i0 z bytes ht h0 hz0 hz1 hz2 hzs hb v xs hs (h.vecAt hi) g u hx hc hu hl ?_
 intro v' w' h1 h2 h4
 rcases vec_form h1 with ⟨_,e2⟩ | ⟨g',c',e2,_⟩
 ·exact absurd e2 (by simp)
 ·have hh:=h.vecGrow hi h1 h2 h4
  rw [e2] at hh ⊢
  exact k g' c' _ w' (by simp) hh
theorem Side.apart {os:List Ob} {i j:Nat} {oi oj:Ob} (h:Side w0 N w os) (hi:os[i]?=some oi) (hj:os[j]?=some oj) (hn:i≠j):∃ Fi Fj:Nat->Prop,oi.P w Fi∧oj.P w Fj∧∀ k,Fi k->¬ Fj k:=by
 obtain ⟨F,h1,h2,_⟩:=h
 exact ⟨F i,F j,h1 i _ hi,h1 j _ hj,fun k e=>h2 i j k (List.getElem?_eq_some_iff.1 hi).1 (List.getElem?_eq_some_iff.1 hj).1 hn e⟩
theorem Side.vecNe {os:List Ob} {i j b g n c:Nat} {t t2:TypeId} {cs xs:List Value} (h:Side w0 N w os) (hi:os[i]?=some (Ob.row b cs t)) (hj:os[j]?=some (oVec t2 (.slice (some ⟨g,0,none⟩) n c) xs)) (hn:i≠j):g≠b:=by
 obtain ⟨Fi,Fj,p,q,hk⟩:=h.apart hi hj hn
 intro e
 exact hk b ((p.2 b).2 rfl) ((q.2 b).2 (by rw [e]; rfl))
theorem Side.vecSetV {os:List Ob} {i g n c p:Nat} {t:TypeId} {v u:Value} {xs:List Value} (h:Side w0 N w os) (hi:os[i]?=some (oVec t v xs)) (hv:v=.slice (some ⟨g,0,none⟩) n c):Side w0 N (w.setCell ⟨g,p,none⟩ u) (os.set i (oVec t v (xs.set p u))):=by
 subst hv; exact h.vecSet hi
theorem Side.vecPopV {os:List Ob} {i g n n' c:Nat} {t:TypeId} {v u:Value} {xs ys:List Value} (h:Side w0 N w os) (hi:os[i]?=some (oVec t v ys)) (hv:v=.slice (some ⟨g,0,none⟩) n c) (hy:ys=xs++[u]) (hn:n'=xs.length):Side w0 N w (os.set i (oVec t (.slice (some ⟨g,0,none⟩) n' c) xs)):=by
 subst hv; subst hy; subst hn; exact h.vecPop hi
end
theorem Side.baseTo {w w1 w':World} {os:List Ob} (h:Side w1 (fun k=>k<w1.heap.size) w' os) (hb:Below w.heap.size w w1):Side w (fun k=>k<w.heap.size) w' os:=by
 obtain ⟨F,p1,p2,p3,p4,p5⟩:=h
 have:=hb.size
 exact ⟨F,p1,p2,fun i k hi e f=>p3 i k hi e (by omega),fun k e=>e,(Chg.of_below (F:=fun k=>¬ k<w.heap.size) hb).trans p5 fun i e=>.inr (by omega)⟩

end Go.Proofs.YtoljhoabbaigdaaGreat
