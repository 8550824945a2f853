/- Proved parts: Ow. Conditions: each theorem's own. -/
import Derived.Test.YtoljhoabbaigdaaGreatM2
import Derived.Test.YtoljhoabbaigdaaGreatProg
import Derived.Laws.AppendOwn
import Derived.Laws.AppendOwnNone
import Derived.KernelRfl
import Derived.Test.YtoljhoabbaigdaaGreatQ0
set_option maxRecDepth 100000
set_option maxHeartbeats 8000000
namespace Go.Proofs.YtoljhoabbaigdaaGreat
open Go.RowKit

theorem infoU:(Tryz.prog.info? 57).map (fun i=>(i.zero,i.size,i.bytes))=some (some (.int .u64 0),1,8):=by kernel_rfl

def Own (w:World) (B:Nat) (v:Value) (zs:List Int):Prop:=w.ownsRow B 57 1 v zs.length (zs.map (Value.int .u64))

section
variable {w w':World} {B:Nat} {v:Value} {zs:List Int}
theorem Own.nil (w:World) (B:Nat):Own w B (.slice none 0 0) []:=World.ownsRow_nil _ _ _ _
theorem Own.form (h:Own w B v zs):∃ A c,v=.slice A zs.length c∧zs.length<=c∧Sl w A zs∧(A=none->c=0∧zs=[])∧(∀ a,A=some a->∃ g,a=⟨g,0,none⟩∧B<=g):=by
 rcases h.2 with ⟨rfl,hn⟩ | ⟨g,cap,cur,rfl,hB,hg,hnc,_,hs,ht⟩
 ·have hz:zs=[]:=List.eq_nil_of_length_eq_zero hn
  subst hz
  exact ⟨none,0,rfl,Nat.zero_le _,Sl.nil _ _,fun _=>⟨rfl,rfl⟩,(fun a e=>by cases e)⟩
 ·refine ⟨some ⟨g,0,none⟩,cap,rfl,hnc,fun hp=>⟨g,0,rfl,?_,fun j hj=>?_⟩,(fun e=>by cases e),fun a e=>?_⟩
  ·rcases Nat.lt_or_ge g w.heap.size with hlt | hge
   ·exact hlt
   ·rw [Array.getElem?_eq_none hge] at hg; cases hg
  ·have hj2:j<zs.length * 1:=by omega
   rw [Nat.zero_add,World.ownsRow.cellAt (w:=w) (base:=B) (e:=57) (size:=1) (xs:=zs.map (Value.int .u64)) h j hj2,List.getElem?_map,List.getElem?_eq_getElem hj,List.getD,List.getElem?_eq_getElem hj]; rfl
  ·injection e with e; exact ⟨g,e.symm,hB⟩
theorem Own.drew (h:Own w B v zs):Own w.drew B v zs:=h
theorem Own.drewN (h:Own w B v zs) (n:Nat):Own (w.drewN n) B v zs:=h
theorem Own.alloc (h:Own w B v zs) (o:Obj):Own (w.alloc o) B v zs:=World.ownsRow.alloc h o
theorem Own.below (h:Own w B v zs) (hb:Below w.heap.size w w'):Own w' B v zs:=by
 refine ⟨h.1,?_⟩
 rcases h.2 with hn | ⟨g,cap,cur,rfl,hB,hg,r⟩
 ·exact .inl hn
 ·refine .inr ⟨g,cap,cur,rfl,hB,?_,r⟩
  rw [hb.block g (by
   rcases Nat.lt_or_ge g w.heap.size with hlt | hge
   ·exact hlt
   ·rw [Array.getElem?_eq_none hge] at hg; cases hg)]
  exact hg
theorem Own.more {B':Nat} (h:Own w B v zs) (hB:B'<=B):Own w B' v zs:=by
 refine ⟨h.1,?_⟩
 rcases h.2 with hn | ⟨g,cap,cur,hv,hg,r⟩
 ·exact .inl hn
 ·exact .inr ⟨g,cap,cur,hv,by omega,r⟩
theorem Own.made (w:World) (B:Nat) (hB:B<=w.heap.size) (zs:List Int) (hl:zs.length<=maxLen) :
  Own (w.alloc (.cells (zs.map (Value.int .u64)).toArray 57)) B (.slice (some ⟨w.heap.size,0,none⟩) zs.length zs.length) zs :=
 ⟨by simp,.inr ⟨w.heap.size,zs.length,_,rfl,hB,heap_alloc_new w _,Nat.le_refl _,hl,by simp,by simp [List.take_of_length_le]⟩⟩

theorem wp_putN {ops:Array Oper} {rest:List Oper} {o:Oper} {a:Act} {Q:Exit->Act->World->Prop} (hgd:o.guard=none) (s x:Operand)
  (ho:o.op=.call { callee:=.builtin .append,args:=#[s,x],argTypes:=#[79,79] })
  (B:Nat) (v:Value) (zs:List Int) (hs:a.eval s=v) (hown:Own w B v zs) (A:Option Addr) (c:Nat) (ys:List Int) (hx:a.eval x=.slice A ys.length c)
  (hA:Sl w A ys) (hnil:A=none->ys=[]∧c=0) (hl:zs.length+ys.length<=1099511627776) (hB:B<=w.heap.size)
  (h:∀ v' w',Own w' B v' (zs++ys)->Below B w w'->wpList Tryz.prog ops Q rest (a.put o.dst v') w'):wpList Tryz.prog ops Q (o :: rest) a w:=by
 obtain ⟨i0,hi,hz0,hz1,hz2⟩:=info_parts infoU
 cases A with
 | none =>
  obtain ⟨rfl,rfl⟩:=hnil rfl
  refine wpList_append_own_none hgd s x 79 ho B 57 i0 1 Tryz.underlying79 hi v zs.length _ hs hown hx ?_
  refine h v w (by simpa using hown) (Below.refl _ _)
 | some ad =>
  refine wpList_append_own w hgd s x 79 ho B 57 i0 _ 1 8 Tryz.underlying79 hi hz0 hz1 hz2 rfl (by decide) v zs.length _ hs hown ad ys.length c (ys.map (Value.int .u64)) hx (by simp) ?_ ?_
   (by unfold maxLen; omega) (by omega) hB ?_
  ·intro j u hj
   rw [List.getElem?_map] at hj
   rcases Nat.lt_or_ge j ys.length with hlt | hge
   ·obtain ⟨b,o,e,_,hc⟩:=hA (by omega)
    injection e with e
    subst e
    rw [List.getElem?_eq_getElem hlt] at hj
    have h1:=hc j hlt
    rw [List.getD,List.getElem?_eq_getElem hlt] at h1
    simp at hj h1
    subst hj
    rw [<-h1]
    unfold Addr.add
    by_cases hj0:j=0
    ·subst hj0; simp
    ·simp [hj0]
   ·rw [List.getElem?_eq_none hge] at hj; simp at hj
  ·intro u hu
   rw [List.mem_map] at hu
   obtain ⟨z,_,rfl⟩:=hu; rfl
  ·intro v' w' h1 h2 _
   refine h v' w' ?_ ((Below.refl _ _).grown h2 hB (fun k hk=>(World.ownsRow.lt hown k hk).1))
   unfold Own
   simpa using h1
end

end Go.Proofs.YtoljhoabbaigdaaGreat
