/- Proved parts: A0m. Conditions: each theorem's own. -/
import Derived.Test.YtoljhoabbaigdaaGreatM21
import Derived.Test.YtoljhoabbaigdaaGreatM2
import Derived.Maps.AppendAt
import Derived.Test.YtoljhoabbaigdaaGreatQ0
set_option maxRecDepth 100000
set_option maxHeartbeats 8000000
namespace Go.Proofs.YtoljhoabbaigdaaGreat
open Go.RowKit

structure Rg where
 size:Nat
 beg:Nat
 l:List Int
namespace Rg
def seq (r:Rg):Nat:=r.beg+r.l.length
def last (r:Rg):Int:=if r.l.length=0 then 0 else r.l.getD (r.l.length-1) 0
def no (r:Rg) (x:Int):Int:=if x<=r.last then 1 else if 1073741824<=r.seq then 17 else 0
def push (r:Rg) (x:Int):Rg:=if r.no x=0 then ⟨r.size,r.beg,r.l++[x]⟩ else r
def told (r:Rg) (x:Int):Nat:=if r.no x=0 then r.seq+1 else 0
def upto (r:Rg) (x:Int):Nat:=r.l.countP fun y=>decide (y<=x)
def old (r:Rg) (x:Int):Bool:=decide (r.size<=r.l.length-r.upto x)
def floor (r:Rg):Nat:=max (r.seq+1-r.size) r.beg
structure Ok (r:Rg):Prop where
 s1:1<=r.size
 s16:r.size<=16
 sq:r.seq<=1073741824
 rise:∀ i j,i<j->j<r.l.length->r.l.getD i 0<r.l.getD j 0
 pos:∀ i,i<r.l.length->0<r.l.getD i 0
def fits (s q:Int):Bool:=decide (1<=s) && (decide (s<=16) && (decide (0<=q) && decide (q<=1073741824)))
def new (s q:Int):Rg:=⟨s.toNat,q.toNat,[]⟩
theorem getD_snoc_lt {l:List Int} {x:Int} {i:Nat} (h:i<l.length):(l++[x]).getD i 0=l.getD i 0:=by
 rw [List.getD_eq_getElem?_getD,List.getD_eq_getElem?_getD,List.getElem?_append_left h]
theorem getD_snoc_eq (l:List Int) (x:Int):(l++[x]).getD l.length 0=x:=by
 rw [List.getD_eq_getElem?_getD,List.getElem?_append_right (Nat.le_refl _)]; simp
theorem last_ge {r:Rg} (h:r.Ok) {i:Nat} (hi:i<r.l.length):r.l.getD i 0<=r.last:=by
 unfold last
 rw [if_neg (by omega)]
 by_cases e:i=r.l.length-1
 ·rw [e]; exact Int.le_refl _
 ·have:=h.rise i (r.l.length-1) (by omega) (by omega)
  omega
theorem last_nonneg {r:Rg} (h:r.Ok):0<=r.last:=by
 unfold last
 by_cases e:r.l.length=0
 ·rw [if_pos e]; exact Int.le_refl _
 ·rw [if_neg e]
  have:=h.pos (r.l.length-1) (by omega)
  omega
theorem no_zero {r:Rg} {x:Int} (h:r.no x=0):r.last<x∧r.seq<1073741824:=by
 unfold no at h
 by_cases a:x<=r.last
 ·rw [if_pos a] at h; cases h
 ·rw [if_neg a] at h
  by_cases b:1073741824<=r.seq
  ·rw [if_pos b] at h; cases h
  ·omega
theorem push_ok {r:Rg} (h:r.Ok) (x:Int):(r.push x).Ok:=by
 unfold push
 by_cases e:r.no x=0
 ·rw [if_pos e]
  obtain ⟨a,b⟩:=no_zero e
  have h0:=last_nonneg h
  refine ⟨h.s1,h.s16,?_,fun i j hij hj=>?_,fun i hi=>?_⟩
  ·show r.beg+(r.l++[x]).length<=_
   unfold seq at b
   simp; omega
  ·show (r.l++[x]).getD i 0<(r.l++[x]).getD j 0
   have hj:j<(r.l++[x]).length:=hj
   simp at hj
   rw [getD_snoc_lt (by omega)]
   by_cases q:j=r.l.length
   ·rw [q,getD_snoc_eq]
    have:=last_ge h (show i<r.l.length by omega)
    omega
   ·rw [getD_snoc_lt (by omega)]
    exact h.rise i j hij (by omega)
  ·show 0<(r.l++[x]).getD i 0
   have hi:i<(r.l++[x]).length:=hi
   simp at hi
   by_cases q:i=r.l.length
   ·rw [q,getD_snoc_eq]; omega
   ·rw [getD_snoc_lt (by omega)]; exact h.pos i (by omega)
 ·rw [if_neg e]; exact h
theorem push_size (r:Rg) (x:Int):(r.push x).size=r.size:=by unfold push; split<;>rfl
theorem push_len (r:Rg) (x:Int):(r.push x).l.length<=r.l.length+1:=by
 unfold push; split
 ·show (r.l++[x]).length<=_; simp
 ·omega
theorem new_ok {s q:Int} (h:fits s q=true):(new s q).Ok:=by
 unfold fits at h
 simp only [Bool.and_eq_true,decide_eq_true_eq] at h
 refine ⟨by show 1<=s.toNat; omega,by show s.toNat<=16; omega,by show q.toNat+0<=_; omega,fun i j _ hj=>(by cases hj),fun i hi=>(by cases hi)⟩
end Rg

def rfoot (p:Nat) (v:Value):Nat->Prop:=fun k=>k=p∨v.ownBlock=some k
structure RefG (w:World) (p:Nat) (v:Value) (r:Rg):Prop where
 row:RowAt w p [.int .i64 r.size,.int .i64 r.beg,v] 136
 own:Own w (p+1) v r.l
theorem Own.lt {w:World} {B:Nat} {v:Value} {zs:List Int} (h:Own w B v zs):∀ k,v.ownBlock=some k->B<=k∧k<w.heap.size:=World.ownsRow.lt h
theorem RefG.lt {w:World} {p:Nat} {v:Value} {r:Rg} (h:RefG w p v r):∀ k,rfoot p v k->k<w.heap.size:=fun k e=>by
 rcases e with rfl | e
 ·exact h.row.lt
 ·exact (h.own.lt k e).2
theorem RefG.keep {w w':World} {p:Nat} {v:Value} {r:Rg} (h:RefG w p v r) (hk:∀ k,rfoot p v k->w'.heap[k]?=w.heap[k]?):RefG w' p v r:=by
 refine ⟨(hk p (.inl rfl)).trans h.row,h.own.1,?_⟩
 rcases h.own.2 with hn | ⟨g,cap,cur,rfl,hB,hg,q⟩
 ·exact .inl hn
 ·exact .inr ⟨g,cap,cur,rfl,hB,(hk g (.inr rfl)).trans hg,q⟩
theorem RefG.below {w w':World} {p:Nat} {v:Value} {r:Rg} (h:RefG w p v r) (hb:Below w.heap.size w w'):RefG w' p v r:=h.keep fun k e=>hb.block k (h.lt k e)

theorem wp_put1g {ops:Array Oper} {rest:List Oper} {o:Oper} {a:Act} {w:World} {Q:Exit->Act->World->Prop} (hgd:o.guard=none) (s x:Operand)
  (ho:o.op=.call { callee:=.builtin .append,args:=#[s,x],argTypes:=#[79,79] })
  (B:Nat) (v:Value) (zs:List Int) (hs:a.eval s=v) (hown:Own w B v zs) (g:Nat) (y:Int) (hx:a.eval x=.slice (some ⟨g,0,none⟩) 1 1)
  (hc:w.cell? ⟨g,0,none⟩=some (.int .u64 y)) (hl:zs.length<=1000000) (hB:B<=w.heap.size)
  (h:∀ v' w',Own w' B v' (zs++[y])->w.grownBy w' v.ownBlock->(∀ k,v'.ownBlock=some k->v.ownBlock=some k∨w.heap.size<=k)->wpList Tryz.prog ops Q rest (a.put o.dst v') w'):wpList Tryz.prog ops Q (o :: rest) a w:=by
 obtain ⟨i0,hi,hz0,hz1,hz2⟩:=info_parts infoU
 refine wpList_append_own_at w hgd s x 79 ho B 57 i0 _ 1 8 Tryz.underlying79 hi hz0 hz1 hz2 rfl (by decide) v zs.length _ hs hown ⟨g,0,none⟩ 1 1 [.int .u64 y] hx rfl ?_ ?_
  (by unfold maxLen; omega) (by omega) hB ?_
 ·intro j u hj
  have hj5:j<1:=(List.getElem?_eq_some_iff.1 hj).1
  have e:j=0:=by omega
  subst e
  simp at hj
  subst hj
  exact hc
 ·intro u hu
  simp at hu
  rw [hu]; rfl
 ·intro v' w' h1 h2 h3 h4
  refine h v' w' ?_ h2 ?_
  ·unfold Own
   rw [List.length_append,List.map_append]
   exact h1
  ·intro k hk
   rcases h4 with e | e
   ·exact .inl (e ▸ hk)
   ·rw [e] at hk
    exact .inr (by injection hk with hk; omega)

end Go.Proofs.YtoljhoabbaigdaaGreat
