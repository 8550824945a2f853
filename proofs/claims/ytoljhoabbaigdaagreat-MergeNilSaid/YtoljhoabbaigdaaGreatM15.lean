/- Proved parts: D2w D2o. Conditions: each theorem's own. -/
import Derived.Test.YtoljhoabbaigdaaGreatM9
import Derived.Test.YtoljhoabbaigdaaGreatM14
import Derived.ArgAppend
import Derived.Deep.MidRow
import Derived.BigQuiet
import Derived.Lib.Overlaps
import Derived.Lib.AppendZerosOnto
import Derived.RegionTactic
import Derived.Deep.RegionLaw
import Derived.Test.YtoljhoabbaigdaaGreatM8
import Derived.Test.YtoljhoabbaigdaaGreatQ0
set_option maxRecDepth 100000
set_option maxHeartbeats 8000000
namespace Go.Proofs.YtoljhoabbaigdaaGreat
open Go.RowKit

def wcs (l:Wl):List Value:=l.flatMap Wr.cs
theorem wcs_len (l:Wl):(wcs l).length=l.length * 5:=flat_len (f:=Wr.cs) (n:=5) (fun _=>rfl) l
def PlainW (w:World) (b:Nat):Prop:=∃ cur,w.heap[b]?=some (.cells cur 61 (0,0))
theorem PlainW.lt {w:World} {b:Nat} (h:PlainW w b):b<w.heap.size:=by obtain ⟨_,h⟩:=h; exact (Array.getElem?_eq_some_iff.1 h).1
theorem PlainW.setCell {w:World} {b:Nat} (h:PlainW w b) (p:Addr) (u:Value):PlainW (w.setCell p u) b:=by
 obtain ⟨cur,h⟩:=h
 by_cases e:b=p.block
 ·subst e
  unfold PlainW World.setCell
  simp only [Array.getElem?_modify]
  rw [h]
  exact ⟨_,rfl⟩
 ·exact ⟨cur,(Below.heap_setCell _ _ _ _ e).trans h⟩
theorem PlainW.setCells {b:Nat} (g:Nat):∀ (vs:List Value) (o:Nat) (w:World),PlainW w b->PlainW (w.setCells g o vs) b
 | [],_,_,h=>h
 | v :: r,o,_,h=>PlainW.setCells g r (o+1) _ (h.setCell _ v)
theorem PlainW.frozen {w:World} {b:Nat} (h:PlainW w b) (j:Nat):w.frozen? ⟨b,j,none⟩=false:=by
 obtain ⟨cur,h⟩:=h
 simp [World.frozen?,h]

def InWinW (v:Value) (k j:Nat):Prop:=∃ o n c,v=.slice (some ⟨k,o,none⟩) n c∧o<=j∧j<o+c * 5
structure WinAtW (w:World) (b o c:Nat) (zs:Wl):Prop where
 fit:zs.length<=c
 cap:c<=maxLen
 pos:0<=c
 row:w.rangeAt b o (wcs zs)
 there:∀ j,j<c * 5->(w.cell? ⟨b,o+j,none⟩).isSome=true
 plain:PlainW w b
def NodeAtW (w:World) (v:Value) (zs:Wl):Prop:=(v=.slice none 0 0∧zs=[])∨∃ b o c,v=.slice (some ⟨b,o,none⟩) zs.length c∧WinAtW w b o c zs
theorem WinAtW.node {w:World} {b o c:Nat} {zs:Wl} (h:WinAtW w b o c zs):NodeAtW w (.slice (some ⟨b,o,none⟩) zs.length c) zs:=.inr ⟨b,o,c,rfl,h⟩
theorem WinAtW.cell {w:World} {b o c:Nat} {zs:Wl} (h:WinAtW w b o c zs) (j i:Nat) (hj:j<zs.length) (hi:i<5):w.cell? ⟨b,o+j * 5+i,none⟩=(zs.getD j Wr.Z).cs[i]?:=by
 have e:zs.getD j Wr.Z=zs[j]:=by rw [List.getD_eq_getElem?_getD,List.getElem?_eq_getElem hj]; rfl
 have f:=flat_at (f:=Wr.cs) (n:=5) (fun _=>rfl) zs j i hj hi
 have hl:i<(zs[j]).cs.length:=hi
 rw [e,Nat.add_assoc,h.row (j * 5+i) _ (by unfold wcs; rw [f,List.getElem?_eq_getElem hl]),List.getElem?_eq_getElem hl]
theorem NodeAtW.sl {w:World} {v:Value} {zs:Wl} (h:NodeAtW w v zs):∃ A c,v=.slice A zs.length c∧SlWr w A zs∧(zs.length<=c)∧(A=none->zs=[]∧c=0)∧∀ a,A=some a->v.ownBlock=some a.block∧a.block<w.heap.size:=by
 rcases h with ⟨rfl,rfl⟩ | ⟨b,o,c,rfl,h⟩
 ·exact ⟨none,0,rfl,fun hp=>absurd hp (by simp),Nat.le_refl _,fun _=>⟨rfl,rfl⟩,fun a e=>by cases e⟩
 ·refine ⟨some ⟨b,o,none⟩,c,rfl,fun hp=>⟨b,o,rfl,h.plain.lt,fun j hj=>⟨h.cell j 0 hj (by decide),h.cell j 1 hj (by decide),h.cell j 2 hj (by decide),h.cell j 3 hj (by decide),h.cell j 4 hj (by decide)⟩⟩,h.fit,fun e=>(by cases e),fun a e=>?_⟩
  injection e with e
  subst e
  exact ⟨rfl,h.plain.lt⟩

structure TurnW (F:Nat->Nat->Prop) (w w':World):Prop where
 os:w'.os=w.os
 tape:w'.tape=w.tape
 output:w'.output=w.output
 size:w.heap.size<=w'.heap.size
 block:∀ k,k<w.heap.size->(∀ j,¬ F k j)->w'.heap[k]?=w.heap[k]?
 cell:∀ k j,k<w.heap.size->¬ F k j->w'.cell? ⟨k,j,none⟩=w.cell? ⟨k,j,none⟩
 there:∀ k j,k<w.heap.size->(w.cell? ⟨k,j,none⟩).isSome=true->(w'.cell? ⟨k,j,none⟩).isSome=true
 plain:∀ k,PlainW w k->PlainW w' k
section
variable {F G:Nat->Nat->Prop} {a b c w w':World}
theorem TurnW.refl (F:Nat->Nat->Prop) (w:World):TurnW F w w:=⟨rfl,rfl,rfl,Nat.le_refl _,fun _ _ _=>rfl,fun _ _ _ _=>rfl,fun _ _ _ h=>h,fun _ h=>h⟩
theorem TurnW.of_below (h:Below w.heap.size w w'):TurnW F w w' :=
 ⟨h.os,h.tape,h.output,h.size,fun k hk _=>h.block k hk,fun k j hk _=>World.cell?_of_block (a:=⟨k,j,none⟩) (h.block k hk),fun k j hk q=>by
  rw [World.cell?_of_block (a:=⟨k,j,none⟩) (h.block k hk)]; exact q,fun k hk=>by obtain ⟨cur,e⟩:=hk; exact ⟨cur,(h.block k (PlainW.lt ⟨cur,e⟩)).trans e⟩⟩
theorem TurnW.trans (h:TurnW F a b) (k:TurnW G b c) (hg:∀ i j,G i j->F i j∨a.heap.size<=i):TurnW F a c :=
 ⟨k.os.trans h.os,k.tape.trans h.tape,k.output.trans h.output,Nat.le_trans h.size k.size,fun i hi hn=>(k.block i (Nat.lt_of_lt_of_le hi h.size) (fun j e=>by
   rcases hg i j e with q | q
   ·exact hn j q
   ·omega)).trans (h.block i hi hn),fun i j hi hn=>(k.cell i j (Nat.lt_of_lt_of_le hi h.size) (fun e=>by
   rcases hg i j e with q | q
   ·exact hn q
   ·omega)).trans (h.cell i j hi hn),fun i j hi q=>k.there i j (Nat.lt_of_lt_of_le hi h.size) (h.there i j hi q),fun i q=>k.plain i (h.plain i q)⟩
theorem TurnW.mono (h:TurnW F w w') (hg:∀ i j,F i j->G i j):TurnW G w w' :=
 ⟨h.os,h.tape,h.output,h.size,fun k hk hn=>h.block k hk fun j e=>hn j (hg k j e),fun k j hk hn=>h.cell k j hk fun e=>hn (hg k j e),h.there,h.plain⟩
theorem TurnW.then (h:TurnW F a b) (k:TurnW F b c):TurnW F a c:=h.trans k fun _ _ e=>.inl e
theorem TurnW.chg (h:TurnW F w w') {E:Nat->Prop} (hE:∀ k j,F k j->E k):Chg E w w':=⟨h.os,h.tape,h.output,h.size,fun k hk hn=>h.block k hk fun j e=>hn (hE k j e)⟩
theorem TurnW.setCells (w:World) (g o:Nat) (vs:List Value):TurnW (fun k j=>k=g∧o<=j∧j<o+vs.length) w (w.setCells g o vs):=by
 have fr:=World.keptBut_setCells g (may:=fun _=>True) vs o w (fun _ _=>trivial)
 have key:∀ (vs:List Value) (o:Nat) (w:World),(w.setCells g o vs).os=w.os∧(w.setCells g o vs).tape=w.tape∧(w.setCells g o vs).output=w.output∧(w.setCells g o vs).heap.size=w.heap.size∧∀ k,k≠g->(w.setCells g o vs).heap[k]?=w.heap[k]?:=by
  intro vs
  induction vs with
  | nil=>exact fun o w=>⟨rfl,rfl,rfl,rfl,fun _ _=>rfl⟩
  | cons v r ih =>
   intro o w
   obtain ⟨h1,h2,h3,h4,h5⟩:=ih (o+1) (w.setCell ⟨g,o,none⟩ v)
   exact ⟨h1,h2,h3,by rw [World.setCells,h4]; simp [World.setCell],fun k hk=>(h5 k hk).trans (Below.heap_setCell _ _ _ _ hk)⟩
 obtain ⟨h1,h2,h3,h4,h5⟩:=key vs o w
 have kc:∀ k j,¬ (k=g∧o<=j∧j<o+vs.length)->(w.setCells g o vs).cell? ⟨k,j,none⟩=w.cell? ⟨k,j,none⟩:=fun k j hn =>
  World.cell?_setCells_out g vs o w ⟨k,j,none⟩ (fun e _=>by
   simp only at e ⊢
   by_cases q:j<o
   ·exact .inl q
   ·exact .inr (Nat.le_of_not_lt fun q2=>hn ⟨e,by omega,q2⟩))
 refine ⟨h1,h2,h3,by omega,fun k hk hn=>?_,fun k j _ hn=>kc k j hn,fun k j _ q=>World.isSome_setCells g vs o w _ q,fun k hk=>PlainW.setCells g vs o w hk⟩
 by_cases e:k=g
 ·subst e
  cases vs with
  | nil=>rfl
  | cons v r=>exact absurd ⟨rfl,Nat.le_refl o,by simp⟩ (hn o)
 ·exact h5 k e
end
theorem WinAtW.turn {F:Nat->Nat->Prop} {w w':World} {b o c:Nat} {zs:Wl} (h:WinAtW w b o c zs) (t:TurnW F w w') (hn:∀ j,o<=j->j<o+c * 5->¬ F b j):WinAtW w' b o c zs:=by
 have lt:=h.plain.lt
 have hf:=h.fit
 refine ⟨h.fit,h.cap,h.pos,fun j v hj=>?_,fun j hj=>t.there _ _ lt (h.there j hj),t.plain _ h.plain⟩
 have hj2:j<zs.length * 5:=by rw [<-wcs_len]; exact (List.getElem?_eq_some_iff.1 hj).1
 rw [t.cell b (o+j) lt (hn _ (by omega) (by omega))]
 exact h.row j v hj
theorem NodeAtW.turn {F:Nat->Nat->Prop} {w w':World} {v:Value} {zs:Wl} (h:NodeAtW w v zs) (t:TurnW F w w') (hn:∀ k j,InWinW v k j->¬ F k j):NodeAtW w' v zs:=by
 rcases h with ⟨rfl,rfl⟩ | ⟨b,o,c,rfl,h⟩
 ·exact .inl ⟨rfl,rfl⟩
 ·exact .inr ⟨b,o,c,rfl,h.turn t fun j h1 h2=>hn b j ⟨o,_,c,rfl,h1,h2⟩⟩
theorem InWinW.lt {w:World} {v:Value} {zs:Wl} {k j:Nat} (h:NodeAtW w v zs) (hi:InWinW v k j):k<w.heap.size:=by
 obtain ⟨o,n,c,rfl,_⟩:=hi
 rcases h with ⟨e,_⟩ | ⟨b,o',c',e,h⟩
 ·cases e
 ·injection e with e _ _
  injection e with e
  injection e with e _ _
  subst e
  exact h.plain.lt

section
variable {P:Program} {w:World}
end
def MovedW (w:World) (v:Value) (zs:Wl) (v':Value) (w':World):Prop:=NodeAtW w' v' zs∧TurnW (InWinW v) w w'∧(∀ k,v'.ownBlock=some k->v.ownBlock=some k∨w.heap.size<=k)∧v'≠.slice none 0 0

end Go.Proofs.YtoljhoabbaigdaaGreat

namespace Go.Proofs.YtoljhoabbaigdaaGreat
open Go.RowKit

section
variable {w w':World} {v:Value} {l:Wl}
theorem NodeAtW.keep (h:NodeAtW w v l) (hk:∀ k,v.ownBlock=some k->w'.heap[k]?=w.heap[k]?):NodeAtW w' v l:=by
 rcases h with ⟨rfl,rfl⟩ | ⟨b,o,c,rfl,h⟩
 ·exact .inl ⟨rfl,rfl⟩
 ·have e:w'.heap[b]?=w.heap[b]?:=hk b rfl
  have ce:∀ j,w'.cell? ⟨b,j,none⟩=w.cell? ⟨b,j,none⟩:=fun j=>World.cell?_of_block (a:=⟨b,j,none⟩) e
  exact .inr ⟨b,o,c,rfl,h.fit,h.cap,h.pos,fun j u hj=>(ce _).trans (h.row j u hj),fun j hj=>by rw [ce]; exact h.there j hj,by
   obtain ⟨cur,hc⟩:=h.plain
   exact ⟨cur,e.trans hc⟩⟩
theorem NodeAtW.lt (h:NodeAtW w v l) {k:Nat} (e:v.ownBlock=some k):k<w.heap.size:=by
 rcases h with ⟨rfl,rfl⟩ | ⟨b,o,c,rfl,h⟩
 ·cases e
 ·injection e with e
  subst e
  exact h.plain.lt
theorem NodeAtW.below (h:NodeAtW w v l) (hb:Below w.heap.size w w'):NodeAtW w' v l:=h.keep fun k e=>hb.block k (h.lt e)
theorem NodeAtW.own {B:Nat} (h:w.ownsRow B 61 5 v l.length (wcs l)):NodeAtW w v l:=by
 rcases h with ⟨h1,⟨rfl,h0⟩ | ⟨g,cap,cur,rfl,hB,hg,hc,hm,hs,ht⟩⟩
 ·exact .inl ⟨rfl,List.length_eq_zero_iff.1 h0⟩
 ·have row:RowAt w g cur.toList 61:=by unfold RowAt; simpa using hg
  refine .inr ⟨g,0,cap,rfl,hc,hm,Nat.zero_le _,fun j u hj=>?_,fun j hj=>?_,⟨cur,hg⟩⟩
  ·have hl:=(List.getElem?_eq_some_iff.1 hj).1
   rw [wcs_len] at hl
   rw [RowAt.cell row,Nat.zero_add,<-hj,<-ht,List.getElem?_take,if_pos hl]
  ·rw [RowAt.cell row,Nat.zero_add,List.getElem?_eq_getElem (by rw [Array.length_toList]; omega)]; rfl
theorem NodeAtW.one {g:Nat} {x:Wr} (h:RowAt w g x.cs 61):NodeAtW w (.slice (some ⟨g,0,none⟩) 1 1) [x]:=by
 refine .inr ⟨g,0,1,rfl,Nat.le_refl _,by unfold maxLen; omega,Nat.zero_le _,fun j u hj=>?_,fun j hj=>?_,⟨_,h⟩⟩
 ·rw [RowAt.cell h,Nat.zero_add]; simpa [wcs] using hj
 ·rw [RowAt.cell h,Nat.zero_add,List.getElem?_eq_getElem (show j<x.cs.length from hj)]; rfl
theorem NodeAtW.made (w:World):NodeAtW (w.alloc (.cells #[] 61)) (.slice (some ⟨w.heap.size,0,none⟩) 0 0) [] :=
 .inr ⟨w.heap.size,0,0,rfl,Nat.le_refl _,by unfold maxLen; omega,Nat.zero_le _,fun j u hj=>by simp [wcs] at hj,fun j hj=>by omega,⟨_,RowAt.new w [] _⟩⟩
theorem MovedW.chg {v':Value} (h:MovedW w v l v' w'):NodeAtW w' v' l∧Chg (fun k=>v.ownBlock=some k) w w'∧(∀ k,v'.ownBlock=some k->v.ownBlock=some k∨w.heap.size<=k):=by
 obtain ⟨h1,h2,h3,h4⟩:=h
 refine ⟨h1,h2.chg fun k j e=>?_,h3⟩
 obtain ⟨o,n,c,rfl,_,_⟩:=e
 rfl
end

end Go.Proofs.YtoljhoabbaigdaaGreat
